/- What the landed tree's change does. -/
import Derived.Test.YtpidafpaffpnaaaGreatDoorWDrop11
namespace Go.Proofs.YtpidafpaffpnaaaGreatDoor
open Go.RowKit
/-- What change begins with: an Op and a result, boxed. -/
structure Fc11 (W w : World) (b r : Nat) (o : O) (x : X) (v : Value) : Prop where
  op : Cb w b (oc o) 33
  res : Cb w r (xc x v) 44
  hb : W.heap.size ≤ b
  hr : W.heap.size ≤ r
  below : Below W.heap.size W w
theorem Fc11.later {W w w' : World} {b r : Nat} {o : O} {x : X} {v : Value} (h : Fc11 W w b r o x v) (hb : Below w.heap.size w w') : Fc11 W w' b r o x v := ⟨h.op.below hb, h.res.below hb, h.hb, h.hr, h.below.trans (hb.mono h.below.size)⟩
theorem Fc11.made (w : World) (o : O) (x : X) (v : Value) : Fc11 w (((w.alloc (.cells #[.int .i64 o.kind, .string o.path, .string o.data, .int .i64 o.ver, .int .i64 o.flags] 33))).alloc (.cells (xc x v).toArray 44)) w.heap.size (w.heap.size + 1) o x v := by
  have h1 := (Below.refl _ w).alloc (Nat.le_refl _) (.cells #[.int .i64 o.kind, .string o.path, .string o.data, .int .i64 o.ver, .int .i64 o.flags] 33)
  have h2 := (Below.refl _ (w.alloc (.cells #[.int .i64 o.kind, .string o.path, .string o.data, .int .i64 o.ver, .int .i64 o.flags] 33))).alloc (Nat.le_refl _) (.cells (xc x v).toArray 44)
  have h3 := Cb.made (w.alloc (.cells #[.int .i64 o.kind, .string o.path, .string o.data, .int .i64 o.ver, .int .i64 o.flags] 33)) (xc x v) 44
  rw [World.size_alloc] at h3
  exact ⟨(Cb.made w (oc o) _).below h2, h3, Nat.le_refl _, by omega, h1.trans (h2.mono h1.size)⟩

/-- The same, behind a change of the tree. -/
structure Gc11 (W w : World) (G G' : Nat → Prop) (b r : Nat) (o : O) (x : X) (v : Value) : Prop where
  op : Cb w b (oc o) 33
  res : Cb w r (xc x v) 44
  hb : W.heap.size ≤ b
  hr : W.heap.size ≤ r
  mv : Moved W w G G'
  std : Pa.Std w
  apart : ∀ k, G' k → G k ∨ (W.heap.size ≤ k ∧ k ≠ b ∧ k ≠ r)
theorem Gc11.later {W w w' : World} {G G' : Nat → Prop} {b r : Nat} {o : O} {x : X} {v : Value} (h : Gc11 W w G G' b r o x v) (hb : Below w.heap.size w w') : Gc11 W w' G G' b r o x v := ⟨h.op.below hb, h.res.below hb, h.hb, h.hr, h.mv.trans (Moved.of_below G' hb), h.std.below hb, h.apart⟩

section
variable {w : World} {q m : Nat} {t : Tq.Tr} {G : Nat → Prop} {D : DataW Nat} {P : ByteArray → Nat} {V : ByteArray → Value}

set_option maxRecDepth 20000 in
set_option maxHeartbeats 4000000 in
theorem change_none11 (o : O) (z : Int) (x : X) (ra : Option Addr) (rk rc : Nat) (h : TkU w q t G m D P V) (hS : Pa.Std w) (hk : 4 ≤ o.kind) :
    Calls Tryz.prog 50 #[dptr q, ov o, .int .i64 z, rv x (.slice ra rk rc)] w fun e w' => e = .returned (.tuple #[]) ∧ TkU w' q t G m D P V ∧ Moved w w' G G := by
  have k1 : (o.kind == 1) = false := by simp; omega
  have k2 : (o.kind == 2) = false := by simp; omega
  have k3 : (o.kind == 3) = false := by simp; omega
  clear hk
  have HFR : Hid (Fc11 w ((w.alloc (.cells #[.int .i64 o.kind, .string o.path, .string o.data, .int .i64 o.ver, .int .i64 o.flags] 33)).alloc (.cells #[.int .i64 x.err, .string x.path, .string x.data, .slice ra rk rc, .int .i64 x.made, .int .i64 x.changed, .int .i64 x.ver, .int .i64 x.kids, .int .i64 x.owner, .int .i64 x.len, .int .i64 x.cnt] 44)) w.heap.size (w.heap.size + 1) o x (.slice ra rk rc)) := Fc11.made w o x _
  have HD : Hid (TkU ((w.alloc (.cells #[.int .i64 o.kind, .string o.path, .string o.data, .int .i64 o.ver, .int .i64 o.flags] 33)).alloc (.cells #[.int .i64 x.err, .string x.path, .string x.data, .slice ra rk rc, .int .i64 x.made, .int .i64 x.changed, .int .i64 x.ver, .int .i64 x.kids, .int .i64 x.owner, .int .i64 x.len, .int .i64 x.cnt] 44)) q t G m D P V ∧ Pa.Std ((w.alloc (.cells #[.int .i64 o.kind, .string o.path, .string o.data, .int .i64 o.ver, .int .i64 o.flags] 33)).alloc (.cells #[.int .i64 x.err, .string x.path, .string x.data, .slice ra rk rc, .int .i64 x.made, .int .i64 x.changed, .int .i64 x.ver, .int .i64 x.kids, .int .i64 x.owner, .int .i64 x.len, .int .i64 x.cnt] 44))) := ⟨h.below HFR.out.below, hS.below HFR.out.below⟩
  obtain ⟨b, hbw⟩ : ∃ b, b = w.heap.size := ⟨_, rfl⟩
  obtain ⟨r, hrw⟩ : ∃ r, r = w.heap.size + 1 := ⟨_, rfl⟩
  rw [← hrw, ← hbw] at HFR
  have HHW : Hid (∀ k, G k → k < w.heap.size) := h.glt
  have HSZ : Hid (6 ≤ w.heap.size) := hS.size
  clear h hS
  unfold ov rv
  go_enter Tryz.func50, Tryz.ntmps50
  go_upto_region 1 with fail
  rw [← hrw, ← hbw]
  clear hrw hbw
  generalize ((w.alloc (.cells #[.int .i64 o.kind, .string o.path, .string o.data, .int .i64 o.ver, .int .i64 o.flags] 33)).alloc (.cells #[.int .i64 x.err, .string x.path, .string x.data, .slice ra rk rc, .int .i64 x.made, .int .i64 x.changed, .int .i64 x.ver, .int .i64 x.kids, .int .i64 x.owner, .int .i64 x.len, .int .i64 x.cnt] 44)) = w0 at *
  have o0 : w0.cell? ⟨b, 0, none⟩ = some (.int .i64 o.kind) := HFR.out.op.cell 0
  go_wp2
  go_end0
  exact ⟨rfl, HD.out.1, Moved.of_below G HFR.out.below⟩

set_option maxRecDepth 20000 in
set_option maxHeartbeats 4000000 in
theorem change_set11 (o : O) (z : Int) (x : X) (n : Kq.Kn) (ra : Option Addr) (rk rc : Nat) (h : TkU w q t G m D P V) (hf : Fine11 t) (hS : Pa.Std w) (hk : o.kind = 3) (hd : o.data.size ≤ 1000) (hg : Pl.goodB x.path.data.toList = true) (hn : Tq.find t.l x.path = some n) :
    Calls Tryz.prog 50 #[dptr q, ov o, .int .i64 z, rv x (.slice ra rk rc)] w fun e w' => e = .returned (.tuple #[]) ∧ ∃ G', LTk w' q { t with l := Tq.set t.l x.path (Kq.write n z o.data) } G' ∧ Moved w w' G G' := by
  have k1 : (o.kind == 1) = false := by simp [hk]
  have k2 : (o.kind == 2) = false := by simp [hk]
  have k3 : (o.kind == 3) = true := by simp [hk]
  obtain ⟨pb, hpb⟩ : ∃ pb, pb = P x.path := ⟨_, rfl⟩
  have HN : Hid (Tq.find t.l x.path = some n ∧ pb = P x.path ∧ x.path.size ≤ maxLen ∧ o.data.size ≤ 1000 ∧ Node11 n) := ⟨hn, hpb, good_max hg, hd, Tq.find_node hf hn⟩
  clear hk hn hpb hg hd hf
  have HFR : Hid (Fc11 w ((w.alloc (.cells #[.int .i64 o.kind, .string o.path, .string o.data, .int .i64 o.ver, .int .i64 o.flags] 33)).alloc (.cells #[.int .i64 x.err, .string x.path, .string x.data, .slice ra rk rc, .int .i64 x.made, .int .i64 x.changed, .int .i64 x.ver, .int .i64 x.kids, .int .i64 x.owner, .int .i64 x.len, .int .i64 x.cnt] 44)) w.heap.size (w.heap.size + 1) o x (.slice ra rk rc)) := Fc11.made w o x _
  have HD : Hid (TkU ((w.alloc (.cells #[.int .i64 o.kind, .string o.path, .string o.data, .int .i64 o.ver, .int .i64 o.flags] 33)).alloc (.cells #[.int .i64 x.err, .string x.path, .string x.data, .slice ra rk rc, .int .i64 x.made, .int .i64 x.changed, .int .i64 x.ver, .int .i64 x.kids, .int .i64 x.owner, .int .i64 x.len, .int .i64 x.cnt] 44)) q t G m D P V ∧ Pa.Std ((w.alloc (.cells #[.int .i64 o.kind, .string o.path, .string o.data, .int .i64 o.ver, .int .i64 o.flags] 33)).alloc (.cells #[.int .i64 x.err, .string x.path, .string x.data, .slice ra rk rc, .int .i64 x.made, .int .i64 x.changed, .int .i64 x.ver, .int .i64 x.kids, .int .i64 x.owner, .int .i64 x.len, .int .i64 x.cnt] 44))) := ⟨h.below HFR.out.below, hS.below HFR.out.below⟩
  obtain ⟨b, hbw⟩ : ∃ b, b = w.heap.size := ⟨_, rfl⟩
  obtain ⟨r, hrw⟩ : ∃ r, r = w.heap.size + 1 := ⟨_, rfl⟩
  rw [← hrw, ← hbw] at HFR
  have HHW : Hid (∀ k, G k → k < w.heap.size) := h.glt
  have HSZ : Hid (6 ≤ w.heap.size) := hS.size
  clear h hS
  unfold ov rv
  go_enter Tryz.func50, Tryz.ntmps50
  go_upto_region 1 with fail
  rw [← hrw, ← hbw]
  clear hrw hbw
  generalize ((w.alloc (.cells #[.int .i64 o.kind, .string o.path, .string o.data, .int .i64 o.ver, .int .i64 o.flags] 33)).alloc (.cells #[.int .i64 x.err, .string x.path, .string x.data, .slice ra rk rc, .int .i64 x.made, .int .i64 x.changed, .int .i64 x.ver, .int .i64 x.kids, .int .i64 x.owner, .int .i64 x.len, .int .i64 x.cnt] 44)) = w0 at *
  have o0 : w0.cell? ⟨b, 0, none⟩ = some (.int .i64 o.kind) := HFR.out.op.cell 0
  go_wp2_with fail
  refine wp_region_held_drew (S := fun w' => Cb w' q [.map (some m), .int .i64 t.room] 98 ∧ Cb w' b (oc o) 33 ∧ Cb w' r (xc x (.slice ra rk rc)) 44) (by kernel_rfl) ⟨HD.out.1.blk, HFR.out.op, HFR.out.res⟩ (fun _ => ?_)
  have H1 : Hid (TkU w0.drew q t G m D P V ∧ Fc11 w w0.drew b r o x (.slice ra rk rc)) := ⟨HD.out.1.below (Below.refl _ _).drew, HFR.out.later (Below.refl _ _).drew⟩
  clear o0 HD HFR
  generalize w0.drew = w1 at *
  have HLK : Hid ((Instr.lookup 96 (.map (some m)) (.string x.path) false).run Tryz.prog w1 = .ok (dptr pb) w1) := by
    have e := H1.out.1.look_one HN.out.2.2.1 HN.out.1
    rw [← HN.out.2.1] at e
    exact e
  refine' take_at (i := 0) (d := 52) (v := _) rfl rfl (by kernel_rfl) (by kernel_rfl) (by kernel_rfl) (fun _ _ _ h => h) (Or.inl ⟨by rfl, ?h0⟩) (⟨H1.out.1.blk, H1.out.2.op, H1.out.2.res⟩) ?_
  case h0 =>
    intro w hSw
    have cq : w.cell? ⟨q, 0, none⟩ = some (.map (some m)) := hSw.1.cell 0
    have cp : w.cell? ⟨r, 1, none⟩ = some (.string x.path) := hSw.2.2.cell 1
    have cd : w.cell? ⟨b, 2, none⟩ = some (.string o.data) := hSw.2.1.cell 2
    go_simp
    with_reducible rfl
  simp only [List.setIfInBounds_toArray, List.set_cons_zero, List.set_cons_succ]
  refine' take_at (i := 1) (d := 53) (v := _) rfl rfl (by kernel_rfl) (by kernel_rfl) (by kernel_rfl) (fun _ _ _ h => h) (Or.inl ⟨by rfl, ?h1⟩) (⟨H1.out.1.blk, H1.out.2.op, H1.out.2.res⟩) ?_
  case h1 =>
    intro w hSw
    have cq : w.cell? ⟨q, 0, none⟩ = some (.map (some m)) := hSw.1.cell 0
    have cp : w.cell? ⟨r, 1, none⟩ = some (.string x.path) := hSw.2.2.cell 1
    have cd : w.cell? ⟨b, 2, none⟩ = some (.string o.data) := hSw.2.1.cell 2
    go_simp
    with_reducible rfl
  simp only [List.setIfInBounds_toArray, List.set_cons_zero, List.set_cons_succ]
  refine' take_at (i := 2) (d := 54) (v := _) rfl rfl (by kernel_rfl) (by kernel_rfl) (by kernel_rfl) (fun _ _ _ h => h) (Or.inl ⟨by rfl, ?h2⟩) (⟨H1.out.1.blk, H1.out.2.op, H1.out.2.res⟩) ?_
  case h2 =>
    intro w hSw
    have cq : w.cell? ⟨q, 0, none⟩ = some (.map (some m)) := hSw.1.cell 0
    have cp : w.cell? ⟨r, 1, none⟩ = some (.string x.path) := hSw.2.2.cell 1
    have cd : w.cell? ⟨b, 2, none⟩ = some (.string o.data) := hSw.2.1.cell 2
    go_simp
    with_reducible rfl
  simp only [List.setIfInBounds_toArray, List.set_cons_zero, List.set_cons_succ]
  refine' take_at (i := 3) (d := 55) (v := _) rfl rfl (by kernel_rfl) (by kernel_rfl) (by kernel_rfl) (fun _ _ _ h => h) (Or.inl ⟨by rfl, ?h3⟩) (⟨H1.out.1.blk, H1.out.2.op, H1.out.2.res⟩) ?_
  case h3 =>
    intro w hSw
    have cq : w.cell? ⟨q, 0, none⟩ = some (.map (some m)) := hSw.1.cell 0
    have cp : w.cell? ⟨r, 1, none⟩ = some (.string x.path) := hSw.2.2.cell 1
    have cd : w.cell? ⟨b, 2, none⟩ = some (.string o.data) := hSw.2.1.cell 2
    go_simp
    with_reducible rfl
  simp only [List.setIfInBounds_toArray, List.set_cons_zero, List.set_cons_succ]
  refine' take_at (i := 4) (d := 56) (v := _) rfl rfl (by kernel_rfl) (by kernel_rfl) (by kernel_rfl) (fun _ _ _ h => h) (Or.inl ⟨by rfl, ?h4⟩) (⟨H1.out.1.blk, H1.out.2.op, H1.out.2.res⟩) ?_
  case h4 =>
    intro w hSw
    have cq : w.cell? ⟨q, 0, none⟩ = some (.map (some m)) := hSw.1.cell 0
    have cp : w.cell? ⟨r, 1, none⟩ = some (.string x.path) := hSw.2.2.cell 1
    have cd : w.cell? ⟨b, 2, none⟩ = some (.string o.data) := hSw.2.1.cell 2
    go_simp
    with_reducible rfl
  simp only [List.setIfInBounds_toArray, List.set_cons_zero, List.set_cons_succ]
  refine' take_at (i := 5) (d := 57) (v := _) rfl rfl (by kernel_rfl) (by kernel_rfl) (by kernel_rfl) (fun _ _ _ h => h) (Or.inl ⟨by rfl, ?h5⟩) (⟨H1.out.1.blk, H1.out.2.op, H1.out.2.res⟩) ?_
  case h5 =>
    intro w hSw
    have cq : w.cell? ⟨q, 0, none⟩ = some (.map (some m)) := hSw.1.cell 0
    have cp : w.cell? ⟨r, 1, none⟩ = some (.string x.path) := hSw.2.2.cell 1
    have cd : w.cell? ⟨b, 2, none⟩ = some (.string o.data) := hSw.2.1.cell 2
    go_simp
    with_reducible rfl
  simp only [List.setIfInBounds_toArray, List.set_cons_zero, List.set_cons_succ]
  refine' take_at (i := 9) (d := 61) (v := _) rfl rfl (by kernel_rfl) (by kernel_rfl) (by kernel_rfl) (fun _ _ _ h => h) (Or.inl ⟨by rfl, ?h9⟩) (⟨H1.out.1.blk, H1.out.2.op, H1.out.2.res⟩) ?_
  case h9 =>
    intro w hSw
    have cq : w.cell? ⟨q, 0, none⟩ = some (.map (some m)) := hSw.1.cell 0
    have cp : w.cell? ⟨r, 1, none⟩ = some (.string x.path) := hSw.2.2.cell 1
    have cd : w.cell? ⟨b, 2, none⟩ = some (.string o.data) := hSw.2.1.cell 2
    go_simp
    with_reducible rfl
  simp only [List.setIfInBounds_toArray, List.set_cons_zero, List.set_cons_succ]
  refine' take_at (i := 10) (d := 62) (v := _) rfl rfl (by kernel_rfl) (by kernel_rfl) (by kernel_rfl) (fun _ _ _ h => h) (Or.inl ⟨by rfl, ?h10⟩) (⟨H1.out.1.blk, H1.out.2.op, H1.out.2.res⟩) ?_
  case h10 =>
    intro w hSw
    have cq : w.cell? ⟨q, 0, none⟩ = some (.map (some m)) := hSw.1.cell 0
    have cp : w.cell? ⟨r, 1, none⟩ = some (.string x.path) := hSw.2.2.cell 1
    have cd : w.cell? ⟨b, 2, none⟩ = some (.string o.data) := hSw.2.1.cell 2
    go_simp
    with_reducible rfl
  simp only [List.setIfInBounds_toArray, List.set_cons_zero, List.set_cons_succ]
  refine' take_at (i := 11) (d := 63) (v := _) rfl rfl (by kernel_rfl) (by kernel_rfl) (by kernel_rfl) (fun _ _ _ h => h) (Or.inl ⟨by rfl, ?h11⟩) (⟨H1.out.1.blk, H1.out.2.op, H1.out.2.res⟩) ?_
  case h11 =>
    intro w hSw
    have cq : w.cell? ⟨q, 0, none⟩ = some (.map (some m)) := hSw.1.cell 0
    have cp : w.cell? ⟨r, 1, none⟩ = some (.string x.path) := hSw.2.2.cell 1
    have cd : w.cell? ⟨b, 2, none⟩ = some (.string o.data) := hSw.2.1.cell 2
    go_simp
    with_reducible rfl
  simp only [List.setIfInBounds_toArray, List.set_cons_zero, List.set_cons_succ]
  refine wpAnyH_ready (rs := [6]) (by kernel_rfl) (by simp) ?_
  refine AllReadyH.cons (o := _) rfl (fun KQ hKQ => ?_) AllReadyH.nil
  have hlk := HLK.out
  go_simp
  clear hlk
  refine hKQ.out _ _ ⟨H1.out.1.blk, H1.out.2.op, H1.out.2.res⟩ (fun _ => ?_)
  clear hKQ KQ
  refine' take_at (i := 7) (d := 59) (v := _) rfl rfl (by kernel_rfl) (by kernel_rfl) (by kernel_rfl) (fun _ _ _ h => h) (Or.inl ⟨by rfl, ?h7⟩) (⟨H1.out.1.blk, H1.out.2.op, H1.out.2.res⟩) ?_
  case h7 =>
    intro w hSw
    go_simp
    with_reducible rfl
  simp only [List.setIfInBounds_toArray, List.set_cons_zero, List.set_cons_succ]
  refine' take_at (i := 8) (d := 60) (v := _) rfl rfl (by kernel_rfl) (by kernel_rfl) (by kernel_rfl) (fun _ _ _ h => h) (Or.inl ⟨by rfl, ?h8⟩) (⟨H1.out.1.blk, H1.out.2.op, H1.out.2.res⟩) ?_
  case h8 =>
    intro w hSw
    go_simp
    with_reducible rfl
  simp only [List.setIfInBounds_toArray, List.set_cons_zero, List.set_cons_succ]
  refine wpAnyH_ready (rs := [12]) (by kernel_rfl) (by simp) ?_
  refine AllReadyH.cons (o := _) rfl (fun KQ hKQ => ?_) AllReadyH.nil
  go_simp
  refine (write_any11 pb n (V x.path) z o.data w1 (by rw [HN.out.2.1]; exact (H1.out.1.node _ (Tq.find_some HN.out.1)).blk) (fine11_10 HN.out.2.2.2.2) (by have := HN.out.2.2.2.1; omega)).mono ?_
  rintro e w2 ⟨rfl, hcb, hgr⟩
  have HO := H1.out.1.node _ (Tq.find_some HN.out.1)
  simp only [] at HO
  have H2 : Hid ((∃ G', LTk w2 q { t with l := Tq.set t.l x.path (Kq.write n z o.data) } G' ∧ Moved w w2 G G') ∧ Cb w2 q [.map (some m), .int .i64 t.room] 98 ∧ Cb w2 b (oc o) 33 ∧ Cb w2 r (xc x (.slice ra rk rc)) 44) := by
    rw [HN.out.2.1] at hcb hgr
    have hmv : Moved w1 w2 (Fn (P x.path) (V x.path)) (Fn (P x.path) (V x.path)) := ⟨hgr.os, hgr.tape, hgr.output, hgr.size, fun k hk hF => hgr.block k hk (fun e => hF (Or.inl (Option.some.inj e))), fun _ hk => Or.inl hk⟩
    have hO2 : Own11 w2 (P x.path) (Kq.write n z o.data) (V x.path) := ⟨hcb, row_stays HO.row (fun k e => hgr.block k (HO.row.lt k e).2 (fun e2 => HO.vne (by rw [e, e2]))), HO.rises⟩
    have key := H1.out.1.change (Tq.find_some HN.out.1) hO2 hmv
    have hlt : P x.path < w.heap.size := HHW.out _ (H1.out.1.gf _ (Tq.find_some HN.out.1)).1
    have hb := H1.out.2.hb
    have hr := H1.out.2.hr
    refine ⟨⟨_, ⟨m, D, P, _, key.1⟩, (Moved.of_below G H1.out.2.below).trans key.2⟩, key.1.blk, H1.out.2.op.keep (hgr.block b H1.out.2.op.lt (by simp; omega)), H1.out.2.res.keep (hgr.block r H1.out.2.res.lt (by simp; omega))⟩
  clear hcb hgr HO
  simp only []
  refine hKQ.out _ _ H2.out.2 (fun _ => ?_)
  clear hKQ KQ
  refine wpAnyH_done (by kernel_rfl) ?_ _
  go_wp2
  go_end0
  exact ⟨rfl, H2.out.1⟩

set_option maxRecDepth 20000 in
set_option maxHeartbeats 4000000 in
theorem change_gone11 (o : O) (z : Int) (x : X) (n : Kq.Kn) (ra : Option Addr) (rk rc : Nat) (h : TkU w q t G m D P V) (hf : Fine11 t) (h6 : ∀ k, G k → 6 ≤ k) (hS : Pa.Std w) (hk : o.kind = 2) (hg : Pl.goodB x.path.data.toList = true) (hn : Tq.find t.l x.path = some n) :
    Calls Tryz.prog 50 #[dptr q, ov o, .int .i64 z, rv x (.slice ra rk rc)] w fun e w' => e = .returned (.tuple #[]) ∧ ∃ G', LTk w' q { t with l := Tq.orphan (Tq.del t.l x.path) x.path } G' ∧ Moved w w' G G' := by
  have k1 : (o.kind == 1) = false := by simp [hk]
  have k2 : (o.kind == 2) = true := by simp [hk]
  have HN : Hid (Tq.find t.l x.path = some n ∧ Fine11 t ∧ Pl.goodB x.path.data.toList = true ∧ ∀ k, G k → 6 ≤ k) := ⟨hn, hf, hg, h6⟩
  clear hk hn hg hf h6
  have HFR : Hid (Fc11 w ((w.alloc (.cells #[.int .i64 o.kind, .string o.path, .string o.data, .int .i64 o.ver, .int .i64 o.flags] 33)).alloc (.cells #[.int .i64 x.err, .string x.path, .string x.data, .slice ra rk rc, .int .i64 x.made, .int .i64 x.changed, .int .i64 x.ver, .int .i64 x.kids, .int .i64 x.owner, .int .i64 x.len, .int .i64 x.cnt] 44)) w.heap.size (w.heap.size + 1) o x (.slice ra rk rc)) := Fc11.made w o x _
  have HD : Hid (TkU ((w.alloc (.cells #[.int .i64 o.kind, .string o.path, .string o.data, .int .i64 o.ver, .int .i64 o.flags] 33)).alloc (.cells #[.int .i64 x.err, .string x.path, .string x.data, .slice ra rk rc, .int .i64 x.made, .int .i64 x.changed, .int .i64 x.ver, .int .i64 x.kids, .int .i64 x.owner, .int .i64 x.len, .int .i64 x.cnt] 44)) q t G m D P V ∧ Pa.Std ((w.alloc (.cells #[.int .i64 o.kind, .string o.path, .string o.data, .int .i64 o.ver, .int .i64 o.flags] 33)).alloc (.cells #[.int .i64 x.err, .string x.path, .string x.data, .slice ra rk rc, .int .i64 x.made, .int .i64 x.changed, .int .i64 x.ver, .int .i64 x.kids, .int .i64 x.owner, .int .i64 x.len, .int .i64 x.cnt] 44))) := ⟨h.below HFR.out.below, hS.below HFR.out.below⟩
  obtain ⟨b, hbw⟩ : ∃ b, b = w.heap.size := ⟨_, rfl⟩
  obtain ⟨r, hrw⟩ : ∃ r, r = w.heap.size + 1 := ⟨_, rfl⟩
  rw [← hrw, ← hbw] at HFR
  have HHW : Hid (∀ k, G k → k < w.heap.size) := h.glt
  have HSZ : Hid (6 ≤ w.heap.size) := hS.size
  clear h hS
  unfold ov rv
  go_enter Tryz.func50, Tryz.ntmps50
  go_upto_region 1 with fail
  rw [← hrw, ← hbw]
  clear hrw hbw
  generalize ((w.alloc (.cells #[.int .i64 o.kind, .string o.path, .string o.data, .int .i64 o.ver, .int .i64 o.flags] 33)).alloc (.cells #[.int .i64 x.err, .string x.path, .string x.data, .slice ra rk rc, .int .i64 x.made, .int .i64 x.changed, .int .i64 x.ver, .int .i64 x.kids, .int .i64 x.owner, .int .i64 x.len, .int .i64 x.cnt] 44)) = w0 at *
  have o0 : w0.cell? ⟨b, 0, none⟩ = some (.int .i64 o.kind) := HFR.out.op.cell 0
  have p1 : w0.cell? ⟨r, 1, none⟩ = some (.string x.path) := HFR.out.res.cell 1
  go_wp2_with fail
  refine (drop_yes11 x.path n HD.out.1 HN.out.2.1 HN.out.2.2.2 HD.out.2 HN.out.2.2.1 HN.out.1).mono ?_
  rintro e w1 ⟨rfl, G', hL, hmv⟩
  have H1 : Hid (LTk w1 q { t with l := Tq.orphan (Tq.del t.l x.path) x.path } G' ∧ Moved w w1 G G') := ⟨hL, (Moved.of_below G HFR.out.below).trans hmv⟩
  clear hL hmv p1 o0
  go_wp2
  go_end0
  exact ⟨rfl, G', H1.out⟩

set_option maxRecDepth 20000 in
set_option maxHeartbeats 4000000 in
theorem change_make11 (o : O) (z : Int) (x : X) (ra : Option Addr) (rk rc : Nat) (h : TkU w q t G m D P V) (hf : Fine11 t) (h6 : ∀ k, G k → 6 ≤ k) (hS : Pa.Std w) (hk : o.kind = 1) (hd : o.data.size ≤ 1000) (hg : Pl.goodB x.path.data.toList = true) (hn : Tq.find t.l x.path = none) (hr : (t.l.length : Int) < t.room) :
    Calls Tryz.prog 50 #[dptr q, ov o, .int .i64 z, rv x (.slice ra rk rc)] w fun e w' => e = .returned (.tuple #[]) ∧ ∃ G', LTk w' q { t with l := Tq.ins (Tq.named t.l (Tq.up x.path) x.path) x.path (Kq.new z x.owner o.data) } G' ∧ Moved w w' G G' := by
  have k1 : (o.kind == 1) = true := by simp [hk]
  have HN : Hid (Tq.find t.l x.path = none ∧ x.path.size ≤ maxLen ∧ Fine11 t ∧ (∀ k, G k → 6 ≤ k) ∧ o.data.size ≤ 1000) := ⟨hn, good_max hg, hf, h6, hd⟩
  have HGP : Hid (Pl.goodB x.path.data.toList = true) := hg
  obtain ⟨l1, hl1⟩ : ∃ l1, l1 = Tq.ins t.l x.path (Kq.new z x.owner o.data) := ⟨_, rfl⟩
  obtain ⟨l2, hl2⟩ : ∃ l2, l2 = Tq.ins (Tq.named t.l (Tq.up x.path) x.path) x.path (Kq.new z x.owner o.data) := ⟨_, rfl⟩
  have HAB : Hid (l2 = match Tq.abv l1 x.path with | none => l1 | some um => Tq.set l1 um.1 (Kq.add um.2 (Tq.nm x.path))) := by
    have e : l2 = match Tq.abv l1 x.path with | none => l1 | some um => Tq.set l1 um.1 (Kq.add um.2 (Tq.nm x.path)) := by rw [hl2, hl1]; exact Tq.made_abv hf hg hn
    exact e
  have HF1 : Hid (Fine11 { t with l := l1 }) := by
    have e : Fine11 { t with l := l1 } := by rw [hl1]; exact Tq.fine_ins hf hg hn hr (Tq.n11_new (by omega))
    exact e
  have HL1 : Hid (l1 = Tq.ins t.l x.path (Kq.new z x.owner o.data)) := hl1
  rw [← hl2]
  clear hk hn hg hf h6 hl1 hl2 hd hr
  have HFR : Hid (Fc11 w ((w.alloc (.cells #[.int .i64 o.kind, .string o.path, .string o.data, .int .i64 o.ver, .int .i64 o.flags] 33)).alloc (.cells #[.int .i64 x.err, .string x.path, .string x.data, .slice ra rk rc, .int .i64 x.made, .int .i64 x.changed, .int .i64 x.ver, .int .i64 x.kids, .int .i64 x.owner, .int .i64 x.len, .int .i64 x.cnt] 44)) w.heap.size (w.heap.size + 1) o x (.slice ra rk rc)) := Fc11.made w o x _
  have HD : Hid (TkU ((w.alloc (.cells #[.int .i64 o.kind, .string o.path, .string o.data, .int .i64 o.ver, .int .i64 o.flags] 33)).alloc (.cells #[.int .i64 x.err, .string x.path, .string x.data, .slice ra rk rc, .int .i64 x.made, .int .i64 x.changed, .int .i64 x.ver, .int .i64 x.kids, .int .i64 x.owner, .int .i64 x.len, .int .i64 x.cnt] 44)) q t G m D P V ∧ Pa.Std ((w.alloc (.cells #[.int .i64 o.kind, .string o.path, .string o.data, .int .i64 o.ver, .int .i64 o.flags] 33)).alloc (.cells #[.int .i64 x.err, .string x.path, .string x.data, .slice ra rk rc, .int .i64 x.made, .int .i64 x.changed, .int .i64 x.ver, .int .i64 x.kids, .int .i64 x.owner, .int .i64 x.len, .int .i64 x.cnt] 44))) := ⟨h.below HFR.out.below, hS.below HFR.out.below⟩
  obtain ⟨b, hbw⟩ : ∃ b, b = w.heap.size := ⟨_, rfl⟩
  obtain ⟨r, hrw⟩ : ∃ r, r = w.heap.size + 1 := ⟨_, rfl⟩
  rw [← hrw, ← hbw] at HFR
  have HHW : Hid (∀ k, G k → k < w.heap.size) := h.glt
  have HSZ : Hid (6 ≤ w.heap.size) := hS.size
  clear h hS
  unfold ov rv
  go_enter Tryz.func50, Tryz.ntmps50
  go_upto_region 1 with fail
  rw [← hrw, ← hbw]
  clear hrw hbw
  generalize ((w.alloc (.cells #[.int .i64 o.kind, .string o.path, .string o.data, .int .i64 o.ver, .int .i64 o.flags] 33)).alloc (.cells #[.int .i64 x.err, .string x.path, .string x.data, .slice ra rk rc, .int .i64 x.made, .int .i64 x.changed, .int .i64 x.ver, .int .i64 x.kids, .int .i64 x.owner, .int .i64 x.len, .int .i64 x.cnt] 44)) = w0 at *
  have o0 : w0.cell? ⟨b, 0, none⟩ = some (.int .i64 o.kind) := HFR.out.op.cell 0
  go_wp2_with fail
  refine wp_region_held_drew (S := fun w' => Cb w' q [.map (some m), .int .i64 t.room] 98 ∧ Cb w' b (oc o) 33 ∧ Cb w' r (xc x (.slice ra rk rc)) 44) (by kernel_rfl) ⟨HD.out.1.blk, HFR.out.op, HFR.out.res⟩ (fun _ => ?_)
  have H1 : Hid (TkU w0.drew q t G m D P V ∧ Fc11 w w0.drew b r o x (.slice ra rk rc) ∧ Pa.Std w0.drew) := ⟨HD.out.1.below (Below.refl _ _).drew, HFR.out.later (Below.refl _ _).drew, HD.out.2.below (Below.refl _ _).drew⟩
  clear o0 HD HFR
  generalize w0.drew = w1 at *
  refine' take_at (i := 0) (d := 14) (v := _) rfl rfl (by kernel_rfl) (by kernel_rfl) (by kernel_rfl) (fun _ _ _ h => h) (Or.inl ⟨by rfl, ?h0⟩) (⟨H1.out.1.blk, H1.out.2.1.op, H1.out.2.1.res⟩) ?_
  case h0 =>
    intro w hSw
    have cq : w.cell? ⟨q, 0, none⟩ = some (.map (some m)) := hSw.1.cell 0
    have cp : w.cell? ⟨r, 1, none⟩ = some (.string x.path) := hSw.2.2.cell 1
    have co : w.cell? ⟨r, 8, none⟩ = some (.int .i64 x.owner) := hSw.2.2.cell 8
    have cd : w.cell? ⟨b, 2, none⟩ = some (.string o.data) := hSw.2.1.cell 2
    go_simp
    with_reducible rfl
  simp only [List.setIfInBounds_toArray, List.set_cons_zero, List.set_cons_succ]
  refine' take_at (i := 1) (d := 15) (v := _) rfl rfl (by kernel_rfl) (by kernel_rfl) (by kernel_rfl) (fun _ _ _ h => h) (Or.inl ⟨by rfl, ?h1⟩) (⟨H1.out.1.blk, H1.out.2.1.op, H1.out.2.1.res⟩) ?_
  case h1 =>
    intro w hSw
    have cq : w.cell? ⟨q, 0, none⟩ = some (.map (some m)) := hSw.1.cell 0
    have cp : w.cell? ⟨r, 1, none⟩ = some (.string x.path) := hSw.2.2.cell 1
    have co : w.cell? ⟨r, 8, none⟩ = some (.int .i64 x.owner) := hSw.2.2.cell 8
    have cd : w.cell? ⟨b, 2, none⟩ = some (.string o.data) := hSw.2.1.cell 2
    go_simp
    with_reducible rfl
  simp only [List.setIfInBounds_toArray, List.set_cons_zero, List.set_cons_succ]
  refine' take_at (i := 2) (d := 16) (v := _) rfl rfl (by kernel_rfl) (by kernel_rfl) (by kernel_rfl) (fun _ _ _ h => h) (Or.inl ⟨by rfl, ?h2⟩) (⟨H1.out.1.blk, H1.out.2.1.op, H1.out.2.1.res⟩) ?_
  case h2 =>
    intro w hSw
    have cq : w.cell? ⟨q, 0, none⟩ = some (.map (some m)) := hSw.1.cell 0
    have cp : w.cell? ⟨r, 1, none⟩ = some (.string x.path) := hSw.2.2.cell 1
    have co : w.cell? ⟨r, 8, none⟩ = some (.int .i64 x.owner) := hSw.2.2.cell 8
    have cd : w.cell? ⟨b, 2, none⟩ = some (.string o.data) := hSw.2.1.cell 2
    go_simp
    with_reducible rfl
  simp only [List.setIfInBounds_toArray, List.set_cons_zero, List.set_cons_succ]
  refine' take_at (i := 3) (d := 17) (v := _) rfl rfl (by kernel_rfl) (by kernel_rfl) (by kernel_rfl) (fun _ _ _ h => h) (Or.inl ⟨by rfl, ?h3⟩) (⟨H1.out.1.blk, H1.out.2.1.op, H1.out.2.1.res⟩) ?_
  case h3 =>
    intro w hSw
    have cq : w.cell? ⟨q, 0, none⟩ = some (.map (some m)) := hSw.1.cell 0
    have cp : w.cell? ⟨r, 1, none⟩ = some (.string x.path) := hSw.2.2.cell 1
    have co : w.cell? ⟨r, 8, none⟩ = some (.int .i64 x.owner) := hSw.2.2.cell 8
    have cd : w.cell? ⟨b, 2, none⟩ = some (.string o.data) := hSw.2.1.cell 2
    go_simp
    with_reducible rfl
  simp only [List.setIfInBounds_toArray, List.set_cons_zero, List.set_cons_succ]
  refine' take_at (i := 4) (d := 18) (v := _) rfl rfl (by kernel_rfl) (by kernel_rfl) (by kernel_rfl) (fun _ _ _ h => h) (Or.inl ⟨by rfl, ?h4⟩) (⟨H1.out.1.blk, H1.out.2.1.op, H1.out.2.1.res⟩) ?_
  case h4 =>
    intro w hSw
    have cq : w.cell? ⟨q, 0, none⟩ = some (.map (some m)) := hSw.1.cell 0
    have cp : w.cell? ⟨r, 1, none⟩ = some (.string x.path) := hSw.2.2.cell 1
    have co : w.cell? ⟨r, 8, none⟩ = some (.int .i64 x.owner) := hSw.2.2.cell 8
    have cd : w.cell? ⟨b, 2, none⟩ = some (.string o.data) := hSw.2.1.cell 2
    go_simp
    with_reducible rfl
  simp only [List.setIfInBounds_toArray, List.set_cons_zero, List.set_cons_succ]
  refine' take_at (i := 5) (d := 19) (v := _) rfl rfl (by kernel_rfl) (by kernel_rfl) (by kernel_rfl) (fun _ _ _ h => h) (Or.inl ⟨by rfl, ?h5⟩) (⟨H1.out.1.blk, H1.out.2.1.op, H1.out.2.1.res⟩) ?_
  case h5 =>
    intro w hSw
    have cq : w.cell? ⟨q, 0, none⟩ = some (.map (some m)) := hSw.1.cell 0
    have cp : w.cell? ⟨r, 1, none⟩ = some (.string x.path) := hSw.2.2.cell 1
    have co : w.cell? ⟨r, 8, none⟩ = some (.int .i64 x.owner) := hSw.2.2.cell 8
    have cd : w.cell? ⟨b, 2, none⟩ = some (.string o.data) := hSw.2.1.cell 2
    go_simp
    with_reducible rfl
  simp only [List.setIfInBounds_toArray, List.set_cons_zero, List.set_cons_succ]
  refine' take_at (i := 6) (d := 20) (v := _) rfl rfl (by kernel_rfl) (by kernel_rfl) (by kernel_rfl) (fun _ _ _ h => h) (Or.inl ⟨by rfl, ?h6⟩) (⟨H1.out.1.blk, H1.out.2.1.op, H1.out.2.1.res⟩) ?_
  case h6 =>
    intro w hSw
    have cq : w.cell? ⟨q, 0, none⟩ = some (.map (some m)) := hSw.1.cell 0
    have cp : w.cell? ⟨r, 1, none⟩ = some (.string x.path) := hSw.2.2.cell 1
    have co : w.cell? ⟨r, 8, none⟩ = some (.int .i64 x.owner) := hSw.2.2.cell 8
    have cd : w.cell? ⟨b, 2, none⟩ = some (.string o.data) := hSw.2.1.cell 2
    go_simp
    with_reducible rfl
  simp only [List.setIfInBounds_toArray, List.set_cons_zero, List.set_cons_succ]
  refine' take_at (i := 7) (d := 21) (v := _) rfl rfl (by kernel_rfl) (by kernel_rfl) (by kernel_rfl) (fun _ _ _ h => h) (Or.inl ⟨by rfl, ?h7⟩) (⟨H1.out.1.blk, H1.out.2.1.op, H1.out.2.1.res⟩) ?_
  case h7 =>
    intro w hSw
    have cq : w.cell? ⟨q, 0, none⟩ = some (.map (some m)) := hSw.1.cell 0
    have cp : w.cell? ⟨r, 1, none⟩ = some (.string x.path) := hSw.2.2.cell 1
    have co : w.cell? ⟨r, 8, none⟩ = some (.int .i64 x.owner) := hSw.2.2.cell 8
    have cd : w.cell? ⟨b, 2, none⟩ = some (.string o.data) := hSw.2.1.cell 2
    go_simp
    with_reducible rfl
  simp only [List.setIfInBounds_toArray, List.set_cons_zero, List.set_cons_succ]
  refine' take_at (i := 8) (d := 22) (v := _) rfl rfl (by kernel_rfl) (by kernel_rfl) (by kernel_rfl) (fun _ _ _ h => h) (Or.inl ⟨by rfl, ?h8⟩) (⟨H1.out.1.blk, H1.out.2.1.op, H1.out.2.1.res⟩) ?_
  case h8 =>
    intro w hSw
    have cq : w.cell? ⟨q, 0, none⟩ = some (.map (some m)) := hSw.1.cell 0
    have cp : w.cell? ⟨r, 1, none⟩ = some (.string x.path) := hSw.2.2.cell 1
    have co : w.cell? ⟨r, 8, none⟩ = some (.int .i64 x.owner) := hSw.2.2.cell 8
    have cd : w.cell? ⟨b, 2, none⟩ = some (.string o.data) := hSw.2.1.cell 2
    go_simp
    with_reducible rfl
  simp only [List.setIfInBounds_toArray, List.set_cons_zero, List.set_cons_succ]
  refine' take_at (i := 9) (d := 23) (v := _) rfl rfl (by kernel_rfl) (by kernel_rfl) (by kernel_rfl) (fun _ _ _ h => h) (Or.inl ⟨by rfl, ?h9⟩) (⟨H1.out.1.blk, H1.out.2.1.op, H1.out.2.1.res⟩) ?_
  case h9 =>
    intro w hSw
    have cq : w.cell? ⟨q, 0, none⟩ = some (.map (some m)) := hSw.1.cell 0
    have cp : w.cell? ⟨r, 1, none⟩ = some (.string x.path) := hSw.2.2.cell 1
    have co : w.cell? ⟨r, 8, none⟩ = some (.int .i64 x.owner) := hSw.2.2.cell 8
    have cd : w.cell? ⟨b, 2, none⟩ = some (.string o.data) := hSw.2.1.cell 2
    go_simp
    with_reducible rfl
  simp only [List.setIfInBounds_toArray, List.set_cons_zero, List.set_cons_succ]
  refine' take_at (i := 10) (d := 24) (v := _) rfl rfl (by kernel_rfl) (by kernel_rfl) (by kernel_rfl) (fun _ _ _ h => h) (Or.inl ⟨by rfl, ?h10⟩) (⟨H1.out.1.blk, H1.out.2.1.op, H1.out.2.1.res⟩) ?_
  case h10 =>
    intro w hSw
    have cq : w.cell? ⟨q, 0, none⟩ = some (.map (some m)) := hSw.1.cell 0
    have cp : w.cell? ⟨r, 1, none⟩ = some (.string x.path) := hSw.2.2.cell 1
    have co : w.cell? ⟨r, 8, none⟩ = some (.int .i64 x.owner) := hSw.2.2.cell 8
    have cd : w.cell? ⟨b, 2, none⟩ = some (.string o.data) := hSw.2.1.cell 2
    go_simp
    with_reducible rfl
  simp only [List.setIfInBounds_toArray, List.set_cons_zero, List.set_cons_succ]
  refine' take_at (i := 11) (d := 25) (v := _) rfl rfl (by kernel_rfl) (by kernel_rfl) (by kernel_rfl) (fun _ _ _ h => h) (Or.inl ⟨by rfl, ?h11⟩) (⟨H1.out.1.blk, H1.out.2.1.op, H1.out.2.1.res⟩) ?_
  case h11 =>
    intro w hSw
    have cq : w.cell? ⟨q, 0, none⟩ = some (.map (some m)) := hSw.1.cell 0
    have cp : w.cell? ⟨r, 1, none⟩ = some (.string x.path) := hSw.2.2.cell 1
    have co : w.cell? ⟨r, 8, none⟩ = some (.int .i64 x.owner) := hSw.2.2.cell 8
    have cd : w.cell? ⟨b, 2, none⟩ = some (.string o.data) := hSw.2.1.cell 2
    go_simp
    with_reducible rfl
  simp only [List.setIfInBounds_toArray, List.set_cons_zero, List.set_cons_succ]
  refine wpAnyH_ready (rs := [12]) (by kernel_rfl) (by simp) ?_
  refine AllReadyH.cons (o := _) rfl (fun KQ hKQ => ?_) AllReadyH.nil
  go_simp
  refine (new_any10 z x.owner o.data w1 (by have := HN.out.2.2.2.2; omega)).mono ?_
  rintro e w2 ⟨na, nc, rfl, hrow, hb⟩
  have H2 : Hid (TkU w2 q t G m D P V ∧ Fc11 w w2 b r o x (.slice ra rk rc) ∧ Pa.Std w2 ∧ w2.ownsRow w1.heap.size 9 1 (.slice na 0 nc) 0 [] ∧ b < w1.heap.size ∧ r < w1.heap.size ∧ w1.heap.size ≤ w2.heap.size) := ⟨H1.out.1.below hb, H1.out.2.1.later hb, H1.out.2.2.below hb, hrow, H1.out.2.1.op.lt, H1.out.2.1.res.lt, hb.size⟩
  clear hrow hb
  unfold kv
  simp only []
  refine hKQ.out _ _ ⟨H2.out.1.blk, H2.out.2.1.op, H2.out.2.1.res⟩ (fun _ => ?_)
  clear hKQ KQ
  refine' take_at (i := 13) (d := 27) (v := _) rfl rfl (by kernel_rfl) (by kernel_rfl) (by kernel_rfl) (fun _ _ _ h => h) (Or.inl ⟨by rfl, ?h13⟩) (⟨H2.out.1.blk, H2.out.2.1.op, H2.out.2.1.res⟩) ?_
  case h13 =>
    intro w hSw
    go_simp
    with_reducible rfl
  simp only [List.setIfInBounds_toArray, List.set_cons_zero, List.set_cons_succ]
  refine wpAnyH_ready (rs := [14]) (by kernel_rfl) (by simp) ?_
  refine AllReadyH.cons (o := _) rfl (fun KQ hKQ => ?_) AllReadyH.nil
  go_simp
  obtain ⟨nb, hnb⟩ : ∃ nb, nb = w2.heap.size := ⟨_, rfl⟩
  have H3 : Hid (TkU (w2.alloc (.cells #[.int .i64 (Kq.new z x.owner o.data).made, .int .i64 (Kq.new z x.owner o.data).changed, .int .i64 (Kq.new z x.owner o.data).ver, .int .i64 (Kq.new z x.owner o.data).kids, .int .i64 (Kq.new z x.owner o.data).owner, .int .i64 (Kq.new z x.owner o.data).len, .int .i64 (Kq.new z x.owner o.data).cnt, .string (Kq.new z x.owner o.data).data, .int .i64 (Kq.new z x.owner o.data).next, .slice na 0 nc] 121)) q t (fun k => G k ∨ k = nb ∨ (Value.slice na 0 nc).ownBlock = some k) m D P V ∧ Fc11 w (w2.alloc (.cells #[.int .i64 (Kq.new z x.owner o.data).made, .int .i64 (Kq.new z x.owner o.data).changed, .int .i64 (Kq.new z x.owner o.data).ver, .int .i64 (Kq.new z x.owner o.data).kids, .int .i64 (Kq.new z x.owner o.data).owner, .int .i64 (Kq.new z x.owner o.data).len, .int .i64 (Kq.new z x.owner o.data).cnt, .string (Kq.new z x.owner o.data).data, .int .i64 (Kq.new z x.owner o.data).next, .slice na 0 nc] 121)) b r o x (.slice ra rk rc) ∧ Pa.Std (w2.alloc (.cells #[.int .i64 (Kq.new z x.owner o.data).made, .int .i64 (Kq.new z x.owner o.data).changed, .int .i64 (Kq.new z x.owner o.data).ver, .int .i64 (Kq.new z x.owner o.data).kids, .int .i64 (Kq.new z x.owner o.data).owner, .int .i64 (Kq.new z x.owner o.data).len, .int .i64 (Kq.new z x.owner o.data).cnt, .string (Kq.new z x.owner o.data).data, .int .i64 (Kq.new z x.owner o.data).next, .slice na 0 nc] 121)) ∧ Own11 (w2.alloc (.cells #[.int .i64 (Kq.new z x.owner o.data).made, .int .i64 (Kq.new z x.owner o.data).changed, .int .i64 (Kq.new z x.owner o.data).ver, .int .i64 (Kq.new z x.owner o.data).kids, .int .i64 (Kq.new z x.owner o.data).owner, .int .i64 (Kq.new z x.owner o.data).len, .int .i64 (Kq.new z x.owner o.data).cnt, .string (Kq.new z x.owner o.data).data, .int .i64 (Kq.new z x.owner o.data).next, .slice na 0 nc] 121)) nb (Kq.new z x.owner o.data) (.slice na 0 nc) ∧ (∀ f ∈ t.l, P f.1 ≠ nb ∧ ∀ k, (V f.1).ownBlock = some k → (Value.slice na 0 nc).ownBlock ≠ some k) ∧ (∀ k, (k = nb ∨ (Value.slice na 0 nc).ownBlock = some k) → w.heap.size ≤ k ∧ k ≠ b ∧ k ≠ r)) := by
    have hba := (Below.refl _ w2).alloc (Nat.le_refl _) (.cells (k10 (Kq.new z x.owner o.data) (.slice na 0 nc)).toArray 121)
    have hsz : (w2.alloc (.cells (k10 (Kq.new z x.owner o.data) (.slice na 0 nc)).toArray 121)).heap.size = w2.heap.size + 1 := World.size_alloc _ _
    have hcb : Cb (w2.alloc (.cells #[.int .i64 (Kq.new z x.owner o.data).made, .int .i64 (Kq.new z x.owner o.data).changed, .int .i64 (Kq.new z x.owner o.data).ver, .int .i64 (Kq.new z x.owner o.data).kids, .int .i64 (Kq.new z x.owner o.data).owner, .int .i64 (Kq.new z x.owner o.data).len, .int .i64 (Kq.new z x.owner o.data).cnt, .string (Kq.new z x.owner o.data).data, .int .i64 (Kq.new z x.owner o.data).next, .slice na 0 nc] 121)) nb (k10 (Kq.new z x.owner o.data) (.slice na 0 nc)) 121 := by rw [hnb]; exact Cb.made w2 _ _
    have hlt := H2.out.1.glt
    have hrl := H2.out.2.2.2.1.lt
    have hx1 := H2.out.2.2.2.2.1
    have hx2 := H2.out.2.2.2.2.2.1
    have hx3 := H2.out.2.2.2.2.2.2
    have hbw := H2.out.2.1.hb
    refine ⟨(H2.out.1.below hba).more (fun k hk => Or.inl hk) (fun k hk => ?_), H2.out.2.1.later hba, H2.out.2.2.1.below hba, ⟨hcb, ?_, List.Pairwise.nil⟩, fun f hf => ⟨fun e => ?_, fun k hk e => ?_⟩, fun k hk => ?_⟩
    · rw [hsz]
      rcases hk with hk | hk | hk
      · have := hlt k hk
        omega
      · omega
      · have := (hrl k hk).2
        omega
    · exact (row_stays H2.out.2.2.2.1 (fun k e => hba.block k (hrl k e).2)).mono (Nat.zero_le _)
    · have h1 := hlt _ (H2.out.1.gf f hf).1
      omega
    · have h1 := HHW.out _ ((H2.out.1.gf f hf).2 k hk)
      have h2 := (hrl k e).1
      omega
    · rcases hk with hk | hk
      · omega
      · have h2 := (hrl k hk).1
        omega
  rw [← hnb]
  clear hnb H1 H2
  generalize (w2.alloc (.cells #[.int .i64 (Kq.new z x.owner o.data).made, .int .i64 (Kq.new z x.owner o.data).changed, .int .i64 (Kq.new z x.owner o.data).ver, .int .i64 (Kq.new z x.owner o.data).kids, .int .i64 (Kq.new z x.owner o.data).owner, .int .i64 (Kq.new z x.owner o.data).len, .int .i64 (Kq.new z x.owner o.data).cnt, .string (Kq.new z x.owner o.data).data, .int .i64 (Kq.new z x.owner o.data).next, .slice na 0 nc] 121)) = w3 at *
  refine hKQ.out _ _ ⟨H3.out.1.blk, H3.out.2.1.op, H3.out.2.1.res⟩ (fun _ => ?_)
  clear hKQ KQ
  refine wpAnyH_ready (rs := [15]) (by kernel_rfl) (by simp) ?_
  refine AllReadyH.cons (o := _) rfl (fun KQ hKQ => ?_) AllReadyH.nil
  obtain ⟨w4, hrun, hown, hturn⟩ := H3.out.1.own.store keyed11 Tryz.underlying96 (by have h1 := HN.out.2.2.1.len; have h2 := HN.out.2.2.1.room; unfold maxLen; omega) (key_of HN.out.2.1) (fElem_ptr nb)
  have key := H3.out.1.come HN.out.2.1 HN.out.1 hown hturn H3.out.2.2.2.1 H3.out.2.2.2.2.1 ⟨Or.inr (Or.inl rfl), fun k hk => Or.inr (Or.inr hk)⟩
  have H2 : Hid (TkU w4 q { t with l := l1 } (fun k => G k ∨ k = nb ∨ (Value.slice na 0 nc).ownBlock = some k) m (D.put (fkey x.path) (.held nb)) (fun x' => if x' = x.path then nb else P x') (fun x' => if x' = x.path then .slice na 0 nc else V x') ∧ Gc11 w w4 G (fun k => G k ∨ k = nb ∨ (Value.slice na 0 nc).ownBlock = some k) b r o x (.slice ra rk rc)) := by
    rw [HL1.out]
    have hne : ∀ k, (k = b ∨ k = r) → ¬ (fun k => G k ∨ k = nb ∨ (Value.slice na 0 nc).ownBlock = some k) k := fun k hk hG => by
      have hb := H3.out.2.1.hb
      have hr := H3.out.2.1.hr
      rcases hG with hG | hG
      · have := HHW.out k hG
        omega
      · have := H3.out.2.2.2.2.2 k hG
        omega
    have hmv : Moved w w4 G (fun k => G k ∨ k = nb ∨ (Value.slice na 0 nc).ownBlock = some k) := by
      have h1 := H3.out.2.1.below
      have h2 := key.2
      have hs1 := h1.size
      refine ⟨h2.os.trans h1.os, h2.tape.trans h1.tape, h2.output.trans h1.output, Nat.le_trans h1.size h2.size, fun k hk hG => (h2.block k (by omega) (fun e => ?_)).trans (h1.block k hk), fun k hk => ?_⟩
      · rcases e with e | e
        · exact hG e
        · have := (H3.out.2.2.2.2.2 k e).1
          omega
      · rcases hk with e | e
        · exact Or.inl e
        · exact Or.inr (H3.out.2.2.2.2.2 k e).1
    refine ⟨key.1, ⟨H3.out.2.1.op.keep (key.2.block b H3.out.2.1.op.lt (hne b (Or.inl rfl))), H3.out.2.1.res.keep (key.2.block r H3.out.2.1.res.lt (hne r (Or.inr rfl))), H3.out.2.1.hb, H3.out.2.1.hr, hmv, H3.out.2.2.1.moved key.2 (fun k hk => ?_), fun k hk => ?_⟩⟩
    · rcases hk with e | e
      · exact HN.out.2.2.2.1 k e
      · have h1 := (H3.out.2.2.2.2.2 k e).1
        have h2 := HSZ.out
        omega
    · rcases hk with e | e
      · exact Or.inl e
      · exact Or.inr (H3.out.2.2.2.2.2 k e)
  clear hown hturn key
  go_simp
  clear hrun
  refine hKQ.out _ _ ⟨H2.out.1.blk, H2.out.2.op, H2.out.2.res⟩ (fun _ => ?_)
  clear hKQ KQ H3
  refine wpAnyH_done (by kernel_rfl) ?_ _
  have p1 : w4.cell? ⟨r, 1, none⟩ = some (.string x.path) := H2.out.2.res.cell 1
  go_wp2_with fail
  refine (above_any11 x.path H2.out.1 H2.out.2.std HGP.out).mono ?_
  rintro e w3 ⟨hb, hy, hn⟩
  have H3 : Hid (TkU w3 q { t with l := l1 } (fun k => G k ∨ k = nb ∨ (Value.slice na 0 nc).ownBlock = some k) m (D.put (fkey x.path) (.held nb)) (fun x' => if x' = x.path then nb else P x') (fun x' => if x' = x.path then .slice na 0 nc else V x') ∧ Gc11 w w3 G (fun k => G k ∨ k = nb ∨ (Value.slice na 0 nc).ownBlock = some k) b r o x (.slice ra rk rc)) := ⟨H2.out.1.below hb, H2.out.2.later hb⟩
  clear hb p1 H2
  cases ha : Tq.abv l1 x.path with
  | none =>
    obtain rfl := hn ha
    have HE : Hid (l2 = l1) := by
      have e : l2 = l1 := by rw [HAB.out, ha]
      exact e
    clear ha hy hn
    go_wp2
    go_end0
    exact ⟨rfl, (fun k => G k ∨ k = nb ∨ (Value.slice na 0 nc).ownBlock = some k), by rw [HE.out]; exact ⟨_, _, _, _, H3.out.1⟩, H3.out.2.mv⟩
  | some um =>
    obtain ⟨pb, hpb⟩ : ∃ pb, pb = (fun x' => if x' = x.path then nb else P x') um.1 := ⟨_, rfl⟩
    have he : e = .returned (.tuple #[dptr pb, .bool true]) := by rw [hpb]; exact hy um ha
    subst he
    have HU : Hid (l2 = Tq.set l1 um.1 (Kq.add um.2 (Tq.nm x.path)) ∧ Tq.find l1 um.1 = some um.2 ∧ pb = (fun x' => if x' = x.path then nb else P x') um.1 ∧ Node11 um.2) := ⟨by rw [HAB.out, ha], (Tq.abv_some ha).2, hpb, (HF1.out.nodes _ (Tq.find_some (Tq.abv_some ha).2)).2⟩
    clear ha hy hn hpb
    go_wp2_with fail
    refine wp_region_held_drew (S := fun w' => Cb w' r (xc x (.slice ra rk rc)) 44) (by kernel_rfl) H3.out.2.res (fun _ => ?_)
    have H4 : Hid (TkU w3.drew q { t with l := l1 } (fun k => G k ∨ k = nb ∨ (Value.slice na 0 nc).ownBlock = some k) m (D.put (fkey x.path) (.held nb)) (fun x' => if x' = x.path then nb else P x') (fun x' => if x' = x.path then .slice na 0 nc else V x') ∧ Gc11 w w3.drew G (fun k => G k ∨ k = nb ∨ (Value.slice na 0 nc).ownBlock = some k) b r o x (.slice ra rk rc)) := ⟨H3.out.1.below (Below.refl _ _).drew, H3.out.2.later (Below.refl _ _).drew⟩
    clear H3
    generalize w3.drew = w4 at *
    refine' take_at (i := 0) (d := 37) (v := _) rfl rfl (by kernel_rfl) (by kernel_rfl) (by kernel_rfl) (fun _ _ _ h => h) (Or.inl ⟨by rfl, ?h0⟩) (H4.out.2.res) ?_
    case h0 =>
      intro w hSw
      have cp : w.cell? ⟨r, 1, none⟩ = some (.string x.path) := hSw.cell 1
      go_simp
      with_reducible rfl
    simp only [List.setIfInBounds_toArray, List.set_cons_zero, List.set_cons_succ]
    refine' take_at (i := 1) (d := 38) (v := _) rfl rfl (by kernel_rfl) (by kernel_rfl) (by kernel_rfl) (fun _ _ _ h => h) (Or.inl ⟨by rfl, ?h1⟩) (H4.out.2.res) ?_
    case h1 =>
      intro w hSw
      have cp : w.cell? ⟨r, 1, none⟩ = some (.string x.path) := hSw.cell 1
      go_simp
      with_reducible rfl
    simp only [List.setIfInBounds_toArray, List.set_cons_zero, List.set_cons_succ]
    refine' take_at (i := 2) (d := 39) (v := _) rfl rfl (by kernel_rfl) (by kernel_rfl) (by kernel_rfl) (fun _ _ _ h => h) (Or.inl ⟨by rfl, ?h2⟩) (H4.out.2.res) ?_
    case h2 =>
      intro w hSw
      have cp : w.cell? ⟨r, 1, none⟩ = some (.string x.path) := hSw.cell 1
      go_simp
      with_reducible rfl
    simp only [List.setIfInBounds_toArray, List.set_cons_zero, List.set_cons_succ]
    refine' take_at (i := 3) (d := 40) (v := _) rfl rfl (by kernel_rfl) (by kernel_rfl) (by kernel_rfl) (fun _ _ _ h => h) (Or.inl ⟨by rfl, ?h3⟩) (H4.out.2.res) ?_
    case h3 =>
      intro w hSw
      have cp : w.cell? ⟨r, 1, none⟩ = some (.string x.path) := hSw.cell 1
      go_simp
      with_reducible rfl
    simp only [List.setIfInBounds_toArray, List.set_cons_zero, List.set_cons_succ]
    refine' take_at (i := 4) (d := 41) (v := _) rfl rfl (by kernel_rfl) (by kernel_rfl) (by kernel_rfl) (fun _ _ _ h => h) (Or.inl ⟨by rfl, ?h4⟩) (H4.out.2.res) ?_
    case h4 =>
      intro w hSw
      have cp : w.cell? ⟨r, 1, none⟩ = some (.string x.path) := hSw.cell 1
      go_simp
      with_reducible rfl
    simp only [List.setIfInBounds_toArray, List.set_cons_zero, List.set_cons_succ]
    refine wpAnyH_ready (rs := [5]) (by kernel_rfl) (by simp) ?_
    refine AllReadyH.cons (o := _) rfl (fun KQ hKQ => ?_) AllReadyH.nil
    go_simp
    refine (name_nm x.path w4 H4.out.2.std HGP.out).mono ?_
    rintro e w5 ⟨rfl, hb⟩
    have H5 : Hid (TkU w5 q { t with l := l1 } (fun k => G k ∨ k = nb ∨ (Value.slice na 0 nc).ownBlock = some k) m (D.put (fkey x.path) (.held nb)) (fun x' => if x' = x.path then nb else P x') (fun x' => if x' = x.path then .slice na 0 nc else V x') ∧ Gc11 w w5 G (fun k => G k ∨ k = nb ∨ (Value.slice na 0 nc).ownBlock = some k) b r o x (.slice ra rk rc)) := ⟨H4.out.1.below hb, H4.out.2.later hb⟩
    clear hb H4
    simp only []
    refine hKQ.out _ _ H5.out.2.res (fun _ => ?_)
    clear hKQ KQ
    refine wpAnyH_ready (rs := [6]) (by kernel_rfl) (by simp) ?_
    refine AllReadyH.cons (o := _) rfl (fun KQ hKQ => ?_) AllReadyH.nil
    go_simp
    refine (add_any11 pb um.2 ((fun x' => if x' = x.path then .slice na 0 nc else V x') um.1) (Tq.nm x.path) w5 (by rw [HU.out.2.2.1]; exact H5.out.1.node _ (Tq.find_some HU.out.2.1)) (fine11_10 HU.out.2.2.2) (by have := name_len (Tq.nm_ok HGP.out); omega)).mono ?_
    rintro e w6 ⟨v6, rfl, hO, hmv⟩
    have H6 : Hid ((∃ G', LTk w6 q { t with l := l2 } G' ∧ Moved w w6 G G') ∧ Cb w6 r (xc x (.slice ra rk rc)) 44) := by
      rw [HU.out.2.2.1] at hO hmv
      have hm := Tq.find_some HU.out.2.1
      have key := H5.out.1.change hm hO hmv
      refine ⟨⟨_, by rw [HU.out.1]; exact ⟨_, _, _, _, key.1⟩, H5.out.2.mv.trans key.2⟩, H5.out.2.res.keep (hmv.block r H5.out.2.res.lt (fun e => ?_))⟩
      have hG : (fun k => G k ∨ k = nb ∨ (Value.slice na 0 nc).ownBlock = some k) r := by
        rcases e with e | e
        · rw [e]
          exact (H5.out.1.gf _ hm).1
        · exact (H5.out.1.gf _ hm).2 r e
      rcases H5.out.2.apart r hG with h1 | h1
      · have := HHW.out r h1
        have := H5.out.2.hr
        omega
      · exact h1.2.2 rfl
    clear hO hmv H5
    simp only []
    refine hKQ.out _ _ H6.out.2 (fun _ => ?_)
    clear hKQ KQ
    refine wpAnyH_done (by kernel_rfl) ?_ _
    go_wp2
    go_end0
    exact ⟨rfl, H6.out.1⟩
end
end Go.Proofs.YtpidafpaffpnaaaGreatDoor
