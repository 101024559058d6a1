/- What the landed tree's Try answers. -/
import Derived.Test.YtpidafpaffpnaaaGreatDoorWAskB11
namespace Go.Proofs.YtpidafpaffpnaaaGreatDoor.Tq
theorem make_names (t : Tr) (u : Option ByteArray) (p d : ByteArray) (own z : Int) : (makeAt t u p own z d).1.names = [] := by
  unfold makeAt
  repeat' split
  all_goals rfl
theorem create_names (t : Tr) (o : O) (s z : Int) : (create t o s z).1.names = [] := by
  unfold create
  simp only []
  repeat' split
  all_goals first
    | rfl
    | exact make_names _ _ _ _ _ _
end Go.Proofs.YtpidafpaffpnaaaGreatDoor.Tq
namespace Go.Proofs.YtpidafpaffpnaaaGreatDoor
open Go.RowKit
section
variable {w : World} {q m : Nat} {t : Tq.Tr} {G : Nat → Prop} {D : DataW Nat} {P : ByteArray → Nat} {V : ByteArray → Value}
theorem TkU.look_yes (h : TkU w q t G m D P V) {p : ByteArray} {n : Kq.Kn} (hp : p.size ≤ maxLen) (hf : Tq.find t.l p = some n) : (Instr.lookup 96 (.map (some m)) (.string p) true).run Tryz.prog w = .ok (.tuple #[dptr (P p), .bool true]) w := by
  obtain ⟨v, ps, h1, h2⟩ := h.own.look_ok (H := Nat) keyed11 Tryz.underlying96 (zeroPtr11 w) (zd := .nil) (zp := []) rfl (key_of hp)
  rw [(h.there hf).2] at h2
  rw [fElem_held h2, (h.there hf).1] at h1
  exact h1
theorem TkU.look_no (h : TkU w q t G m D P V) {p : ByteArray} (hp : p.size ≤ maxLen) (hf : Tq.find t.l p = none) : (Instr.lookup 96 (.map (some m)) (.string p) true).run Tryz.prog w = .ok (.tuple #[.pointer none, .bool false]) w := by
  obtain ⟨v, ps, h1, h2⟩ := h.own.look_ok (H := Nat) keyed11 Tryz.underlying96 (zeroPtr11 w) (zd := .nil) (zp := []) rfl (key_of hp)
  rw [Maps.atKey_of_not_has (h.nowhere hf)] at h2
  rw [fElem_nil h2, h.nowhere hf] at h1
  exact h1
theorem TkU.look_one (h : TkU w q t G m D P V) {p : ByteArray} {n : Kq.Kn} (hp : p.size ≤ maxLen) (hf : Tq.find t.l p = some n) : (Instr.lookup 96 (.map (some m)) (.string p) false).run Tryz.prog w = .ok (dptr (P p)) w := by
  obtain ⟨v, ps, h1, h2⟩ := h.own.lookup (H := Nat) keyed11 Tryz.underlying96 (zeroPtr11 w) (zd := .nil) (zp := []) rfl (key_of hp)
  rw [(h.there hf).2] at h2
  rw [fElem_held h2] at h1
  exact h1

set_option maxRecDepth 20000 in
set_option maxHeartbeats 4000000 in
theorem try_any11 (o : O) (s z : Int) (h : TkU w q t G m D P V) (hf : Fine11 t) (hS : Pa.Std w) (ho : OFit o) :
    Calls Tryz.prog 16 #[dptr q, ov o, .int .i64 s, .int .i64 z] w fun e w' => ∃ u, e = .returned (rv (Tq.doo t o s z).1 u) ∧ Sq w' u (Tq.doo t o s z).1.names ∧ (∀ k, u.ownBlock = some k → w.heap.size ≤ k) ∧ Below w.heap.size w w' := by
  have HFR : Hid (Fr11 w ((w.alloc (.cells #[.int .i64 o.kind, .string o.path, .string o.data, .int .i64 o.ver, .int .i64 o.flags] 33)).alloc (.cells #[.int .i64 0, .string ⟨#[]⟩, .string ⟨#[]⟩, .slice none 0 0, .int .i64 0, .int .i64 0, .int .i64 0, .int .i64 0, .int .i64 0, .int .i64 0, .int .i64 0] 44)) w.heap.size (w.heap.size + 1) o) := Fr11.made w o
  have HD : Hid (TkU ((w.alloc (.cells #[.int .i64 o.kind, .string o.path, .string o.data, .int .i64 o.ver, .int .i64 o.flags] 33)).alloc (.cells #[.int .i64 0, .string ⟨#[]⟩, .string ⟨#[]⟩, .slice none 0 0, .int .i64 0, .int .i64 0, .int .i64 0, .int .i64 0, .int .i64 0, .int .i64 0, .int .i64 0] 44)) q t G m D P V ∧ Pa.Std ((w.alloc (.cells #[.int .i64 o.kind, .string o.path, .string o.data, .int .i64 o.ver, .int .i64 o.flags] 33)).alloc (.cells #[.int .i64 0, .string ⟨#[]⟩, .string ⟨#[]⟩, .slice none 0 0, .int .i64 0, .int .i64 0, .int .i64 0, .int .i64 0, .int .i64 0, .int .i64 0, .int .i64 0] 44))) := ⟨h.below HFR.out.below, hS.below HFR.out.below⟩
  have HS : Hid (Fine11 t ∧ OFit o) := ⟨hf, ho⟩
  obtain ⟨b, hbw⟩ : ∃ b, b = w.heap.size := ⟨_, rfl⟩
  obtain ⟨r, hrw⟩ : ∃ r, r = w.heap.size + 1 := ⟨_, rfl⟩
  rw [← hrw, ← hbw] at HFR
  obtain ⟨R, hR⟩ : ∃ R, R = (Tq.doo t o s z).1 := ⟨_, rfl⟩
  have HR : Hid (R = (Tq.doo t o s z).1) := hR
  rw [← hR]
  have HGD : Hid (∀ w, Pa.Std w → Calls Tryz.prog 58 #[ov o] w fun e w' => e = .returned (.int .i64 (Oq.good o)) ∧ Below w.heap.size w w') := fun w hS => good_spec o w hS ho
  have HCR : Hid (∀ w, TkU w q t G m D P V → Pa.Std w → Oq.good o = 0 → Calls Tryz.prog 59 #[dptr q, ov o, .int .i64 s, .int .i64 z] w fun e w' => e = .returned (rv (Tq.create t o s z).1 (.slice none 0 0)) ∧ Below w.heap.size w w') := fun w h hS hg => created_any11 o s z h hS (Tq.good_path hg) (Tq.good_zero hg).2.1 (Oq.head_no (Tq.good_zero hg).1).2.2.2.2.1 (Oq.head_no (Tq.good_zero hg).1).2.2.2.2.2
  have HAK : Hid (∀ w (p : Nat) (n : Kq.Kn) (v : Value), Own11 w p n v → Node11 n → Pa.Std w → Oq.good o = 0 → o.kind ≠ 1 → Calls Tryz.prog 60 #[dptr p, ov o, .int .i64 z] w fun e w' => ∃ u, e = .returned (rv (Tq.askT o z n) u) ∧ Sq w' u (Tq.askT o z n).names ∧ (∀ k, u.ownBlock = some k → w.heap.size ≤ k) ∧ Below w.heap.size w w') := fun w p n v h hn hS hg hk => asked_any11 p n v o z h hn hS (Tq.good_path hg) (Tq.good_zero hg).2.1 (by have h1 := Oq.head_no (Tq.good_zero hg).1; omega)
  clear hR h hS hf ho
  unfold ov at HGD HCR HAK
  unfold ov
  go_enter Tryz.func16, Tryz.ntmps16
  go_wp2_with fail
  rw [← hrw, ← hbw]
  clear hrw hbw
  generalize ((w.alloc (.cells #[.int .i64 o.kind, .string o.path, .string o.data, .int .i64 o.ver, .int .i64 o.flags] 33)).alloc (.cells #[.int .i64 0, .string ⟨#[]⟩, .string ⟨#[]⟩, .slice none 0 0, .int .i64 0, .int .i64 0, .int .i64 0, .int .i64 0, .int .i64 0, .int .i64 0, .int .i64 0] 44)) = w0 at *
  refine (HGD.out w0 HD.out.2).mono ?_
  rintro e w1 ⟨rfl, hb⟩
  have H1 : Hid (Fr11 w w1 b r o ∧ TkU w1 q t G m D P V ∧ Pa.Std w1) := ⟨HFR.out.later hb, HD.out.1.below hb, HD.out.2.below hb⟩
  clear hb
  obtain ⟨pe, hpe⟩ : ∃ x, x = Oq.good o := ⟨_, rfl⟩
  rw [← hpe]
  have HP : Hid (pe = Oq.good o) := hpe
  clear hpe
  by_cases h0 : pe = 0
  · subst h0
    have HG : Hid (Oq.good o = 0) := HP.out.symm
    by_cases hs1 : s < 1
    · have HE : Hid (R = Tq.fail 1) := by
        have e : R = Tq.fail 1 := by rw [HR.out]; unfold Tq.doo; rw [HG.out, if_neg (by simp), if_pos (Or.inl hs1)]
        exact e
      go_wp2_with (refine wpList_store_row rfl 44 _ _ rfl r (xc (Tq.fail 1) (.slice none 0 0)).toArray rfl rfl 44 _ H1.out.1.res (by kernel_rfl) rfl (by kernel_rfl) ?_)
      have H9 := H1.out.1.put (Tq.fail 1) (.slice none 0 0)
      refine bodyPost_ret (v := .agg (xc (Tq.fail 1) (.slice none 0 0)).toArray) ?_ rfl ⟨_, by rw [HE.out]; rfl, by rw [HE.out]; exact Sq.nil _, fun k hk => by (cases hk), H9.2⟩
      exact results_cell_row rfl _ _ r 44 _ (0, 0) _ rfl H9.1 Tryz.underlying44 rfl (by kernel_rfl)
    by_cases hz1 : z < 0
    · have HE : Hid (R = Tq.fail 1) := by
        have e : R = Tq.fail 1 := by rw [HR.out]; unfold Tq.doo; rw [HG.out, if_neg (by simp), if_pos (Or.inr hz1)]
        exact e
      go_wp2_with (refine wpList_store_row rfl 44 _ _ rfl r (xc (Tq.fail 1) (.slice none 0 0)).toArray rfl rfl 44 _ H1.out.1.res (by kernel_rfl) rfl (by kernel_rfl) ?_)
      have H9 := H1.out.1.put (Tq.fail 1) (.slice none 0 0)
      refine bodyPost_ret (v := .agg (xc (Tq.fail 1) (.slice none 0 0)).toArray) ?_ rfl ⟨_, by rw [HE.out]; rfl, by rw [HE.out]; exact Sq.nil _, fun k hk => by (cases hk), H9.2⟩
      exact results_cell_row rfl _ _ r 44 _ (0, 0) _ rfl H9.1 Tryz.underlying44 rfl (by kernel_rfl)
    have HR2 : Hid (R = (if o.kind = 1 then Tq.create t o s z else match Tq.find t.l o.path with | none => (Tq.fail 4, t) | some n => Tq.atNode t o z n).1) := by
      have e : R = (if o.kind = 1 then Tq.create t o s z else match Tq.find t.l o.path with | none => (Tq.fail 4, t) | some n => Tq.atNode t o z n).1 := by rw [HR.out]; unfold Tq.doo; rw [HG.out, if_neg (by simp), if_neg (by omega)]; rfl
      exact e
    obtain ⟨c0, c1, c2, c3, c4⟩ := H1.out.1.op.all
    by_cases hk : o.kind = 1
    · have HE : Hid (R = (Tq.create t o s z).1 ∧ R.names = []) := by
        have e : R = (Tq.create t o s z).1 := by rw [HR2.out, if_pos hk]
        exact ⟨e, by rw [e]; exact Tq.create_names _ _ _ _⟩
      have hkb : (o.kind == 1) = true := by simp [hk]
      clear hk
      go_wp2_with fail
      refine (HCR.out w1 H1.out.2.1 H1.out.2.2 HG.out).mono ?_
      rintro e w2 ⟨rfl, hb⟩
      have H2 : Hid (Fr11 w w2 b r o ∧ True) := ⟨H1.out.1.later hb, trivial⟩
      rw [← HE.out.1]
      clear hb c0 c1 c2 c3 c4
      unfold rv
      go_wp2_with (refine wpList_store_row rfl 44 _ _ rfl r (xc R (.slice none 0 0)).toArray rfl rfl 44 _ H2.out.1.res (by kernel_rfl) rfl (by kernel_rfl) ?_)
      have H9 := H2.out.1.put R (.slice none 0 0)
      refine bodyPost_ret (v := .agg (xc R (.slice none 0 0)).toArray) ?_ rfl ⟨_, rfl, by rw [HE.out.2]; exact Sq.nil _, fun k hk => by (cases hk), H9.2⟩
      exact results_cell_row rfl _ _ r 44 _ (0, 0) _ rfl H9.1 Tryz.underlying44 rfl (by kernel_rfl)
    · have m0 : w1.cell? ⟨q, 0, none⟩ = some (.map (some m)) := H1.out.2.1.blk.cell 0
      cases hfd : Tq.find t.l o.path with
      | none =>
        have HE : Hid (R = Tq.fail 4) := by
          have e : R = Tq.fail 4 := by rw [HR2.out, if_neg hk, hfd]
          exact e
        have hlk : ∀ n, (Instr.lookup 96 (.map (some m)) (.string o.path) true).run Tryz.prog (w1.drewN n) = .ok (.tuple #[.pointer none, .bool false]) (w1.drewN n) := fun n => (H1.out.2.1.below (below_drewN (Below.refl _ w1) n)).look_no (good_max (Tq.good_path HG.out)) hfd
        clear hfd c2 c3 c4
        go_wp2
        go_quiet (fail)
        have H2 : Hid (Fr11 w (w1.drewN nq) b r o ∧ True) := ⟨H1.out.1.later (below_drewN (Below.refl _ w1) nq), trivial⟩
        clear hlk m0 c0 c1
        generalize w1.drewN nq = w2 at *
        go_wp2_with (refine wpList_store_row rfl 44 _ _ rfl r (xc (Tq.fail 4) (.slice none 0 0)).toArray rfl rfl 44 _ H2.out.1.res (by kernel_rfl) rfl (by kernel_rfl) ?_)
        have H9 := H2.out.1.put (Tq.fail 4) (.slice none 0 0)
        refine bodyPost_ret (v := .agg (xc (Tq.fail 4) (.slice none 0 0)).toArray) ?_ rfl ⟨_, by rw [HE.out]; rfl, by rw [HE.out]; exact Sq.nil _, fun k hk => by (cases hk), H9.2⟩
        exact results_cell_row rfl _ _ r 44 _ (0, 0) _ rfl H9.1 Tryz.underlying44 rfl (by kernel_rfl)
      | some n =>
        have HE : Hid (R = Tq.askT o z n ∧ Node11 n) := by
          have e : R = Tq.askT o z n := by rw [HR2.out, if_neg hk, hfd]; exact Tq.atNode_ask _ _ _ _
          exact ⟨e, Tq.find_node HS.out.1 hfd⟩
        obtain ⟨pb, hpb⟩ : ∃ pb, pb = P o.path := ⟨_, rfl⟩
        have HO : Hid (Own11 w1 pb n (V o.path)) := by
          have e : Own11 w1 pb n (V o.path) := by rw [hpb]; exact H1.out.2.1.node _ (Tq.find_some hfd)
          exact e
        have hlk : ∀ n, (Instr.lookup 96 (.map (some m)) (.string o.path) true).run Tryz.prog (w1.drewN n) = .ok (.tuple #[dptr pb, .bool true]) (w1.drewN n) := fun n => by
          rw [hpb]
          exact (H1.out.2.1.below (below_drewN (Below.refl _ w1) n)).look_yes (good_max (Tq.good_path HG.out)) hfd
        clear hfd hpb
        go_wp2
        go_quiet (fail)
        have hbd := below_drewN (Below.refl w1.heap.size w1) nq
        have H2 : Hid (Fr11 w (w1.drewN nq) b r o ∧ Own11 (w1.drewN nq) pb n (V o.path) ∧ Pa.Std (w1.drewN nq)) := ⟨H1.out.1.later hbd, HO.out.keep (fun k hk => hbd.block k (HO.out.flt hk)), H1.out.2.2.below hbd⟩
        clear hlk m0 c0 c1 c2 c3 c4 hbd
        generalize w1.drewN nq = w2 at *
        obtain ⟨c0, c1, c2, c3, c4⟩ := H2.out.1.op.all
        go_wp2_with fail
        refine (HAK.out w2 pb n (V o.path) H2.out.2.1 HE.out.2 H2.out.2.2 HG.out hk).mono ?_
        rintro e w3 ⟨u, rfl, hsq, hnew, hb⟩
        have H3 : Hid (Fr11 w w3 b r o ∧ Sq w3 u R.names ∧ (∀ k, u.ownBlock = some k → w2.heap.size ≤ k) ∧ r < w2.heap.size) := ⟨H2.out.1.later hb, by rw [HE.out.1]; exact hsq, hnew, H2.out.1.res.lt⟩
        rw [← HE.out.1]
        obtain ⟨ua, uk, uc, rfl, hj⟩ := hsq
        clear hj hnew hb c0 c1 c2 c3 c4
        unfold rv
        go_wp2_with (refine wpList_store_row rfl 44 _ _ rfl r (xc R (.slice ua uk uc)).toArray rfl rfl 44 _ H3.out.1.res (by kernel_rfl) rfl (by kernel_rfl) ?_)
        have H9 := H3.out.1.put R (.slice ua uk uc)
        refine bodyPost_ret (v := .agg (xc R (.slice ua uk uc)).toArray) ?_ rfl ⟨_, rfl, sq_rowed H3.out.2.1 (fun k hk => by have := H3.out.2.2.1 k hk; have := H3.out.2.2.2; omega), fun k hk => by have h1 := H3.out.2.2.1 k hk; have h2 := H3.out.2.2.2; have h3 := H3.out.1.ne; have h4 := H3.out.1.hi; omega, H9.2⟩
        exact results_cell_row rfl _ _ r 44 _ (0, 0) _ rfl H9.1 Tryz.underlying44 rfl (by kernel_rfl)
  · have HE : Hid (R = Tq.fail pe) := by
      have e : R = Tq.fail pe := by rw [HR.out]; unfold Tq.doo; rw [if_pos (by rw [← HP.out]; exact h0), HP.out]
      exact e
    go_wp2_with (refine wpList_store_row rfl 44 _ _ rfl r (xc (Tq.fail pe) (.slice none 0 0)).toArray rfl rfl 44 _ H1.out.1.res (by kernel_rfl) rfl (by kernel_rfl) ?_)
    have H9 := H1.out.1.put (Tq.fail pe) (.slice none 0 0)
    refine bodyPost_ret (v := .agg (xc (Tq.fail pe) (.slice none 0 0)).toArray) ?_ rfl ⟨_, by rw [HE.out]; rfl, by rw [HE.out]; exact Sq.nil _, fun k hk => by (cases hk), H9.2⟩
    exact results_cell_row rfl _ _ r 44 _ (0, 0) _ rfl H9.1 Tryz.underlying44 rfl (by kernel_rfl)
end
end Go.Proofs.YtpidafpaffpnaaaGreatDoor
