/- What asked answers of a tree's own node. -/
import Derived.Test.YtpidafpaffpnaaaGreatDoorWAsk11
import Derived.Test.YtpidafpaffpnaaaGreatDoorBas
namespace Go.Proofs.YtpidafpaffpnaaaGreatDoor
open Go.RowKit
/-- What asked has under way: what it was handed, the node, the result that it fills. -/
structure Ask11 (W w : World) (b r rr p : Nat) (o : O) (n : Kq.Kn) (v : Value) (x : X) (u : Value) : Prop where
  fr : Fr11 W w b r o
  nd : Own11 w p n v
  cb : Cb w rr (xc x u) 44
  nr : r < rr
  old : ∀ k, Fn p v k → k < W.heap.size
section
variable {W w w' : World} {b r rr p k : Nat} {o : O} {n : Kq.Kn} {v : Value} {x : X} {u : Value}
theorem Ask11.later (h : Ask11 W w b r rr p o n v x u) (hb : Below w.heap.size w w') : Ask11 W w' b r rr p o n v x u := ⟨h.fr.later hb, h.nd.keep (fun k hk => hb.block k (h.nd.flt hk)), h.cb.below hb, h.nr, h.old⟩
theorem Ask11.keep (h : Ask11 W w b r rr p o n v x u) {x' : X} {u' : Value} (hg : w.grownBy w' (some k)) (hk : rr ≤ k) (hc : Cb w' rr (xc x' u') 44) : Ask11 W w' b r rr p o n v x' u' := by
  have hb := h.fr.below
  have h1 := h.fr.ne
  have h2 := h.fr.hi
  have h3 := h.nr
  have hW : Below W.heap.size W w' := hb.grown hg hb.size (fun j hj => by simp at hj; omega)
  have hB := hg.block b h.fr.blk.lt (by simp; omega)
  exact ⟨⟨⟨(World.cell?_of_block hB).trans h.fr.op.c0, (World.cell?_of_block hB).trans h.fr.op.c1, (World.cell?_of_block hB).trans h.fr.op.c2, (World.cell?_of_block hB).trans h.fr.op.c3, (World.cell?_of_block hB).trans h.fr.op.c4⟩, h.fr.res.keep (hg.block r h.fr.res.lt (by simp; omega)), h1, h2, h.fr.blk.keep hB, hW⟩, h.nd.keep (fun j hj => hg.block j (h.nd.flt hj) (fun e => by have := h.old j hj; simp at e; omega)), hc, h.nr, h.old⟩
/-- Another block has changed. -/
theorem Ask11.other (h : Ask11 W w b r rr p o n v x u) (hg : w.grownBy w' (some k)) (hk : rr < k) : Ask11 W w' b r rr p o n v x u := h.keep hg (by omega) (h.cb.keep (hg.block rr h.cb.lt (by simp; omega)))
/-- The result is filled. -/
theorem Ask11.fill (h : Ask11 W w b r rr p o n v x u) (x' : X) (u' : Value) : Ask11 W (w.setRow rr (xc x' u').toArray) b r rr p o n v x' u' := h.keep (rowed_grown w rr _) (Nat.le_refl _) (h.cb.rowed _)
end
section
variable {w : World}
theorem sq_of_row {B : Nat} {v : Value} {l : List ByteArray} (h : w.ownsRow B 9 1 v l.length (sc l)) : Sq w v l := by
  rcases Nm.of_row h with ⟨rfl, rfl⟩ | ⟨g, o, c, rfl, h2, h3⟩
  · exact Sq.nil _
  · exact ⟨_, _, _, rfl, rfl, h2, fun e => (by cases e), fun j s hs => ⟨g, o, rfl, h3 j s hs⟩⟩
theorem sq_rowed {v : Value} {l : List ByteArray} {r : Nat} {cs : Array Value} (h : Sq w v l) (hv : ∀ k, v.ownBlock = some k → k ≠ r) : Sq (w.setRow r cs) v l := by
  obtain ⟨av, k, c, rfl, hk, hkc, hn, hs⟩ := h
  refine ⟨av, k, c, rfl, hk, hkc, hn, fun j s hj => ?_⟩
  obtain ⟨g, o, e, hc⟩ := hs j s hj
  refine ⟨g, o, e, ?_⟩
  rw [cell_setRow_other]
  · exact hc
  · exact hv g (by rw [e]; rfl)
theorem fine11_10 {n : Kq.Kn} (h : Node11 n) : Fine10 n := ⟨h.ver, h.kids, h.next, by have := h.many; omega, fun s hs => by have := name_len (h.long s hs); omega, h.data⟩
set_option maxRecDepth 20000 in
set_option maxHeartbeats 4000000 in
theorem asked_any11 (p : Nat) (n : Kq.Kn) (v : Value) (o : O) (z : Int) (h : Own11 w p n v) (hf : Node11 n) (hS : Pa.Std w) (hg : Pl.goodB o.path.data.toList = true) (hd : o.data.size ≤ 1000) (hk : 2 ≤ o.kind ∧ o.kind ≤ 7) :
    Calls Tryz.prog 60 #[dptr p, ov o, .int .i64 z] w fun e w' => ∃ u, e = .returned (rv (Tq.askT o z n) u) ∧ Sq w' u (Tq.askT o z n).names ∧ (∀ k, u.ownBlock = some k → w.heap.size ≤ k) ∧ Below w.heap.size w w' := by
  obtain ⟨a, c, rfl, hc, _⟩ := row_form h.row
  have HFR : Hid (Fr11 w ((w.alloc (.cells #[.int .i64 o.kind, .string o.path, .string o.data, .int .i64 o.ver, .int .i64 o.flags] 33)).alloc (.cells #[.int .i64 0, .string ⟨#[]⟩, .string ⟨#[]⟩, .slice none 0 0, .int .i64 0, .int .i64 0, .int .i64 0, .int .i64 0, .int .i64 0, .int .i64 0, .int .i64 0] 44)) w.heap.size (w.heap.size + 1) o) := Fr11.made w o
  have HD : Hid (Own11 ((w.alloc (.cells #[.int .i64 o.kind, .string o.path, .string o.data, .int .i64 o.ver, .int .i64 o.flags] 33)).alloc (.cells #[.int .i64 0, .string ⟨#[]⟩, .string ⟨#[]⟩, .slice none 0 0, .int .i64 0, .int .i64 0, .int .i64 0, .int .i64 0, .int .i64 0, .int .i64 0, .int .i64 0] 44)) p n (.slice a n.names.length c) ∧ Pa.Std ((w.alloc (.cells #[.int .i64 o.kind, .string o.path, .string o.data, .int .i64 o.ver, .int .i64 o.flags] 33)).alloc (.cells #[.int .i64 0, .string ⟨#[]⟩, .string ⟨#[]⟩, .slice none 0 0, .int .i64 0, .int .i64 0, .int .i64 0, .int .i64 0, .int .i64 0, .int .i64 0, .int .i64 0] 44))) := ⟨h.keep (fun k hk => HFR.out.below.block k (h.flt hk)), hS.below HFR.out.below⟩
  have HS : Hid (Node11 n ∧ Pl.goodB o.path.data.toList = true ∧ o.data.size ≤ 1000 ∧ ∀ k, Fn p (.slice a n.names.length c) k → k < w.heap.size) := ⟨hf, hg, hd, fun k hk => h.flt hk⟩
  obtain ⟨b, hbw⟩ : ∃ b, b = w.heap.size := ⟨_, rfl⟩
  obtain ⟨r, hrw⟩ : ∃ r, r = w.heap.size + 1 := ⟨_, rfl⟩
  rw [← hrw, ← hbw] at HFR
  obtain ⟨R, hR⟩ : ∃ R, R = Tq.askT o z n := ⟨_, rfl⟩
  have HR : Hid (R = Tq.askT o z n) := hR
  rw [← hR]
  have HMY : Hid (∀ w, Cb w p (k10 n (.slice a n.names.length c)) 121 → Calls Tryz.prog 118 #[dptr p, ov o] w fun e w' => e = .returned (.int .i64 (Tq.mayN n o)) ∧ Below w.heap.size w w') := fun w h => may_any11 p n a n.names.length c o h rfl (by have := hf.many; omega) hk
  clear hR h hS hg hd hf
  unfold ov at HMY
  unfold ov
  go_enter Tryz.func60, Tryz.ntmps60
  go_wp2_with fail
  rw [← hrw, ← hbw]
  clear hrw hbw
  generalize ((w.alloc (.cells #[.int .i64 o.kind, .string o.path, .string o.data, .int .i64 o.ver, .int .i64 o.flags] 33)).alloc (.cells #[.int .i64 0, .string ⟨#[]⟩, .string ⟨#[]⟩, .slice none 0 0, .int .i64 0, .int .i64 0, .int .i64 0, .int .i64 0, .int .i64 0, .int .i64 0, .int .i64 0] 44)) = w0 at *
  refine (HMY.out w0 HD.out.1.blk).mono ?_
  rintro e w1 ⟨rfl, hb⟩
  have H1 : Hid (Fr11 w w1 b r o ∧ Own11 w1 p n (.slice a n.names.length c) ∧ Pa.Std w1) := ⟨HFR.out.later hb, HD.out.1.keep (fun k hk => hb.block k (HD.out.1.flt hk)), HD.out.2.below hb⟩
  clear hb
  obtain ⟨pe, hpe⟩ : ∃ x, x = Tq.mayN n o := ⟨_, rfl⟩
  rw [← hpe]
  have HP : Hid (pe = Tq.mayN n o) := hpe
  clear hpe
  by_cases h0 : pe = 0
  · subst h0
    obtain ⟨c0, c1, c2, c3, c4⟩ := H1.out.1.op.all
    go_wp2_with fail
    refine (sclone_any10 o.path _ (by have := good_len HS.out.2.1; omega)).mono ?_
    rintro e w2 ⟨rfl, hb⟩
    have H2 : Hid (Fr11 w w2 b r o ∧ Own11 w2 p n (.slice a n.names.length c) ∧ Pa.Std w2) := ⟨H1.out.1.later hb, H1.out.2.1.keep (fun k hk => hb.block k (H1.out.2.1.flt hk)), H1.out.2.2.below hb⟩
    clear hb c0 c1 c2 c3 c4
    obtain ⟨rr, hrr⟩ : ∃ x, x = w2.heap.size := ⟨_, rfl⟩
    have H3 : Hid (Ask11 w (w2.alloc (.cells #[.int .i64 0, .string o.path, .string ⟨#[]⟩, .slice none 0 0, .int .i64 0, .int .i64 0, .int .i64 0, .int .i64 0, .int .i64 0, .int .i64 0, .int .i64 0] 44)) b r rr p o n (.slice a n.names.length c) (Tq.gone o.path) (.slice none 0 0)) := by
      have hba := (Below.refl _ w2).alloc (Nat.le_refl _) (.cells #[.int .i64 0, .string o.path, .string ⟨#[]⟩, .slice none 0 0, .int .i64 0, .int .i64 0, .int .i64 0, .int .i64 0, .int .i64 0, .int .i64 0, .int .i64 0] 44)
      refine ⟨H2.out.1.later hba, H2.out.2.1.keep (fun k hk => hba.block k (H2.out.2.1.flt hk)), ?_, ?_, HS.out.2.2.2⟩
      · rw [hrr]
        exact Cb.made w2 (xc (Tq.gone o.path) (.slice none 0 0)) _
      · rw [hrr]
        exact H2.out.1.res.lt
    go_upto_region 5 with fail
    rw [← hrr]
    clear hrr H2
    generalize (w2.alloc (.cells #[.int .i64 0, .string o.path, .string ⟨#[]⟩, .slice none 0 0, .int .i64 0, .int .i64 0, .int .i64 0, .int .i64 0, .int .i64 0, .int .i64 0, .int .i64 0] 44)) = w3 at *
    have o0 : w3.cell? ⟨b, 0, none⟩ = some (.int .i64 o.kind) := H3.out.fr.op.c0
    have HZ : Hid (Tq.mayN n o = 0) := HP.out.symm
    have hkc : o.kind = 2 ∨ o.kind = 3 ∨ o.kind = 4 ∨ o.kind = 5 ∨ o.kind = 6 ∨ o.kind = 7 := by omega
    clear hk
    rcases hkc with hk | hk | hk | hk | hk | hk
    · have HE : Hid (R = Tq.gone o.path) := by
        have e : R = Tq.gone o.path := by rw [HR.out]; unfold Tq.askT; rw [HZ.out, if_neg (by simp), if_pos hk]
        exact e
      go_wp2_with (first
        | (refine wpList_load_row rfl 44 _ rfl rr rfl 44 (xc (Tq.gone o.path) (.slice none 0 0)).toArray (0, 0) _ H3.out.cb Tryz.underlying44 rfl (by kernel_rfl) ?_)
        | (refine wpList_store_row rfl 44 _ _ rfl r (xc (Tq.gone o.path) (.slice none 0 0)).toArray rfl rfl 44 _ H3.out.fr.res (by kernel_rfl) rfl (by kernel_rfl) ?_))
      have H9 := H3.out.fr.put (Tq.gone o.path) (.slice none 0 0)
      refine bodyPost_ret (v := .agg (xc (Tq.gone o.path) (.slice none 0 0)).toArray) ?_ rfl ⟨_, by rw [HE.out]; rfl, by rw [HE.out]; exact Sq.nil _, fun k hk => by (cases hk), H9.2⟩
      exact results_cell_row rfl _ _ r 44 _ (0, 0) _ rfl H9.1 Tryz.underlying44 rfl (by kernel_rfl)
    · have HE : Hid (R = Tq.told o.path ⟨#[]⟩ [] (Kq.write n z o.data)) := by
        have e : R = Tq.told o.path ⟨#[]⟩ [] (Kq.write n z o.data) := by rw [HR.out]; unfold Tq.askT; rw [HZ.out, if_neg (by simp), if_neg (by omega), if_pos hk]
        exact e
      obtain ⟨wr, hwr⟩ : ∃ x, x = w3.heap.size := ⟨_, rfl⟩
      have H4 : Hid (Ask11 w (w3.alloc (.cells #[.int .i64 n.made, .int .i64 n.changed, .int .i64 n.ver, .int .i64 n.kids, .int .i64 n.owner, .int .i64 n.len, .int .i64 n.cnt, .string n.data, .int .i64 n.next, (.slice a n.names.length c)] 121)) b r rr p o n (.slice a n.names.length c) (Tq.gone o.path) (.slice none 0 0) ∧ Cb (w3.alloc (.cells #[.int .i64 n.made, .int .i64 n.changed, .int .i64 n.ver, .int .i64 n.kids, .int .i64 n.owner, .int .i64 n.len, .int .i64 n.cnt, .string n.data, .int .i64 n.next, (.slice a n.names.length c)] 121)) wr (k10 n (.slice a n.names.length c)) 121 ∧ rr < wr) := by
        have hba := (Below.refl _ w3).alloc (Nat.le_refl _) (.cells (k10 n (.slice a n.names.length c)).toArray 121)
        exact ⟨H3.out.later hba, by rw [hwr]; exact Cb.made w3 (k10 n (.slice a n.names.length c)) _, by rw [hwr]; exact H3.out.cb.lt⟩
      go_upto_region 8 with (refine wpList_load_row rfl 121 _ rfl p rfl 121 #[.int .i64 n.made, .int .i64 n.changed, .int .i64 n.ver, .int .i64 n.kids, .int .i64 n.owner, .int .i64 n.len, .int .i64 n.cnt, .string n.data, .int .i64 n.next, (.slice a n.names.length c)] (0, 0) _ H3.out.nd.blk Tryz.underlying121 rfl (by kernel_rfl) ?_)
      rw [← hwr]
      clear hwr o0 H3
      generalize (w3.alloc (.cells #[.int .i64 n.made, .int .i64 n.changed, .int .i64 n.ver, .int .i64 n.kids, .int .i64 n.owner, .int .i64 n.len, .int .i64 n.cnt, .string n.data, .int .i64 n.next, (.slice a n.names.length c)] 121)) = w4 at *
      have o2 : w4.cell? ⟨b, 2, none⟩ = some (.string o.data) := H4.out.1.fr.op.c2
      go_wp2_with fail
      refine (write_any11 wr n (.slice a n.names.length c) z o.data w4 H4.out.2.1 (fine11_10 HS.out.1) (by have := HS.out.2.2.1; omega)).mono ?_
      rintro e w5 ⟨rfl, hcb, hg⟩
      have H5 : Hid (Ask11 w w5 b r rr p o n (.slice a n.names.length c) (Tq.gone o.path) (.slice none 0 0) ∧ Cb w5 wr (k10 (Kq.write n z o.data) (.slice a n.names.length c)) 121) := ⟨H4.out.1.other hg H4.out.2.2, hcb⟩
      clear hcb hg o2 H4
      go_upto_region 16 with (first
        | (refine wpList_load_part rfl 35 _ rfl wr 0 rfl 121 _ #[.int .i64 (Kq.write n z o.data).made, .int .i64 (Kq.write n z o.data).changed, .int .i64 (Kq.write n z o.data).ver, .int .i64 (Kq.write n z o.data).kids, .int .i64 (Kq.write n z o.data).owner, .int .i64 (Kq.write n z o.data).len, .int .i64 (Kq.write n z o.data).cnt] _ H5.out.2 Tryz.underlying35 rfl (by kernel_rfl) rfl ?_)
        | (refine wpList_store_part rfl 35 _ _ rfl rr 4 #[.int .i64 (Kq.write n z o.data).made, .int .i64 (Kq.write n z o.data).changed, .int .i64 (Kq.write n z o.data).ver, .int .i64 (Kq.write n z o.data).kids, .int .i64 (Kq.write n z o.data).owner, .int .i64 (Kq.write n z o.data).len, .int .i64 (Kq.write n z o.data).cnt] rfl rfl 44 _ (xc (Tq.told o.path ⟨#[]⟩ [] (Kq.write n z o.data)) (.slice none 0 0)) H5.out.1.cb (by kernel_rfl) (Nat.le_of_ble_eq_true rfl) (by kernel_rfl) rfl ?_))
      have H6 : Hid (Ask11 w (w5.setRow rr (xc (Tq.told o.path ⟨#[]⟩ [] (Kq.write n z o.data)) (.slice none 0 0)).toArray) b r rr p o n (.slice a n.names.length c) (Tq.told o.path ⟨#[]⟩ [] (Kq.write n z o.data)) (.slice none 0 0)) := H5.out.1.fill _ _
      clear H5
      generalize w5.setRow rr (xc (Tq.told o.path ⟨#[]⟩ [] (Kq.write n z o.data)) (.slice none 0 0)).toArray = w6 at *
      go_wp2_with (first
        | (refine wpList_load_row rfl 44 _ rfl rr rfl 44 (xc (Tq.told o.path ⟨#[]⟩ [] (Kq.write n z o.data)) (.slice none 0 0)).toArray (0, 0) _ H6.out.cb Tryz.underlying44 rfl (by kernel_rfl) ?_)
        | (refine wpList_store_row rfl 44 _ _ rfl r (xc (Tq.told o.path ⟨#[]⟩ [] (Kq.write n z o.data)) (.slice none 0 0)).toArray rfl rfl 44 _ H6.out.fr.res (by kernel_rfl) rfl (by kernel_rfl) ?_))
      have H9 := H6.out.fr.put (Tq.told o.path ⟨#[]⟩ [] (Kq.write n z o.data)) (.slice none 0 0)
      refine bodyPost_ret (v := .agg (xc (Tq.told o.path ⟨#[]⟩ [] (Kq.write n z o.data)) (.slice none 0 0)).toArray) ?_ rfl ⟨_, by rw [HE.out]; rfl, by rw [HE.out]; exact Sq.nil _, fun k hk => by (cases hk), H9.2⟩
      exact results_cell_row rfl _ _ r 44 _ (0, 0) _ rfl H9.1 Tryz.underlying44 rfl (by kernel_rfl)
    · have HE : Hid (R = Tq.gone o.path) := by
        have e : R = Tq.gone o.path := by rw [HR.out]; unfold Tq.askT; rw [HZ.out, if_neg (by simp), if_neg (by omega), if_neg (by omega), if_pos hk]
        exact e
      go_wp2_with (first
        | (refine wpList_load_row rfl 44 _ rfl rr rfl 44 (xc (Tq.gone o.path) (.slice none 0 0)).toArray (0, 0) _ H3.out.cb Tryz.underlying44 rfl (by kernel_rfl) ?_)
        | (refine wpList_store_row rfl 44 _ _ rfl r (xc (Tq.gone o.path) (.slice none 0 0)).toArray rfl rfl 44 _ H3.out.fr.res (by kernel_rfl) rfl (by kernel_rfl) ?_))
      have H9 := H3.out.fr.put (Tq.gone o.path) (.slice none 0 0)
      refine bodyPost_ret (v := .agg (xc (Tq.gone o.path) (.slice none 0 0)).toArray) ?_ rfl ⟨_, by rw [HE.out]; rfl, by rw [HE.out]; exact Sq.nil _, fun k hk => by (cases hk), H9.2⟩
      exact results_cell_row rfl _ _ r 44 _ (0, 0) _ rfl H9.1 Tryz.underlying44 rfl (by kernel_rfl)
    · have HE : Hid (R = Tq.told o.path n.data [] n) := by
        have e : R = Tq.told o.path n.data [] n := by rw [HR.out]; unfold Tq.askT; rw [HZ.out, if_neg (by simp), if_neg (by omega), if_neg (by omega), if_neg (by omega), if_pos hk]
        exact e
      go_wp2_with fail
      refine wp_region_held_drew (S := fun w' => Cb w' p (k10 n (.slice a n.names.length c)) 121) (by kernel_rfl) H3.out.nd.blk (fun _ => ?_)
      have H4 : Hid (Ask11 w w3.drew b r rr p o n (.slice a n.names.length c) (Tq.gone o.path) (.slice none 0 0)) := H3.out.later (Below.refl _ _).drew
      clear o0 H3
      generalize w3.drew = w4 at *
      refine' take_at (i := 0) (d := 39) (v := _) rfl rfl (by kernel_rfl) (by kernel_rfl) (by kernel_rfl) (fun _ _ _ h => h) (Or.inl ⟨by rfl, ?h0⟩) (H4.out.nd.blk) ?_
      case h0 =>
        intro w hSw
        obtain ⟨c0, c1, c2, c3, c4, c5, c6, c7, c8, c9⟩ := ten_cells hSw
        go_simp
        with_reducible rfl
      simp only [List.setIfInBounds_toArray, List.set_cons_zero, List.set_cons_succ]
      refine' take_at (i := 1) (d := 40) (v := _) rfl rfl (by kernel_rfl) (by kernel_rfl) (by kernel_rfl) (fun _ _ _ h => h) (Or.inl ⟨by rfl, ?h1⟩) (H4.out.nd.blk) ?_
      case h1 =>
        intro w hSw
        obtain ⟨c0, c1, c2, c3, c4, c5, c6, c7, c8, c9⟩ := ten_cells hSw
        go_simp
        with_reducible rfl
      simp only [List.setIfInBounds_toArray, List.set_cons_zero, List.set_cons_succ]
      refine' take_at (i := 2) (d := 41) (v := _) rfl rfl (by kernel_rfl) (by kernel_rfl) (by kernel_rfl) (fun _ _ _ h => h) (Or.inl ⟨by rfl, ?h2⟩) (H4.out.nd.blk) ?_
      case h2 =>
        intro w hSw
        obtain ⟨c0, c1, c2, c3, c4, c5, c6, c7, c8, c9⟩ := ten_cells hSw
        go_simp
        with_reducible rfl
      simp only [List.setIfInBounds_toArray, List.set_cons_zero, List.set_cons_succ]
      refine' take_at (i := 3) (d := 42) (v := _) rfl rfl (by kernel_rfl) (by kernel_rfl) (by kernel_rfl) (fun _ _ _ h => h) (Or.inl ⟨by rfl, ?h3⟩) (H4.out.nd.blk) ?_
      case h3 =>
        intro w hSw
        obtain ⟨c0, c1, c2, c3, c4, c5, c6, c7, c8, c9⟩ := ten_cells hSw
        go_simp
        with_reducible rfl
      simp only [List.setIfInBounds_toArray, List.set_cons_zero, List.set_cons_succ]
      refine' take_at (i := 4) (d := 43) (v := _) rfl rfl (by kernel_rfl) (by kernel_rfl) (by kernel_rfl) (fun _ _ _ h => h) (Or.inl ⟨by rfl, ?h4⟩) (H4.out.nd.blk) ?_
      case h4 =>
        intro w hSw
        obtain ⟨c0, c1, c2, c3, c4, c5, c6, c7, c8, c9⟩ := ten_cells hSw
        go_simp
        with_reducible rfl
      simp only [List.setIfInBounds_toArray, List.set_cons_zero, List.set_cons_succ]
      refine' take_at (i := 5) (d := 44) (v := _) rfl rfl (by kernel_rfl) (by kernel_rfl) (by kernel_rfl) (fun _ _ _ h => h) (Or.inl ⟨by rfl, ?h5⟩) (H4.out.nd.blk) ?_
      case h5 =>
        intro w hSw
        obtain ⟨c0, c1, c2, c3, c4, c5, c6, c7, c8, c9⟩ := ten_cells hSw
        go_simp
        with_reducible rfl
      simp only [List.setIfInBounds_toArray, List.set_cons_zero, List.set_cons_succ]
      refine' take_at (i := 6) (d := 45) (v := _) rfl rfl (by kernel_rfl) (by kernel_rfl) (by kernel_rfl) (fun _ _ _ h => h) (Or.inl ⟨by rfl, ?h6⟩) (H4.out.nd.blk) ?_
      case h6 =>
        intro w hSw
        obtain ⟨c0, c1, c2, c3, c4, c5, c6, c7, c8, c9⟩ := ten_cells hSw
        go_simp
        with_reducible rfl
      simp only [List.setIfInBounds_toArray, List.set_cons_zero, List.set_cons_succ]
      refine' take_at (i := 7) (d := 46) (v := _) rfl rfl (by kernel_rfl) (by kernel_rfl) (by kernel_rfl) (fun _ _ _ h => h) (Or.inl ⟨by rfl, ?h7⟩) (H4.out.nd.blk) ?_
      case h7 =>
        intro w hSw
        obtain ⟨c0, c1, c2, c3, c4, c5, c6, c7, c8, c9⟩ := ten_cells hSw
        go_simp
        with_reducible rfl
      simp only [List.setIfInBounds_toArray, List.set_cons_zero, List.set_cons_succ]
      refine' take_at (i := 8) (d := 47) (v := _) rfl rfl (by kernel_rfl) (by kernel_rfl) (by kernel_rfl) (fun _ _ _ h => h) (Or.inl ⟨by rfl, ?h8⟩) (H4.out.nd.blk) ?_
      case h8 =>
        intro w hSw
        obtain ⟨c0, c1, c2, c3, c4, c5, c6, c7, c8, c9⟩ := ten_cells hSw
        go_simp
        with_reducible rfl
      simp only [List.setIfInBounds_toArray, List.set_cons_zero, List.set_cons_succ]
      refine' take_at (i := 9) (d := 48) (v := _) rfl rfl (by kernel_rfl) (by kernel_rfl) (by kernel_rfl) (fun _ _ _ h => h) (Or.inl ⟨by rfl, ?h9⟩) (H4.out.nd.blk) ?_
      case h9 =>
        intro w hSw
        obtain ⟨c0, c1, c2, c3, c4, c5, c6, c7, c8, c9⟩ := ten_cells hSw
        go_simp
        with_reducible rfl
      simp only [List.setIfInBounds_toArray, List.set_cons_zero, List.set_cons_succ]
      refine' take_at (i := 10) (d := 49) (v := _) rfl rfl (by kernel_rfl) (by kernel_rfl) (by kernel_rfl) (fun _ _ _ h => h) (Or.inl ⟨by rfl, ?h10⟩) (H4.out.nd.blk) ?_
      case h10 =>
        intro w hSw
        obtain ⟨c0, c1, c2, c3, c4, c5, c6, c7, c8, c9⟩ := ten_cells hSw
        go_simp
        with_reducible rfl
      simp only [List.setIfInBounds_toArray, List.set_cons_zero, List.set_cons_succ]
      refine wpAnyH_ready (rs := [11]) (by kernel_rfl) (by simp) ?_
      refine AllReadyH.cons (o := _) rfl (fun KQ hKQ => ?_) AllReadyH.nil
      have r2 : w4.cell? ⟨rr, 2, none⟩ = some (.string ⟨#[]⟩) := H4.out.cb.cell 2
      have f2 := H4.out.cb.free 2
      go_simp
      clear r2 f2
      have H5 : Hid (Ask11 w (w4.setCell ⟨rr, 2, none⟩ (.string n.data)) b r rr p o n (.slice a n.names.length c) ⟨0, o.path, n.data, [], 0, 0, 0, 0, 0, 0, 0⟩ (.slice none 0 0)) := H4.out.keep (grownBy_setCell w4 ⟨rr, 2, none⟩ _) (Nat.le_refl _) (H4.out.cb.set 2 _)
      clear H4
      generalize w4.setCell ⟨rr, 2, none⟩ (.string n.data) = w5 at *
      refine hKQ.out _ _ H5.out.nd.blk (fun _ => ?_)
      clear hKQ KQ
      refine' take_at (i := 12) (d := 50) (v := _) rfl rfl (by kernel_rfl) (by kernel_rfl) (by kernel_rfl) (fun _ _ _ h => h) (Or.inl ⟨by rfl, ?h12⟩) (H5.out.nd.blk) ?_
      case h12 =>
        intro w hSw
        go_simp
        with_reducible rfl
      simp only [List.setIfInBounds_toArray, List.set_cons_zero, List.set_cons_succ]
      refine wpAnyH_ready (rs := [13]) (by kernel_rfl) (by simp) ?_
      refine AllReadyH.cons (o := _) rfl (fun KQ hKQ => ?_) AllReadyH.nil
      refine wp_store_part 35 _ _ rfl rr 4 #[.int .i64 n.made, .int .i64 n.changed, .int .i64 n.ver, .int .i64 n.kids, .int .i64 n.owner, .int .i64 n.len, .int .i64 n.cnt] rfl rfl 44 _ (xc (Tq.told o.path n.data [] n) (.slice none 0 0)) H5.out.cb (by kernel_rfl) (Nat.le_of_ble_eq_true rfl) (by kernel_rfl) rfl ?_
      have H6 : Hid (Ask11 w (w5.setRow rr (xc (Tq.told o.path n.data [] n) (.slice none 0 0)).toArray) b r rr p o n (.slice a n.names.length c) (Tq.told o.path n.data [] n) (.slice none 0 0)) := H5.out.fill _ _
      clear H5
      generalize w5.setRow rr (xc (Tq.told o.path n.data [] n) (.slice none 0 0)).toArray = w6 at *
      go_simp
      refine hKQ.out _ _ H6.out.nd.blk (fun _ => ?_)
      clear hKQ KQ
      refine wpAnyH_done (by kernel_rfl) ?_ _
      go_wp2_with (first
        | (refine wpList_load_row rfl 44 _ rfl rr rfl 44 (xc (Tq.told o.path n.data [] n) (.slice none 0 0)).toArray (0, 0) _ H6.out.cb Tryz.underlying44 rfl (by kernel_rfl) ?_)
        | (refine wpList_store_row rfl 44 _ _ rfl r (xc (Tq.told o.path n.data [] n) (.slice none 0 0)).toArray rfl rfl 44 _ H6.out.fr.res (by kernel_rfl) rfl (by kernel_rfl) ?_))
      have H9 := H6.out.fr.put (Tq.told o.path n.data [] n) (.slice none 0 0)
      refine bodyPost_ret (v := .agg (xc (Tq.told o.path n.data [] n) (.slice none 0 0)).toArray) ?_ rfl ⟨_, by rw [HE.out]; rfl, by rw [HE.out]; exact Sq.nil _, fun k hk => by (cases hk), H9.2⟩
      exact results_cell_row rfl _ _ r 44 _ (0, 0) _ rfl H9.1 Tryz.underlying44 rfl (by kernel_rfl)
    · have HE : Hid (R = Tq.told o.path ⟨#[]⟩ [] n) := by
        have e : R = Tq.told o.path ⟨#[]⟩ [] n := by rw [HR.out]; unfold Tq.askT; rw [HZ.out, if_neg (by simp), if_neg (by omega), if_neg (by omega), if_neg (by omega), if_neg (by omega), if_pos hk]
        exact e
      go_upto_region 16 with (first
        | (refine wpList_load_part rfl 35 _ rfl p 0 rfl 121 _ #[.int .i64 n.made, .int .i64 n.changed, .int .i64 n.ver, .int .i64 n.kids, .int .i64 n.owner, .int .i64 n.len, .int .i64 n.cnt] _ H3.out.nd.blk Tryz.underlying35 rfl (by kernel_rfl) rfl ?_)
        | (refine wpList_store_part rfl 35 _ _ rfl rr 4 #[.int .i64 n.made, .int .i64 n.changed, .int .i64 n.ver, .int .i64 n.kids, .int .i64 n.owner, .int .i64 n.len, .int .i64 n.cnt] rfl rfl 44 _ (xc (Tq.told o.path ⟨#[]⟩ [] n) (.slice none 0 0)) H3.out.cb (by kernel_rfl) (Nat.le_of_ble_eq_true rfl) (by kernel_rfl) rfl ?_))
      have H6 : Hid (Ask11 w (w3.setRow rr (xc (Tq.told o.path ⟨#[]⟩ [] n) (.slice none 0 0)).toArray) b r rr p o n (.slice a n.names.length c) (Tq.told o.path ⟨#[]⟩ [] n) (.slice none 0 0)) := H3.out.fill _ _
      clear H3 o0
      generalize w3.setRow rr (xc (Tq.told o.path ⟨#[]⟩ [] n) (.slice none 0 0)).toArray = w6 at *
      go_wp2_with (first
        | (refine wpList_load_row rfl 44 _ rfl rr rfl 44 (xc (Tq.told o.path ⟨#[]⟩ [] n) (.slice none 0 0)).toArray (0, 0) _ H6.out.cb Tryz.underlying44 rfl (by kernel_rfl) ?_)
        | (refine wpList_store_row rfl 44 _ _ rfl r (xc (Tq.told o.path ⟨#[]⟩ [] n) (.slice none 0 0)).toArray rfl rfl 44 _ H6.out.fr.res (by kernel_rfl) rfl (by kernel_rfl) ?_))
      have H9 := H6.out.fr.put (Tq.told o.path ⟨#[]⟩ [] n) (.slice none 0 0)
      refine bodyPost_ret (v := .agg (xc (Tq.told o.path ⟨#[]⟩ [] n) (.slice none 0 0)).toArray) ?_ rfl ⟨_, by rw [HE.out]; rfl, by rw [HE.out]; exact Sq.nil _, fun k hk => by (cases hk), H9.2⟩
      exact results_cell_row rfl _ _ r 44 _ (0, 0) _ rfl H9.1 Tryz.underlying44 rfl (by kernel_rfl)
    · have HE : Hid (R = Tq.told o.path ⟨#[]⟩ n.names n) := by
        have e : R = Tq.told o.path ⟨#[]⟩ n.names n := by rw [HR.out]; unfold Tq.askT; rw [HZ.out, if_neg (by simp), if_neg (by omega), if_neg (by omega), if_neg (by omega), if_neg (by omega), if_neg (by omega)]
        exact e
      have HCL : Hid (∀ w, Own11 w p n (.slice a n.names.length c) → Calls Tryz.prog 119 #[(.slice a n.names.length c)] w fun e w' => ∃ a c, e = .returned (.slice a n.names.length c) ∧ w'.ownsRow w.heap.size 9 1 (.slice a n.names.length c) n.names.length (sc n.names) ∧ Below w.heap.size w w') := fun w h => clone_any11 _ n.names w (Nm.of_row h.row) (by have := HS.out.1.many; omega)
      go_wp2_with fail
      refine wp_region_held_drew (S := fun w' => Cb w' p (k10 n (.slice a n.names.length c)) 121) (by kernel_rfl) H3.out.nd.blk (fun _ => ?_)
      have H4 : Hid (Ask11 w w3.drew b r rr p o n (.slice a n.names.length c) (Tq.gone o.path) (.slice none 0 0)) := H3.out.later (Below.refl _ _).drew
      clear o0 H3
      generalize w3.drew = w4 at *
      refine' take_at (i := 0) (d := 61) (v := _) rfl rfl (by kernel_rfl) (by kernel_rfl) (by kernel_rfl) (fun _ _ _ h => h) (Or.inl ⟨by rfl, ?h0⟩) (H4.out.nd.blk) ?_
      case h0 =>
        intro w hSw
        obtain ⟨c0, c1, c2, c3, c4, c5, c6, c7, c8, c9⟩ := ten_cells hSw
        go_simp
        with_reducible rfl
      simp only [List.setIfInBounds_toArray, List.set_cons_zero, List.set_cons_succ]
      refine' take_at (i := 1) (d := 62) (v := _) rfl rfl (by kernel_rfl) (by kernel_rfl) (by kernel_rfl) (fun _ _ _ h => h) (Or.inl ⟨by rfl, ?h1⟩) (H4.out.nd.blk) ?_
      case h1 =>
        intro w hSw
        obtain ⟨c0, c1, c2, c3, c4, c5, c6, c7, c8, c9⟩ := ten_cells hSw
        go_simp
        with_reducible rfl
      simp only [List.setIfInBounds_toArray, List.set_cons_zero, List.set_cons_succ]
      refine' take_at (i := 2) (d := 63) (v := _) rfl rfl (by kernel_rfl) (by kernel_rfl) (by kernel_rfl) (fun _ _ _ h => h) (Or.inl ⟨by rfl, ?h2⟩) (H4.out.nd.blk) ?_
      case h2 =>
        intro w hSw
        obtain ⟨c0, c1, c2, c3, c4, c5, c6, c7, c8, c9⟩ := ten_cells hSw
        go_simp
        with_reducible rfl
      simp only [List.setIfInBounds_toArray, List.set_cons_zero, List.set_cons_succ]
      refine' take_at (i := 3) (d := 64) (v := _) rfl rfl (by kernel_rfl) (by kernel_rfl) (by kernel_rfl) (fun _ _ _ h => h) (Or.inl ⟨by rfl, ?h3⟩) (H4.out.nd.blk) ?_
      case h3 =>
        intro w hSw
        obtain ⟨c0, c1, c2, c3, c4, c5, c6, c7, c8, c9⟩ := ten_cells hSw
        go_simp
        with_reducible rfl
      simp only [List.setIfInBounds_toArray, List.set_cons_zero, List.set_cons_succ]
      refine' take_at (i := 4) (d := 65) (v := _) rfl rfl (by kernel_rfl) (by kernel_rfl) (by kernel_rfl) (fun _ _ _ h => h) (Or.inl ⟨by rfl, ?h4⟩) (H4.out.nd.blk) ?_
      case h4 =>
        intro w hSw
        obtain ⟨c0, c1, c2, c3, c4, c5, c6, c7, c8, c9⟩ := ten_cells hSw
        go_simp
        with_reducible rfl
      simp only [List.setIfInBounds_toArray, List.set_cons_zero, List.set_cons_succ]
      refine' take_at (i := 6) (d := 67) (v := _) rfl rfl (by kernel_rfl) (by kernel_rfl) (by kernel_rfl) (fun _ _ _ h => h) (Or.inl ⟨by rfl, ?h6⟩) (H4.out.nd.blk) ?_
      case h6 =>
        intro w hSw
        obtain ⟨c0, c1, c2, c3, c4, c5, c6, c7, c8, c9⟩ := ten_cells hSw
        go_simp
        with_reducible rfl
      simp only [List.setIfInBounds_toArray, List.set_cons_zero, List.set_cons_succ]
      refine' take_at (i := 7) (d := 68) (v := _) rfl rfl (by kernel_rfl) (by kernel_rfl) (by kernel_rfl) (fun _ _ _ h => h) (Or.inl ⟨by rfl, ?h7⟩) (H4.out.nd.blk) ?_
      case h7 =>
        intro w hSw
        obtain ⟨c0, c1, c2, c3, c4, c5, c6, c7, c8, c9⟩ := ten_cells hSw
        go_simp
        with_reducible rfl
      simp only [List.setIfInBounds_toArray, List.set_cons_zero, List.set_cons_succ]
      refine' take_at (i := 8) (d := 69) (v := _) rfl rfl (by kernel_rfl) (by kernel_rfl) (by kernel_rfl) (fun _ _ _ h => h) (Or.inl ⟨by rfl, ?h8⟩) (H4.out.nd.blk) ?_
      case h8 =>
        intro w hSw
        obtain ⟨c0, c1, c2, c3, c4, c5, c6, c7, c8, c9⟩ := ten_cells hSw
        go_simp
        with_reducible rfl
      simp only [List.setIfInBounds_toArray, List.set_cons_zero, List.set_cons_succ]
      refine' take_at (i := 9) (d := 70) (v := _) rfl rfl (by kernel_rfl) (by kernel_rfl) (by kernel_rfl) (fun _ _ _ h => h) (Or.inl ⟨by rfl, ?h9⟩) (H4.out.nd.blk) ?_
      case h9 =>
        intro w hSw
        obtain ⟨c0, c1, c2, c3, c4, c5, c6, c7, c8, c9⟩ := ten_cells hSw
        go_simp
        with_reducible rfl
      simp only [List.setIfInBounds_toArray, List.set_cons_zero, List.set_cons_succ]
      refine' take_at (i := 10) (d := 71) (v := _) rfl rfl (by kernel_rfl) (by kernel_rfl) (by kernel_rfl) (fun _ _ _ h => h) (Or.inl ⟨by rfl, ?h10⟩) (H4.out.nd.blk) ?_
      case h10 =>
        intro w hSw
        obtain ⟨c0, c1, c2, c3, c4, c5, c6, c7, c8, c9⟩ := ten_cells hSw
        go_simp
        with_reducible rfl
      simp only [List.setIfInBounds_toArray, List.set_cons_zero, List.set_cons_succ]
      refine wpAnyH_ready (rs := [5]) (by kernel_rfl) (by simp) ?_
      refine AllReadyH.cons (o := _) rfl (fun KQ hKQ => ?_) AllReadyH.nil
      go_simp
      refine (HCL.out w4 H4.out.nd).mono ?_
      rintro e w5 ⟨a5, c5, rfl, hrow, hb⟩
      have H5 : Hid (Ask11 w w5 b r rr p o n (.slice a n.names.length c) (Tq.gone o.path) (.slice none 0 0) ∧ w5.ownsRow w4.heap.size 9 1 (.slice a5 n.names.length c5) n.names.length (sc n.names) ∧ rr < w4.heap.size) := ⟨H4.out.later hb, hrow, H4.out.cb.lt⟩
      clear hrow hb H4
      simp only []
      refine hKQ.out _ _ H5.out.1.nd.blk (fun _ => ?_)
      clear hKQ KQ
      refine' take_at (i := 11) (d := 72) (v := _) rfl rfl (by kernel_rfl) (by kernel_rfl) (by kernel_rfl) (fun _ _ _ h => h) (Or.inl ⟨by rfl, ?h11⟩) (H5.out.1.nd.blk) ?_
      case h11 =>
        intro w hSw
        go_simp
        with_reducible rfl
      simp only [List.setIfInBounds_toArray, List.set_cons_zero, List.set_cons_succ]
      refine wpAnyH_ready (rs := [12]) (by kernel_rfl) (by simp) ?_
      refine AllReadyH.cons (o := _) rfl (fun KQ hKQ => ?_) AllReadyH.nil
      have r2 : w5.cell? ⟨rr, 3, none⟩ = some (.slice none 0 0) := H5.out.1.cb.cell 3
      have f2 := H5.out.1.cb.free 3
      go_simp
      clear r2 f2
      have H6 : Hid (Ask11 w (w5.setCell ⟨rr, 3, none⟩ (.slice a5 n.names.length c5)) b r rr p o n (.slice a n.names.length c) ⟨0, o.path, ⟨#[]⟩, n.names, 0, 0, 0, 0, 0, 0, 0⟩ (.slice a5 n.names.length c5) ∧ (w5.setCell ⟨rr, 3, none⟩ (.slice a5 n.names.length c5)).ownsRow w4.heap.size 9 1 (.slice a5 n.names.length c5) n.names.length (sc n.names) ∧ rr < w4.heap.size) := ⟨H5.out.1.keep (grownBy_setCell w5 ⟨rr, 3, none⟩ _) (Nat.le_refl _) (H5.out.1.cb.set 3 _), row_stays H5.out.2.1 (fun k hk => (grownBy_setCell w5 ⟨rr, 3, none⟩ _).block k (H5.out.2.1.lt k hk).2 (by have := (H5.out.2.1.lt k hk).1; have := H5.out.2.2; simp; omega)), H5.out.2.2⟩
      clear H5
      generalize w5.setCell ⟨rr, 3, none⟩ (.slice a5 n.names.length c5) = w6 at *
      refine hKQ.out _ _ H6.out.1.nd.blk (fun _ => ?_)
      clear hKQ KQ
      refine' take_at (i := 13) (d := 73) (v := _) rfl rfl (by kernel_rfl) (by kernel_rfl) (by kernel_rfl) (fun _ _ _ h => h) (Or.inl ⟨by rfl, ?h13⟩) (H6.out.1.nd.blk) ?_
      case h13 =>
        intro w hSw
        go_simp
        with_reducible rfl
      simp only [List.setIfInBounds_toArray, List.set_cons_zero, List.set_cons_succ]
      refine wpAnyH_ready (rs := [14]) (by kernel_rfl) (by simp) ?_
      refine AllReadyH.cons (o := _) rfl (fun KQ hKQ => ?_) AllReadyH.nil
      refine wp_store_part 35 _ _ rfl rr 4 #[.int .i64 n.made, .int .i64 n.changed, .int .i64 n.ver, .int .i64 n.kids, .int .i64 n.owner, .int .i64 n.len, .int .i64 n.cnt] rfl rfl 44 _ (xc (Tq.told o.path ⟨#[]⟩ n.names n) (.slice a5 n.names.length c5)) H6.out.1.cb (by kernel_rfl) (Nat.le_of_ble_eq_true rfl) (by kernel_rfl) rfl ?_
      have H7 : Hid (Ask11 w (w6.setRow rr (xc (Tq.told o.path ⟨#[]⟩ n.names n) (.slice a5 n.names.length c5)).toArray) b r rr p o n (.slice a n.names.length c) (Tq.told o.path ⟨#[]⟩ n.names n) (.slice a5 n.names.length c5)) := H6.out.1.fill _ _
      have H7R : Hid ((w6.setRow rr (xc (Tq.told o.path ⟨#[]⟩ n.names n) (.slice a5 n.names.length c5)).toArray).ownsRow w4.heap.size 9 1 (.slice a5 n.names.length c5) n.names.length (sc n.names) ∧ r < w4.heap.size) := ⟨row_stays H6.out.2.1 (fun k hk => (rowed_grown w6 rr _).block k (H6.out.2.1.lt k hk).2 (by have := (H6.out.2.1.lt k hk).1; have := H6.out.2.2; simp; omega)), by have := H6.out.2.2; have := H6.out.1.nr; omega⟩
      clear H6
      generalize w6.setRow rr (xc (Tq.told o.path ⟨#[]⟩ n.names n) (.slice a5 n.names.length c5)).toArray = w7 at *
      go_simp
      refine hKQ.out _ _ H7.out.nd.blk (fun _ => ?_)
      clear hKQ KQ
      refine wpAnyH_done (by kernel_rfl) ?_ _
      go_wp2_with (first
        | (refine wpList_load_row rfl 44 _ rfl rr rfl 44 (xc (Tq.told o.path ⟨#[]⟩ n.names n) (.slice a5 n.names.length c5)).toArray (0, 0) _ H7.out.cb Tryz.underlying44 rfl (by kernel_rfl) ?_)
        | (refine wpList_store_row rfl 44 _ _ rfl r (xc (Tq.told o.path ⟨#[]⟩ n.names n) (.slice a5 n.names.length c5)).toArray rfl rfl 44 _ H7.out.fr.res (by kernel_rfl) rfl (by kernel_rfl) ?_))
      have H9 := H7.out.fr.put (Tq.told o.path ⟨#[]⟩ n.names n) (.slice a5 n.names.length c5)
      have H10 := row_stays H7R.out.1 (fun k hk => (rowed_grown w7 r (xc (Tq.told o.path ⟨#[]⟩ n.names n) (.slice a5 n.names.length c5)).toArray).block k (H7R.out.1.lt k hk).2 (by have := (H7R.out.1.lt k hk).1; have := H7R.out.2; simp; omega))
      refine bodyPost_ret (v := .agg (xc (Tq.told o.path ⟨#[]⟩ n.names n) (.slice a5 n.names.length c5)).toArray) ?_ rfl ⟨_, by rw [HE.out]; rfl, by rw [HE.out]; exact sq_of_row H10, fun k hk => by have := (H10.lt k hk).1; have := H7R.out.2; have := H7.out.fr.ne; have := H7.out.fr.hi; omega, H9.2⟩
      exact results_cell_row rfl _ _ r 44 _ (0, 0) _ rfl H9.1 Tryz.underlying44 rfl (by kernel_rfl)
  · have HE : Hid (R = Tq.fail pe) := by
      have e : R = Tq.fail pe := by rw [HR.out]; unfold Tq.askT; rw [if_pos (by rw [← HP.out]; exact h0), HP.out]
      exact e
    go_wp2_with (refine wpList_store_row rfl 44 _ _ rfl r (xc (Tq.fail pe) (.slice none 0 0)).toArray rfl rfl 44 _ H1.out.1.res (by kernel_rfl) rfl (by kernel_rfl) ?_)
    have H3 := H1.out.1.put (Tq.fail pe) (.slice none 0 0)
    refine bodyPost_ret (v := .agg (xc (Tq.fail pe) (.slice none 0 0)).toArray) ?_ rfl ⟨_, by rw [HE.out]; rfl, by rw [HE.out]; exact Sq.nil _, fun k hk => by (cases hk), H3.2⟩
    exact results_cell_row rfl _ _ r 44 _ (0, 0) _ rfl H3.1 Tryz.underlying44 rfl (by kernel_rfl)
end
end Go.Proofs.YtpidafpaffpnaaaGreatDoor
