/- What multi's inTurn does. -/
import Derived.Test.YtfcbdjjbchcpjaaGreatDoorRes12
import Derived.Test.YtfcbdjjbchcpjaaGreatDoorWFail12
import Derived.Test.YtfcbdjjbchcpjaaGreatDoorWNd11
import Derived.Test.YtfcbdjjbchcpjaaGreatDoorWDo11
import Derived.Deep.DeepCutAuto
namespace Go.Proofs.YtfcbdjjbchcpjaaGreatDoor
open Go.RowKit

theorem It12.made {LT : Rep11} (S : Specs11 LT) (w : World) (q : Nat) (t : Tq.Tr) (F : Nat → Prop) (z : Int) (h : LT w q t F) : It12 LT w ((w.alloc (.cells #[.int .i64 0, .int .i64 0, .int .i64 0, .int .i64 0, .slice none 0 0] 73)).alloc (.cells #[.int .i64 0, .int .i64 z, .int .i64 0, .int .i64 (-1), .slice none 0 0] 73)) q t F F w.heap.size (w.heap.size + 1) z (.slice none 0 0) [] := by
  have h1 := (Below.refl _ w).alloc (Nat.le_refl _) (.cells #[.int .i64 0, .int .i64 0, .int .i64 0, .int .i64 0, .slice none 0 0] 73)
  have h2 := (Below.refl _ (w.alloc (.cells #[.int .i64 0, .int .i64 0, .int .i64 0, .int .i64 0, .slice none 0 0] 73))).alloc (Nat.le_refl _) (.cells #[.int .i64 0, .int .i64 z, .int .i64 0, .int .i64 (-1), .slice none 0 0] 73)
  have hs1 : (w.alloc (.cells #[.int .i64 0, .int .i64 0, .int .i64 0, .int .i64 0, .slice none 0 0] 73)).heap.size = w.heap.size + 1 := World.size_alloc _ _
  have h3 := h1.trans (h2.mono h1.size)
  have hlt : ∀ k, F k → k < w.heap.size := fun k hk => S.lt h hk
  have hc1 : Cb (w.alloc (.cells #[.int .i64 0, .int .i64 0, .int .i64 0, .int .i64 0, .slice none 0 0] 73)) w.heap.size [.int .i64 0, .int .i64 0, .int .i64 0, .int .i64 0, .slice none 0 0] 73 := Cb.made w _ _
  have hc2 : Cb ((w.alloc (.cells #[.int .i64 0, .int .i64 0, .int .i64 0, .int .i64 0, .slice none 0 0] 73)).alloc (.cells #[.int .i64 0, .int .i64 z, .int .i64 0, .int .i64 (-1), .slice none 0 0] 73)) (w.alloc (.cells #[.int .i64 0, .int .i64 0, .int .i64 0, .int .i64 0, .slice none 0 0] 73)).heap.size [.int .i64 0, .int .i64 z, .int .i64 0, .int .i64 (-1), .slice none 0 0] 73 := Cb.made (w.alloc (.cells #[.int .i64 0, .int .i64 0, .int .i64 0, .int .i64 0, .slice none 0 0] 73)) _ _
  rw [hs1] at hc2
  exact ⟨S.keep h (fun k hk => h3.block k (hlt k hk)), Moved.of_below F h3, ⟨hc1.below h2, fun e => by have := hlt _ e; omega⟩, ⟨hc2, fun e => by have := hlt _ e; omega⟩, by omega, Nat.le_refl _, by omega, World.ownsRow_nil _ _ _ _, fun k e => (by cases e), fun p hp => (by cases hp)⟩

set_option maxRecDepth 20000 in
set_option maxHeartbeats 8000000 in
theorem turn_any12 {LT : Rep11} (S : Specs11 LT) (D : SpecD12 LT) (q : Nat) (t : Tq.Tr) (F : Nat → Prop) (s z : Int) (v : Value) (os : List O) (m : Nat) (w : World) (hL : LT w q t F) (hf : Fine11 t) (hk : Tq.Few t m) (hm : m + os.length ≤ 899) (h6 : ∀ k, F k → 6 ≤ k) (hS : Pa.Std w) (hO : Om12 w F v os) (hok : ∀ o ∈ os, OFit o) (hn : os.length ≤ 16) :
    Calls Tryz.prog 80 #[dptr q, .int .i64 s, .int .i64 z, v] w fun e w' => ∃ F' u, e = .returned (.tuple #[rpv (Tq.turn t s z os).1.1 u, .bool (Tq.turn t s z os).1.2]) ∧ Rn12 w.heap.size F' w' u (Tq.turn t s z os).1.1.xs ∧ LT w' q (Tq.turn t s z os).2 F' ∧ Moved w w' F F' := by
  obtain ⟨T, hT⟩ : ∃ T, T = Tq.turn t s z os := ⟨_, rfl⟩
  rw [← hT]
  have HT : Hid (T = Tq.turn t s z os) := hT
  have HS : Hid (Specs11 LT ∧ SpecD12 LT ∧ Fine11 t ∧ Tq.Few t m ∧ m + os.length ≤ 899 ∧ (∀ k, F k → 6 ≤ k) ∧ Pa.Std w ∧ (∀ o ∈ os, OFit o)) := ⟨S, D, hf, hk, hm, h6, hS, hok⟩
  have HVB : Hid (os ≠ [] → ∀ k, v.ownBlock = some k → k < w.heap.size) := fun hne k hk => hO.lt hne hk
  have hOl := hO.ol
  obtain ⟨va, n, vc, rfl, hnn, hjj⟩ := hOl
  have HN : Hid (n = os.length) := hnn
  have hn16 : n ≤ 16 := by omega
  obtain ⟨a, ha⟩ : ∃ a, a = w.heap.size := ⟨_, rfl⟩
  obtain ⟨b, hb⟩ : ∃ b, b = w.heap.size + 1 := ⟨_, rfl⟩
  have H0 : Hid (It12 LT w ((w.alloc (.cells #[.int .i64 0, .int .i64 0, .int .i64 0, .int .i64 0, .slice none 0 0] 73)).alloc (.cells #[.int .i64 0, .int .i64 z, .int .i64 0, .int .i64 (-1), .slice none 0 0] 73)) q t F F a b z (.slice none 0 0) [] ∧ Om12 ((w.alloc (.cells #[.int .i64 0, .int .i64 0, .int .i64 0, .int .i64 0, .slice none 0 0] 73)).alloc (.cells #[.int .i64 0, .int .i64 z, .int .i64 0, .int .i64 (-1), .slice none 0 0] 73)) F (.slice va n vc) os) := by
    have hI := It12.made S w q t F z hL
    rw [ha, hb]
    exact ⟨hI, hO.moved hI.mv⟩
  clear S D hf hk hm h6 hS hok hjj hnn hO hL hT hn
  unfold dptr
  go_enter Tryz.func80, Tryz.ntmps80
  go_upto_region 2 with fail
  rw [← hb, ← ha]
  clear ha hb
  generalize ((w.alloc (.cells #[.int .i64 0, .int .i64 0, .int .i64 0, .int .i64 0, .slice none 0 0] 73)).alloc (.cells #[.int .i64 0, .int .i64 z, .int .i64 0, .int .i64 (-1), .slice none 0 0] 73)) = w0 at *
  go_wp2
  go_loopw [18] (fun i wr => ∃ (k : Nat) (F' : Nat → Prop) (v : Value) (ps : List (X × Value)), k ≤ n ∧ i = .int .i64 (k : Int) ∧ It12 LT w wr q (Tq.after t s z (os.take k)) F F' a b z v ps ∧ ps.map (·.1) = Tq.says t s z (os.take k) ∧ Tq.bad t s z (os.take k) = none ∧ Om12 wr F' (.slice va n vc) os) (fun i _ => n - (intOf i).toNat)
  case atStart => exact ⟨0, F, _, [], Nat.zero_le _, rfl, H0.out.1, rfl, rfl, H0.out.2⟩
  case round =>
    obtain ⟨k, F1, v, ps, hk, rfl, hI, hps, hbad, hO⟩ := hrel
    have H1 : Hid (It12 LT w wr q (Tq.after t s z (os.take k)) F F1 a b z v ps ∧ ps.map (·.1) = Tq.says t s z (os.take k) ∧ Tq.bad t s z (os.take k) = none ∧ Om12 wr F1 (.slice va n vc) os ∧ Fine11 (Tq.after t s z (os.take k))) := ⟨hI, hps, hbad, hO, Tq.fine_after HS.out.2.2.1 HS.out.2.2.2.1 (by have := HS.out.2.2.2.2.1; rw [List.length_take]; omega)⟩
    clear hI hps hbad hO H0
    by_cases hlt : k < n
    · have hlt' : (k : Int) < (n : Int) := by omega
      have hk0 : (0 : Int) ≤ (k : Int) := by omega
      have hwk : IntKind.wrap .i64 ((k : Int) + 1) = (k : Int) + 1 := by rw [IntKind.wrap_i64]; omega
      have hkl : k < os.length := by rw [← HN.out]; exact hlt
      obtain ⟨g, bb, c', hv', hcs⟩ := H1.out.2.2.2.1.ol.at (by omega)
      simp only [Value.slice.injEq] at hv'
      obtain ⟨rfl, hq, rfl⟩ := hv'
      obtain ⟨c0, c1, c2, c3, c4⟩ := hcs k os[k] (List.getElem?_eq_getElem hkl)
      have HK : Hid (os[k]? = some os[k]) := List.getElem?_eq_getElem hkl
      generalize os[k] = o at *
      have HO : Hid (OFit o) := HS.out.2.2.2.2.2.2.2 o (List.mem_of_getElem? HK.out)
      clear hcs hq hkl
      obtain ⟨t1, ht1⟩ : ∃ t1, t1 = Tq.after t s z (os.take k) := ⟨_, rfl⟩
      rw [← ht1] at H1
      have HT1 : Hid (t1 = Tq.after t s z (os.take k)) := ht1
      clear ht1
      obtain ⟨ob, hob⟩ : ∃ z, z = wr.heap.size := ⟨_, rfl⟩
      have HBO : Hid (Below wr.heap.size wr (wr.alloc (.cells #[.int .i64 o.kind, .string o.path, .string o.data, .int .i64 o.ver, .int .i64 o.flags] 34))) := (Below.refl _ wr).alloc (Nat.le_refl _) _
      have H2 : Hid (It12 LT w (wr.alloc (.cells #[.int .i64 o.kind, .string o.path, .string o.data, .int .i64 o.ver, .int .i64 o.flags] 34)) q t1 F F1 a b z v ps ∧ Cb (wr.alloc (.cells #[.int .i64 o.kind, .string o.path, .string o.data, .int .i64 o.ver, .int .i64 o.flags] 34)) ob (oc o) 34 ∧ Om12 (wr.alloc (.cells #[.int .i64 o.kind, .string o.path, .string o.data, .int .i64 o.ver, .int .i64 o.flags] 34)) F1 (.slice (some ⟨g, bb, none⟩) n vc) os) := ⟨H1.out.1.later HS.out.1 HBO.out, by rw [hob]; exact Cb.made wr (oc o) _, H1.out.2.2.2.1.later HBO.out⟩
      go_upto_region 5 with fail
      rw [← hob]
      clear hob HBO c0 c1 c2 c3 c4
      generalize wr.alloc (.cells #[.int .i64 o.kind, .string o.path, .string o.data, .int .i64 o.ver, .int .i64 o.flags] 34) = w2 at *
      have c0 : w2.cell? ⟨ob, 0, none⟩ = some (.int .i64 o.kind) := H2.out.2.1.cell 0
      have c1 : w2.cell? ⟨ob, 1, none⟩ = some (.string o.path) := H2.out.2.1.cell 1
      have c2 : w2.cell? ⟨ob, 2, none⟩ = some (.string o.data) := H2.out.2.1.cell 2
      have c3 : w2.cell? ⟨ob, 3, none⟩ = some (.int .i64 o.ver) := H2.out.2.1.cell 3
      have c4 : w2.cell? ⟨ob, 4, none⟩ = some (.int .i64 o.flags) := H2.out.2.1.cell 4
      go_wp2_with fail
      clear c0 c1 c2 c3 c4
      refine (HS.out.2.1.doo q t1 F1 o s z w2 H2.out.1.ld H1.out.2.2.2.2 (fun k hk => (H2.out.1.mv.sub k hk).elim (HS.out.2.2.2.2.2.1 k) (fun h => Nat.le_trans HS.out.2.2.2.2.2.2.1.size h)) (HS.out.2.2.2.2.2.2.1.moved H2.out.1.mv HS.out.2.2.2.2.2.1) HO.out).mono ?_
      rintro e w3 ⟨F3, nv, rfl, hsq, hof, hnw, hl3, hmv⟩
      obtain ⟨x, t3, hxt⟩ : ∃ x t3, Tq.doo t1 o s z = (x, t3) := ⟨_, _, rfl⟩
      rw [hxt] at hsq hof hl3 ⊢
      simp only [] at hsq hof hl3 ⊢
      have hsq2 := hsq
      obtain ⟨na, nk, nc, rfl, hj1, hj2⟩ := hsq
      have HX : Hid (Tq.doo t1 o s z = (x, t3)) := hxt
      obtain ⟨xb, hxb⟩ : ∃ z, z = w3.heap.size := ⟨_, rfl⟩
      have H3 : Hid (It12 LT w (w3.alloc (.cells #[.int .i64 x.err, .string x.path, .string x.data, .slice na nk nc, .int .i64 x.made, .int .i64 x.changed, .int .i64 x.ver, .int .i64 x.kids, .int .i64 x.owner, .int .i64 x.len, .int .i64 x.cnt] 31)) q t3 F F3 a b z v ps ∧ Cb (w3.alloc (.cells #[.int .i64 x.err, .string x.path, .string x.data, .slice na nk nc, .int .i64 x.made, .int .i64 x.changed, .int .i64 x.ver, .int .i64 x.kids, .int .i64 x.owner, .int .i64 x.len, .int .i64 x.cnt] 31)) xb (xc x (.slice na nk nc)) 31 ∧ Om12 (w3.alloc (.cells #[.int .i64 x.err, .string x.path, .string x.data, .slice na nk nc, .int .i64 x.made, .int .i64 x.changed, .int .i64 x.ver, .int .i64 x.kids, .int .i64 x.owner, .int .i64 x.len, .int .i64 x.cnt] 31)) F3 (.slice (some ⟨g, bb, none⟩) n vc) os ∧ Sq (w3.alloc (.cells #[.int .i64 x.err, .string x.path, .string x.data, .slice na nk nc, .int .i64 x.made, .int .i64 x.changed, .int .i64 x.ver, .int .i64 x.kids, .int .i64 x.owner, .int .i64 x.len, .int .i64 x.cnt] 31)) (.slice na nk nc) x.names ∧ (x.names ≠ [] → ∀ k, (Value.slice na nk nc).ownBlock = some k → w.heap.size ≤ k ∧ ¬ F3 k ∧ k ≠ a ∧ k ≠ b ∧ v.ownBlock ≠ some k)) := by
        have hba := (Below.refl _ w3).alloc (Nat.le_refl _) (.cells #[.int .i64 x.err, .string x.path, .string x.data, .slice na nk nc, .int .i64 x.made, .int .i64 x.changed, .int .i64 x.ver, .int .i64 x.kids, .int .i64 x.owner, .int .i64 x.len, .int .i64 x.cnt] 31)
        have hI := H2.out.1.moved hl3 hmv
        refine ⟨hI.later HS.out.1 hba, by rw [hxb]; exact Cb.made w3 (xc x (.slice na nk nc)) _, (H2.out.2.2.moved hmv).later hba, hsq2.below hba, fun hne k e => ?_⟩
        have h1 := hnw k e
        have h2 := H2.out.1.ans.cb.lt
        have h3 := H2.out.1.told.cb.lt
        have h4 := H2.out.1.mv.size
        exact ⟨by omega, hof hne k e, by omega, by omega, fun e2 => by have := (H2.out.1.row.lt k e2).2; omega⟩
      clear hsq2 hof hnw hl3 hmv hj1 hj2 hxt H2
      unfold rv
      go_upto_region 6 with fail
      rw [← hxb]
      clear hxb
      generalize (w3.alloc (.cells #[.int .i64 x.err, .string x.path, .string x.data, .slice na nk nc, .int .i64 x.made, .int .i64 x.changed, .int .i64 x.ver, .int .i64 x.kids, .int .i64 x.owner, .int .i64 x.len, .int .i64 x.cnt] 31)) = w4 at *
      have e0 : w4.cell? ⟨xb, 0, none⟩ = some (.int .i64 x.err) := H3.out.2.1.cell 0
      by_cases hz : x.err = 0
      · have hzb : (x.err != 0) = false := by simp [hz]
        have HZ : Hid (x.err = 0) := hz
        clear hz
        go_upto_region 8 with fail
        clear e0 hzb
        have d4 : w4.cell? ⟨b, 4, none⟩ = some v := (H3.out.1.told.cb.cell 4).trans rfl
        obtain ⟨sb, hsb⟩ : ∃ z, z = w4.heap.size := ⟨_, rfl⟩
        obtain ⟨ra, rc, ev, hj3, hj4⟩ := row_form H3.out.1.row
        obtain ⟨E, hE⟩ : ∃ E, E = ps.length := ⟨_, rfl⟩
        rw [← hE] at ev
        have HE : Hid (E = ps.length) := hE
        subst ev
        have H5 : Hid (It12 LT w (w4.alloc (.cells #[.int .i64 x.err, .string x.path, .string x.data, .slice na nk nc, .int .i64 x.made, .int .i64 x.changed, .int .i64 x.ver, .int .i64 x.kids, .int .i64 x.owner, .int .i64 x.len, .int .i64 x.cnt] 31)) q t3 F F3 a b z (.slice ra E rc) ps ∧ Cb (w4.alloc (.cells #[.int .i64 x.err, .string x.path, .string x.data, .slice na nk nc, .int .i64 x.made, .int .i64 x.changed, .int .i64 x.ver, .int .i64 x.kids, .int .i64 x.owner, .int .i64 x.len, .int .i64 x.cnt] 31)) sb (xc x (.slice na nk nc)) 31 ∧ Om12 (w4.alloc (.cells #[.int .i64 x.err, .string x.path, .string x.data, .slice na nk nc, .int .i64 x.made, .int .i64 x.changed, .int .i64 x.ver, .int .i64 x.kids, .int .i64 x.owner, .int .i64 x.len, .int .i64 x.cnt] 31)) F3 (.slice (some ⟨g, bb, none⟩) n vc) os ∧ Sq (w4.alloc (.cells #[.int .i64 x.err, .string x.path, .string x.data, .slice na nk nc, .int .i64 x.made, .int .i64 x.changed, .int .i64 x.ver, .int .i64 x.kids, .int .i64 x.owner, .int .i64 x.len, .int .i64 x.cnt] 31)) (.slice na nk nc) x.names ∧ (x.names ≠ [] → ∀ k, (Value.slice na nk nc).ownBlock = some k → w.heap.size ≤ k ∧ ¬ F3 k ∧ k ≠ a ∧ k ≠ b ∧ (Value.slice ra E rc).ownBlock ≠ some k)) := by
          have hba := (Below.refl _ w4).alloc (Nat.le_refl _) (.cells #[.int .i64 x.err, .string x.path, .string x.data, .slice na nk nc, .int .i64 x.made, .int .i64 x.changed, .int .i64 x.ver, .int .i64 x.kids, .int .i64 x.owner, .int .i64 x.len, .int .i64 x.cnt] 31)
          exact ⟨H3.out.1.later HS.out.1 hba, by rw [hsb]; exact Cb.made w4 (xc x (.slice na nk nc)) _, H3.out.2.2.1.later hba, H3.out.2.2.2.1.below hba, H3.out.2.2.2.2⟩
        have HPL : Hid (ps.length = k) := by
          have e := congrArg List.length H1.out.2.1
          rw [List.length_map, Tq.says_len, List.length_take] at e
          have h2 := HN.out
          have e2 : ps.length = k := by omega
          exact e2
        clear hj3 hj4 hE
        go_wp2_with (first
          | (refine wpList_load_row rfl 31 _ rfl xb rfl 31 #[.int .i64 x.err, .string x.path, .string x.data, .slice na nk nc, .int .i64 x.made, .int .i64 x.changed, .int .i64 x.ver, .int .i64 x.kids, .int .i64 x.owner, .int .i64 x.len, .int .i64 x.cnt] (0, 0) _ H3.out.2.1 Tryz.underlying31 rfl (by kernel_rfl) ?_)
          | (at_builtin; rw [← hsb]; refine wpList_res12 rfl _ _ rfl w.heap.size (.slice ra E rc) ps (x, .slice na nk nc) sb (w4.alloc (.cells #[.int .i64 x.err, .string x.path, .string x.data, .slice na nk nc, .int .i64 x.made, .int .i64 x.changed, .int .i64 x.ver, .int .i64 x.kids, .int .i64 x.owner, .int .i64 x.len, .int .i64 x.cnt] 31)) rfl rfl H5.out.1.row H5.out.1.mv.size H5.out.2.1 (by have := HPL.out; omega) rfl ?_))
        clear hsb d4
        have HW5 : Hid ((w4.alloc (.cells #[.int .i64 x.err, .string x.path, .string x.data, .slice na nk nc, .int .i64 x.made, .int .i64 x.changed, .int .i64 x.ver, .int .i64 x.kids, .int .i64 x.owner, .int .i64 x.len, .int .i64 x.cnt] 31)).heap.size = w4.heap.size + 1) := World.size_alloc _ _
        generalize (w4.alloc (.cells #[.int .i64 x.err, .string x.path, .string x.data, .slice na nk nc, .int .i64 x.made, .int .i64 x.changed, .int .i64 x.ver, .int .i64 x.kids, .int .i64 x.owner, .int .i64 x.len, .int .i64 x.cnt] 31)) = w5 at *
        intro v6 w6 hr6 hg6 hv6
        rw [← HW5.out] at hv6
        have H6 : Hid (It12 LT w (w6.setCell ⟨b, 4, none⟩ v6) q t3 F F3 a b z v6 (ps ++ [(x, .slice na nk nc)]) ∧ Om12 (w6.setCell ⟨b, 4, none⟩ v6) F3 (.slice (some ⟨g, bb, none⟩) n vc) os ∧ Cb w6 b [.int .i64 0, .int .i64 z, .int .i64 0, .int .i64 (-1), .slice ra E rc] 73) := by
          have hbv := H5.out.1.told.cb.apart H5.out.1.row (by decide)
          have hg2 := grownBy_setCell w6 ⟨b, 4, none⟩ v6
          refine ⟨H5.out.1.push HS.out.1 hg6 (by rw [List.length_append]; exact hr6) hv6 ⟨⟨_, _, _, rfl⟩, H5.out.2.2.2.1, H5.out.2.2.2.2⟩, H5.out.2.2.1.keep (fun k hk hl => ?_) H5.out.2.2.1.off, H5.out.1.told.cb.keep (hg6.block b H5.out.1.told.cb.lt (fun e => hbv e.symm))⟩
          have h1 := HVB.out (fun e => by have h := HK.out; rw [e] at h; simp at h) k hk
          have h2 := H5.out.1.hb
          exact (hg2.block k (Nat.lt_of_lt_of_le hl hg6.size) (fun e => by simp at e; omega)).trans (hg6.block k hl (fun e => by have := (H5.out.1.row.lt k e.symm).1; omega))
        obtain ⟨ra6, rc6, ev6, hj5, hj6⟩ := row_form hr6
        obtain ⟨E6, hE6⟩ : ∃ z, z = ps.length + 1 := ⟨_, rfl⟩
        rw [← hE6] at ev6
        subst ev6
        clear hr6 hg6 hv6 hj5 hj6 hE6 H5
        have d4 : w6.cell? ⟨b, 4, none⟩ = some (.slice ra E rc) := (H6.out.2.2.cell 4).trans rfl
        have f4 := H6.out.2.2.free 4
        have HST : Hid (Tq.after t s z (os.take (k + 1)) = t3 ∧ Tq.says t s z (os.take (k + 1)) = Tq.says t s z (os.take k) ++ [x] ∧ Tq.bad t s z (os.take (k + 1)) = none) := by
          have e : os.take (k + 1) = os.take k ++ [o] := by rw [List.take_add_one, HK.out]; rfl
          have e2 := HX.out
          rw [HT1.out] at e2
          rw [e, Tq.after_snoc, Tq.says_snoc, e2]
          exact ⟨rfl, rfl, Tq.bad_none H1.out.2.2.1 (by rw [e2]; exact HZ.out)⟩
        go_wp2
        clear d4 f4
        generalize w6.setCell ⟨b, 4, none⟩ (.slice ra6 E6 rc6) = w7 at *
        go_roundw
        case rel => exact ⟨k + 1, F3, _, _, by omega, by go_num, by rw [HST.out.1]; exact H6.out.1, by rw [HST.out.2.1, List.map_append, H1.out.2.1]; rfl, HST.out.2.2, H6.out.2.1⟩
        case measure => simp [intOf]; omega
      · have hzb : (x.err != 0) = true := by simp [hz]
        have HTS : Hid (T = ((Rq.fail 0 x.err (k : Int) (n : Int), false), t1) ∧ t3 = t1) := by
          have e : os = os.take k ++ o :: os.drop (k + 1) := by
            have h := List.take_append_drop k os
            rw [List.drop_eq_getElem?_toList_append, HK.out] at h
            exact h.symm
          have e2 := HX.out
          rw [HT1.out] at e2
          have e3 : (os.take k).length = k := by rw [List.length_take, ← HN.out]; omega
          have hb := Tq.bad_some (o := o) H1.out.2.2.1 (by rw [e2]; exact hz) (os.drop (k + 1))
          rw [← e, e2, e3] at hb
          refine ⟨?_, ?_⟩
          · rw [HT.out, Tq.turn_some hb, HT1.out, HN.out]
          · rcases Tq.doo_ok HX.out with h | h
            · exact h.2
            · exact absurd h.1 hz
        clear hz
        go_wp2_with fail
        clear e0 hzb
        refine (fail_any12 0 x.err (k : Int) (n : Int) w4 (by omega) (by omega)).mono ?_
        rintro e w5 ⟨u, rfl, ⟨hrl, hnw⟩, hb5⟩
        have hrl2 := hrl
        obtain ⟨ua, uk, uc, rfl, hj1, hj2⟩ := hrl
        have H5 : Hid (It12 LT w w5 q t3 F F3 a b z v ps ∧ Rn12 w.heap.size F3 w5 (.slice ua uk uc) (Rq.fail 0 x.err (k : Int) (n : Int)).xs ∧ ∀ k, (Value.slice ua uk uc).ownBlock = some k → k ≠ a) := by
          have h1 := H3.out.1.ans.cb.lt
          have h2 := H3.out.1.mv.size
          refine ⟨H3.out.1.later HS.out.1 hb5, (Rn12.bare hrl2 hnw (fail_bare _ _ _ _) (fun k hk => HS.out.1.lt H3.out.1.ld hk)).low h2, fun k hk => by have := hnw k hk; omega⟩
        clear hrl2 hnw hb5 hj1 hj2
        unfold rpv Rq.fail
        simp only []
        go_wp2_with (refine wpList_store_row rfl 73 _ _ rfl a ([.int .i64 0, .int .i64 0, .int .i64 x.err, .int .i64 (k : Int), .slice ua uk uc] : List Value).toArray rfl rfl 73 _ H5.out.1.ans.cb (by kernel_rfl) rfl (by kernel_rfl) ?_)
        have H9 := H5.out.1.fin HS.out.1 ([.int .i64 0, .int .i64 0, .int .i64 x.err, .int .i64 (k : Int), .slice ua uk uc] : List Value).toArray
        have hR9 : Rn12 w.heap.size F3 (w5.setRow a ([.int .i64 0, .int .i64 0, .int .i64 x.err, .int .i64 (k : Int), .slice ua uk uc] : List Value).toArray) (.slice ua uk uc) (Rq.fail 0 x.err (k : Int) (n : Int)).xs := by
          obtain ⟨av, kk, c, hv, hj, hc, hn, hs⟩ := H5.out.2.1
          refine ⟨av, kk, c, hv, hj, hc, hn, fun j y hy => ?_⟩
          obtain ⟨g', b', nv', h1, h2, h3, h4, h5⟩ := hs j y hy
          have hga : g' ≠ a := H5.out.2.2 g' (by rw [hv, h1]; rfl)
          exact ⟨g', b', nv', h1, h2, sq_keep12 h3 (fun hne => absurd (fail_bare _ _ _ _ y (List.mem_of_getElem? hy)) hne), h4, fun i u hu => (World.cell?_of_block (setRow_other w5 a g' _ hga)).trans (h5 i u hu)⟩
        refine bodyPost_ret (v := .tuple #[.agg ([.int .i64 0, .int .i64 0, .int .i64 x.err, .int .i64 (k : Int), .slice ua uk uc] : List Value).toArray, .bool false]) ?_ rfl ⟨F3, .slice ua uk uc, by rw [HTS.out.1]; rfl, by rw [HTS.out.1]; exact hR9, by rw [HTS.out.1]; exact HTS.out.2 ▸ H9.2.1, H9.2.2⟩
        exact (results_cell_tmp11 (p := 8) (s := 9) rfl _ _ a 73 _ (0, 0) _ rfl (H5.out.1.ans.cb.rowed [.int .i64 0, .int .i64 0, .int .i64 x.err, .int .i64 (k : Int), .slice ua uk uc]) Tryz.underlying73 rfl (by kernel_rfl)).trans rfl
    · have hlt' : ¬ (k : Int) < (n : Int) := by omega
      have HTN : Hid (T = ((⟨0, z, 0, -1, ps.map (·.1)⟩, true), Tq.after t s z (os.take k))) := by
        have e : os.take k = os := List.take_of_length_le (by rw [← HN.out]; omega)
        have h := H1.out
        rw [e] at h
        have e2 : T = ((⟨0, z, 0, -1, ps.map (·.1)⟩, true), Tq.after t s z (os.take k)) := by rw [HT.out, Tq.turn_none h.2.2.1, e, h.2.1]
        exact e2
      obtain ⟨ra, rc, ev, hj3, hj4⟩ := row_form H1.out.1.row
      obtain ⟨E, hE⟩ : ∃ E, E = ps.length := ⟨_, rfl⟩
      rw [← hE] at ev
      subst ev
      clear hj3 hj4 hE
      go_wp2_with (first
        | (refine wpList_load_row rfl 73 _ rfl b rfl 73 ([.int .i64 0, .int .i64 z, .int .i64 0, .int .i64 (-1), .slice ra E rc] : List Value).toArray (0, 0) _ H1.out.1.told.cb Tryz.underlying73 rfl (by kernel_rfl) ?_)
        | (refine wpList_store_row rfl 73 _ _ rfl a ([.int .i64 0, .int .i64 z, .int .i64 0, .int .i64 (-1), .slice ra E rc] : List Value).toArray rfl rfl 73 _ H1.out.1.ans.cb (by kernel_rfl) rfl (by kernel_rfl) ?_))
      have H9 := H1.out.1.fin HS.out.1 ([.int .i64 0, .int .i64 z, .int .i64 0, .int .i64 (-1), .slice ra E rc] : List Value).toArray
      refine bodyPost_ret (v := .tuple #[.agg ([.int .i64 0, .int .i64 z, .int .i64 0, .int .i64 (-1), .slice ra E rc] : List Value).toArray, .bool true]) ?_ rfl ⟨F1, .slice ra E rc, by rw [HTN.out]; rfl, by rw [HTN.out]; exact H9.1, by rw [HTN.out]; exact H9.2.1, H9.2.2⟩
      exact (results_cell_tmp11 (p := 8) (s := 9) rfl _ _ a 73 _ (0, 0) _ rfl (H1.out.1.ans.cb.rowed [.int .i64 0, .int .i64 z, .int .i64 0, .int .i64 (-1), .slice ra E rc]) Tryz.underlying73 rfl (by kernel_rfl)).trans rfl
end Go.Proofs.YtfcbdjjbchcpjaaGreatDoor
