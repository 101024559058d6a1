/- PlanKnown's walk. -/
import Derived.Test.YtjimemnkmpapgaaGreatDoorLt19
namespace Go.Proofs.YtjimemnkmpapgaaGreatDoor
open Go.RowKit

def oc19 : O := ⟨1, ⟨#[47, 98, 47, 120]⟩, ⟨#[]⟩, 0, 0⟩
theorem fitK19 : ∀ o ∈ [ob19, oa19, oc19], Fit o := fun o ho => by
  simp only [List.mem_cons, List.not_mem_nil, or_false] at ho
  rcases ho with rfl | rfl | rfl <;> exact ⟨by decide, by decide, by decide, by decide, by decide⟩
def knw19 : Pn.St := ⟨1, 1, [ob19, oa19, oc19], [0, 1], [[1], [0, 2]]⟩
theorem knw_of19 : Pn.of (Pn.tab 2 [0, 1]) 1 1 [ob19, oa19, oc19] = knw19 := by kernel_rfl
theorem knw_may19 : Oq.may 1 1 [ob19, oa19, oc19] = 0 := by kernel_rfl
theorem knw_non19 : Oq.may 1 1 [] = 1 := by kernel_rfl
theorem knw_ok19 : Pn.Ok knw19 := ⟨rfl, by decide, by decide, by decide, by decide, by decide, by decide⟩
def xt19 (c : UInt8) : X := { Pn.x0 with path := ⟨#[c]⟩ }
theorem knw_res19 : Pn.results knw19 [[xt19 120], [xt19 121, xt19 122]] = some [xt19 121, xt19 120, xt19 122] := by kernel_rfl
theorem knw_nor19 : Pn.results knw19 [[], []] = none := by kernel_rfl
theorem KX.cb {w : World} {sb : Nat} {zs : List X} {t : TypeId} (h : Cb w sb (KX.cs zs) t) : KX.At w (.slice (some ⟨sb, 0, none⟩) zs.length zs.length) zs := by
  refine ⟨_, _, _, rfl, rfl, fun e => (by cases e), fun j z hz => ⟨sb, 0, rfl, fun i u hu => ?_⟩⟩
  rw [Nat.zero_add, h.cell]
  exact KX.ok.cs_cell zs j z i u hz hu
theorem KR.cb {w : World} {sb : Nat} {zs : List Value} {t : TypeId} (h : Cb w sb (KR.cs zs) t) : KR.At w (.slice (some ⟨sb, 0, none⟩) zs.length zs.length) zs := by
  refine ⟨_, _, _, rfl, rfl, fun e => (by cases e), fun j z hz => ⟨sb, 0, rfl, fun i u hu => ?_⟩⟩
  rw [Nat.zero_add, h.cell]
  exact KR.ok.cs_cell zs j z i u hz hu
theorem Rss.nils19 {w : World} {sb : Nat} {t : TypeId} (h : Cb w sb [.slice none 0 0, .slice none 0 0] t) : Rss w (.slice (some ⟨sb, 0, none⟩) 2 2) [[], []] := by
  refine ⟨[.slice none 0 0, .slice none 0 0], KR.cb (zs := [.slice none 0 0, .slice none 0 0]) h, rfl, fun j x l hx hl => ?_⟩
  match j, hx, hl with
  | 0, hx, hl =>
    obtain rfl := Option.some.inj hx
    obtain rfl := Option.some.inj hl
    exact Kd.At.nil w
  | 1, hx, hl =>
    obtain rfl := Option.some.inj hx
    obtain rfl := Option.some.inj hl
    exact Kd.At.nil w
  | (j + 2), hx, hl => simp at hl
theorem Rss.two19 {w : World} {sb : Nat} {t : TypeId} {u v : Value} {xs ys : List X} (h : Cb w sb [u, v] t) (hu : KX.At w u xs) (hv : KX.At w v ys) : Rss w (.slice (some ⟨sb, 0, none⟩) 2 2) [xs, ys] := by
  refine ⟨[u, v], KR.cb (zs := [u, v]) h, rfl, fun j x l hx hl => ?_⟩
  match j, hx, hl with
  | 0, hx, hl =>
    obtain rfl := Option.some.inj hx
    obtain rfl := Option.some.inj hl
    exact hu
  | 1, hx, hl =>
    obtain rfl := Option.some.inj hx
    obtain rfl := Option.some.inj hl
    exact hv
  | (j + 2), hx, hl => simp at hl
theorem knw_ver19_0 : Pn.verdict knw19 [⟨0, 0⟩] = (1, -1) := by kernel_rfl
theorem knw_ver19_1 : Pn.verdict knw19 [⟨0, -1⟩, ⟨0, -1⟩] = (0, -1) := by kernel_rfl
theorem knw_ver19_2 : Pn.verdict knw19 [⟨4, 0⟩, ⟨12, 1⟩] = (12, 2) := by kernel_rfl
theorem knw_ver19_3 : Pn.verdict knw19 [⟨4, 0⟩, ⟨5, 0⟩] = (5, 0) := by kernel_rfl
theorem knw_ver19_4 : Pn.verdict knw19 [⟨4, 0⟩, ⟨11, -1⟩] = (11, -1) := by kernel_rfl
set_option maxRecDepth 100000 in
set_option maxHeartbeats 16000000 in
theorem known_any19 (W : World) (hS : Pa.Std W) : Calls Tryz.prog 3 #[] W fun e w' => e = .returned (.bool true) ∧ Below W.heap.size W w' := by
  have HS : Hid (Pa.Std W) := hS
  clear hS
  go_enter Tryz.func3, Tryz.ntmps3
  go_wp2_with fail
  refine (awake_any19 W HS.out).mono ?_
  rintro e wa ⟨rfl, hb⟩
  have HWA : Hid (Below W.heap.size W wa) := hb
  clear hb
  obtain ⟨lb, hlb⟩ : ∃ z, z = wa.heap.size := ⟨_, rfl⟩
  have H0 : Hid (Below W.heap.size W (wa.alloc (.cells #[.int .i64 0, .int .i64 1] 3)) ∧ KI.At (wa.alloc (.cells #[.int .i64 0, .int .i64 1] 3)) (.slice (some ⟨lb, 0, none⟩) 2 2) [0, 1]) := by
    have hb := (Below.refl _ wa).alloc (Nat.le_refl _) (.cells #[.int .i64 0, .int .i64 1] 3)
    rw [hlb]
    exact ⟨HWA.out.trans (hb.mono HWA.out.size), KI.cb (zs := [0, 1]) (Cb.made wa (KI.cs [0, 1]) _)⟩
  go_wp2_with fail
  rw [← hlb]
  clear hlb
  generalize (wa.alloc (.cells #[.int .i64 0, .int .i64 1] 3)) = w0 at *
  refine (table_any19 2 _ [0, 1] w0 (HS.out.below H0.out.1) (KI.bi H0.out.2) (by decide) (by decide) (by decide)).mono ?_
  rintro e w1 ⟨q, r, F, G, rfl, hB⟩
  have B1 : Hid (Below W.heap.size W w1 ∧ Mine16 LTb w0 w1 q 11 (Pn.tab 2 [0, 1]) F) := ⟨H0.out.1.trans (hB.one.below.mono H0.out.1.size), hB.one⟩
  clear hB H0
  unfold dptr
  go_wp2_with fail
  refine (make_any19 q (Pn.tab 2 [0, 1]) F 11 1 1 (.slice none 0 0) [] w1 B1.out.2.ld B1.out.2.fine (HS.out.below B1.out.1) ⟨none, 0, 0, rfl, rfl, Nat.le_refl _, fun _ => rfl, fun j o h => by simp at h⟩ (by decide) (fun o ho => by cases ho)).mono ?_
  rintro e w2 ⟨hb, hno, _⟩
  rw [knw_non19] at hno
  rw [hno (by decide)]
  have B2 : Hid (Below W.heap.size W w2 ∧ Mine16 LTb w0 w2 q 11 (Pn.tab 2 [0, 1]) F) := ⟨B1.out.1.trans (hb.mono B1.out.1.size), B1.out.2.later specs_any19 hb⟩
  clear hno hb B1
  unfold pv nilv
  have B3 : Hid (Below W.heap.size W (w2.alloc (.cells #[.int .i64 Pn.zero.s, .int .i64 Pn.zero.n, .slice none 0 0, .slice none 0 0, .slice none 0 0] 33)) ∧ Mine16 LTb w0 (w2.alloc (.cells #[.int .i64 Pn.zero.s, .int .i64 Pn.zero.n, .slice none 0 0, .slice none 0 0, .slice none 0 0] 33)) q 11 (Pn.tab 2 [0, 1]) F) := by
    have hb := (Below.refl _ w2).alloc (Nat.le_refl _) (.cells #[.int .i64 Pn.zero.s, .int .i64 Pn.zero.n, .slice none 0 0, .slice none 0 0, .slice none 0 0] 33)
    exact ⟨B2.out.1.trans (hb.mono B2.out.1.size), B2.out.2.later specs_any19 hb⟩
  clear B2
  go_upto_region 5 with fail
  generalize (w2.alloc (.cells #[.int .i64 Pn.zero.s, .int .i64 Pn.zero.n, .slice none 0 0, .slice none 0 0, .slice none 0 0] 33)) = w2 at *
  have B2 : Hid (Below W.heap.size W w2 ∧ Mine16 LTb w0 w2 q 11 (Pn.tab 2 [0, 1]) F) := B3.out
  clear B3
  obtain ⟨ob, hob⟩ : ∃ z, z = w2.heap.size := ⟨_, rfl⟩
  have H2 : Hid (Below W.heap.size W (w2.alloc (.cells #[.int .i64 1, .string ⟨#[47, 98]⟩, .string ⟨#[]⟩, .int .i64 0, .int .i64 0, .int .i64 1, .string ⟨#[47, 97]⟩, .string ⟨#[]⟩, .int .i64 0, .int .i64 0, .int .i64 1, .string ⟨#[47, 98, 47, 120]⟩, .string ⟨#[]⟩, .int .i64 0, .int .i64 0] 38)) ∧ Mine16 LTb w0 (w2.alloc (.cells #[.int .i64 1, .string ⟨#[47, 98]⟩, .string ⟨#[]⟩, .int .i64 0, .int .i64 0, .int .i64 1, .string ⟨#[47, 97]⟩, .string ⟨#[]⟩, .int .i64 0, .int .i64 0, .int .i64 1, .string ⟨#[47, 98, 47, 120]⟩, .string ⟨#[]⟩, .int .i64 0, .int .i64 0] 38)) q 11 (Pn.tab 2 [0, 1]) F ∧ Ol (w2.alloc (.cells #[.int .i64 1, .string ⟨#[47, 98]⟩, .string ⟨#[]⟩, .int .i64 0, .int .i64 0, .int .i64 1, .string ⟨#[47, 97]⟩, .string ⟨#[]⟩, .int .i64 0, .int .i64 0, .int .i64 1, .string ⟨#[47, 98, 47, 120]⟩, .string ⟨#[]⟩, .int .i64 0, .int .i64 0] 38)) (.slice (some ⟨ob, 0, none⟩) 3 3) [ob19, oa19, oc19]) := by
    have hb := (Below.refl _ w2).alloc (Nat.le_refl _) (.cells #[.int .i64 1, .string ⟨#[47, 98]⟩, .string ⟨#[]⟩, .int .i64 0, .int .i64 0, .int .i64 1, .string ⟨#[47, 97]⟩, .string ⟨#[]⟩, .int .i64 0, .int .i64 0, .int .i64 1, .string ⟨#[47, 98, 47, 120]⟩, .string ⟨#[]⟩, .int .i64 0, .int .i64 0] 38)
    rw [hob]
    exact ⟨B2.out.1.trans (hb.mono B2.out.1.size), B2.out.2.later specs_any19 hb, Ol.cb19 (os := [ob19, oa19, oc19]) (Cb.made w2 (KO.cs [ob19, oa19, oc19]) _)⟩
  go_wp2_with fail
  rw [← hob]
  clear hob B2
  generalize (w2.alloc (.cells #[.int .i64 1, .string ⟨#[47, 98]⟩, .string ⟨#[]⟩, .int .i64 0, .int .i64 0, .int .i64 1, .string ⟨#[47, 97]⟩, .string ⟨#[]⟩, .int .i64 0, .int .i64 0, .int .i64 1, .string ⟨#[47, 98, 47, 120]⟩, .string ⟨#[]⟩, .int .i64 0, .int .i64 0] 38)) = w2 at *
  refine (make_any19 q (Pn.tab 2 [0, 1]) F 11 1 1 _ [ob19, oa19, oc19] w2 H2.out.2.1.ld H2.out.2.1.fine (HS.out.below H2.out.1) H2.out.2.2 (by decide) fitK19).mono ?_
  rintro e w3 ⟨hb, _, hok⟩
  obtain ⟨pu, pa, pbv, rfl, hpv⟩ := hok knw_may19
  rw [knw_of19] at hpv ⊢
  have H3 : Hid (Below W.heap.size W w3 ∧ Pv w3 knw19 pu pa pbv) := ⟨H2.out.1.trans (hb.mono H2.out.1.size), hpv⟩
  obtain ⟨⟨ux, uc, rfl⟩, ⟨ax, ac, rfl⟩, ⟨bx, bc, rfl⟩⟩ := hpv.forms
  clear hb hok hpv H2
  unfold pv
  obtain ⟨pb, hpb⟩ : ∃ z, z = w3.heap.size := ⟨_, rfl⟩
  have HX0 : Hid (Below W.heap.size W (w3.alloc (.cells #[.int .i64 knw19.s, .int .i64 knw19.n, .slice ux knw19.os.length uc, .slice ax knw19.sh.length ac, .slice bx knw19.pl.length bc] 33)) ∧ Pv (w3.alloc (.cells #[.int .i64 knw19.s, .int .i64 knw19.n, .slice ux knw19.os.length uc, .slice ax knw19.sh.length ac, .slice bx knw19.pl.length bc] 33)) knw19 (.slice ux knw19.os.length uc) (.slice ax knw19.sh.length ac) (.slice bx knw19.pl.length bc) ∧ Cb (w3.alloc (.cells #[.int .i64 knw19.s, .int .i64 knw19.n, .slice ux knw19.os.length uc, .slice ax knw19.sh.length ac, .slice bx knw19.pl.length bc] 33)) pb [.int .i64 knw19.s, .int .i64 knw19.n, .slice ux knw19.os.length uc, .slice ax knw19.sh.length ac, .slice bx knw19.pl.length bc] 33 ∧ Pa.Std (w3.alloc (.cells #[.int .i64 knw19.s, .int .i64 knw19.n, .slice ux knw19.os.length uc, .slice ax knw19.sh.length ac, .slice bx knw19.pl.length bc] 33))) := by
    have h1 := (Below.refl _ w3).alloc (Nat.le_refl _) (.cells #[.int .i64 knw19.s, .int .i64 knw19.n, .slice ux knw19.os.length uc, .slice ax knw19.sh.length ac, .slice bx knw19.pl.length bc] 33)
    have h2 := H3.out.1.trans (h1.mono H3.out.1.size)
    rw [hpb]
    exact ⟨h2, H3.out.2.below h1, Cb.made w3 [.int .i64 knw19.s, .int .i64 knw19.n, .slice ux knw19.os.length uc, .slice ax knw19.sh.length ac, .slice bx knw19.pl.length bc] _, HS.out.below h2⟩
  go_upto_region 6 with fail
  rw [← hpb]
  clear hpb H3
  generalize (w3.alloc (.cells #[.int .i64 knw19.s, .int .i64 knw19.n, .slice ux knw19.os.length uc, .slice ax knw19.sh.length ac, .slice bx knw19.pl.length bc] 33)) = x0 at *
  obtain ⟨vb0, hvb⟩ : ∃ z, z = x0.heap.size := ⟨_, rfl⟩
  have HY0 : Hid (Below W.heap.size W (x0.alloc (.cells #[.int .i64 0, .int .i64 0] 42)) ∧ Pv (x0.alloc (.cells #[.int .i64 0, .int .i64 0] 42)) knw19 (.slice ux knw19.os.length uc) (.slice ax knw19.sh.length ac) (.slice bx knw19.pl.length bc) ∧ Cb (x0.alloc (.cells #[.int .i64 0, .int .i64 0] 42)) pb [.int .i64 knw19.s, .int .i64 knw19.n, .slice ux knw19.os.length uc, .slice ax knw19.sh.length ac, .slice bx knw19.pl.length bc] 33 ∧ Pa.Std (x0.alloc (.cells #[.int .i64 0, .int .i64 0] 42)) ∧ KV.At (x0.alloc (.cells #[.int .i64 0, .int .i64 0] 42)) (.slice (some ⟨vb0, 0, none⟩) 1 1) [⟨0, 0⟩]) := by
    have h1 := (Below.refl _ x0).alloc (Nat.le_refl _) (.cells #[.int .i64 0, .int .i64 0] 42)
    rw [hvb]
    exact ⟨HX0.out.1.trans (h1.mono HX0.out.1.size), HX0.out.2.1.below h1, HX0.out.2.2.1.below h1, HX0.out.2.2.2.below h1, KV.cb (zs := [⟨0, 0⟩]) (Cb.made x0 (KV.cs [⟨0, 0⟩]) _)⟩
  have p0 : x0.cell? ⟨pb, 0, none⟩ = some (.int .i64 knw19.s) := HX0.out.2.2.1.cell 0
  have p1 : x0.cell? ⟨pb, 1, none⟩ = some (.int .i64 knw19.n) := HX0.out.2.2.1.cell 1
  have p2 : x0.cell? ⟨pb, 2, none⟩ = some (.slice ux knw19.os.length uc) := HX0.out.2.2.1.cell 2
  have p3 : x0.cell? ⟨pb, 3, none⟩ = some (.slice ax knw19.sh.length ac) := HX0.out.2.2.1.cell 3
  have p4 : x0.cell? ⟨pb, 4, none⟩ = some (.slice bx knw19.pl.length bc) := HX0.out.2.2.1.cell 4
  go_wp2_with fail
  rw [← hvb]
  clear hvb HX0 p0 p1 p2 p3 p4
  generalize (x0.alloc (.cells #[.int .i64 0, .int .i64 0] 42)) = y0 at *
  refine (verdict_any19 knw19 _ _ _ _ [⟨0, 0⟩] y0 HY0.out.2.1 knw_ok19 HY0.out.2.2.2.2 (by decide)).mono ?_
  rintro e x1 ⟨rfl, hb⟩
  rw [knw_ver19_0]
  have HX1 : Hid (Below W.heap.size W x1 ∧ Pv x1 knw19 (.slice ux knw19.os.length uc) (.slice ax knw19.sh.length ac) (.slice bx knw19.pl.length bc) ∧ Cb x1 pb [.int .i64 knw19.s, .int .i64 knw19.n, .slice ux knw19.os.length uc, .slice ax knw19.sh.length ac, .slice bx knw19.pl.length bc] 33 ∧ Pa.Std x1) := ⟨HY0.out.1.trans (hb.mono HY0.out.1.size), HY0.out.2.1.below hb, HY0.out.2.2.1.below hb, HY0.out.2.2.2.1.below hb⟩
  clear hb HY0
  obtain ⟨vb1, hvb⟩ : ∃ z, z = x1.heap.size := ⟨_, rfl⟩
  have HY1 : Hid (Below W.heap.size W (x1.alloc (.cells #[.int .i64 0, .int .i64 (-1), .int .i64 0, .int .i64 (-1)] 42)) ∧ Pv (x1.alloc (.cells #[.int .i64 0, .int .i64 (-1), .int .i64 0, .int .i64 (-1)] 42)) knw19 (.slice ux knw19.os.length uc) (.slice ax knw19.sh.length ac) (.slice bx knw19.pl.length bc) ∧ Cb (x1.alloc (.cells #[.int .i64 0, .int .i64 (-1), .int .i64 0, .int .i64 (-1)] 42)) pb [.int .i64 knw19.s, .int .i64 knw19.n, .slice ux knw19.os.length uc, .slice ax knw19.sh.length ac, .slice bx knw19.pl.length bc] 33 ∧ Pa.Std (x1.alloc (.cells #[.int .i64 0, .int .i64 (-1), .int .i64 0, .int .i64 (-1)] 42)) ∧ KV.At (x1.alloc (.cells #[.int .i64 0, .int .i64 (-1), .int .i64 0, .int .i64 (-1)] 42)) (.slice (some ⟨vb1, 0, none⟩) 2 2) [⟨0, -1⟩, ⟨0, -1⟩]) := by
    have h1 := (Below.refl _ x1).alloc (Nat.le_refl _) (.cells #[.int .i64 0, .int .i64 (-1), .int .i64 0, .int .i64 (-1)] 42)
    rw [hvb]
    exact ⟨HX1.out.1.trans (h1.mono HX1.out.1.size), HX1.out.2.1.below h1, HX1.out.2.2.1.below h1, HX1.out.2.2.2.below h1, KV.cb (zs := [⟨0, -1⟩, ⟨0, -1⟩]) (Cb.made x1 (KV.cs [⟨0, -1⟩, ⟨0, -1⟩]) _)⟩
  have p0 : x1.cell? ⟨pb, 0, none⟩ = some (.int .i64 knw19.s) := HX1.out.2.2.1.cell 0
  have p1 : x1.cell? ⟨pb, 1, none⟩ = some (.int .i64 knw19.n) := HX1.out.2.2.1.cell 1
  have p2 : x1.cell? ⟨pb, 2, none⟩ = some (.slice ux knw19.os.length uc) := HX1.out.2.2.1.cell 2
  have p3 : x1.cell? ⟨pb, 3, none⟩ = some (.slice ax knw19.sh.length ac) := HX1.out.2.2.1.cell 3
  have p4 : x1.cell? ⟨pb, 4, none⟩ = some (.slice bx knw19.pl.length bc) := HX1.out.2.2.1.cell 4
  go_wp2_with fail
  rw [← hvb]
  clear hvb HX1 p0 p1 p2 p3 p4
  generalize (x1.alloc (.cells #[.int .i64 0, .int .i64 (-1), .int .i64 0, .int .i64 (-1)] 42)) = y1 at *
  refine (verdict_any19 knw19 _ _ _ _ [⟨0, -1⟩, ⟨0, -1⟩] y1 HY1.out.2.1 knw_ok19 HY1.out.2.2.2.2 (by decide)).mono ?_
  rintro e x2 ⟨rfl, hb⟩
  rw [knw_ver19_1]
  have HX2 : Hid (Below W.heap.size W x2 ∧ Pv x2 knw19 (.slice ux knw19.os.length uc) (.slice ax knw19.sh.length ac) (.slice bx knw19.pl.length bc) ∧ Cb x2 pb [.int .i64 knw19.s, .int .i64 knw19.n, .slice ux knw19.os.length uc, .slice ax knw19.sh.length ac, .slice bx knw19.pl.length bc] 33 ∧ Pa.Std x2) := ⟨HY1.out.1.trans (hb.mono HY1.out.1.size), HY1.out.2.1.below hb, HY1.out.2.2.1.below hb, HY1.out.2.2.2.1.below hb⟩
  clear hb HY1
  obtain ⟨vb2, hvb⟩ : ∃ z, z = x2.heap.size := ⟨_, rfl⟩
  have HY2 : Hid (Below W.heap.size W (x2.alloc (.cells #[.int .i64 4, .int .i64 0, .int .i64 12, .int .i64 1] 42)) ∧ Pv (x2.alloc (.cells #[.int .i64 4, .int .i64 0, .int .i64 12, .int .i64 1] 42)) knw19 (.slice ux knw19.os.length uc) (.slice ax knw19.sh.length ac) (.slice bx knw19.pl.length bc) ∧ Cb (x2.alloc (.cells #[.int .i64 4, .int .i64 0, .int .i64 12, .int .i64 1] 42)) pb [.int .i64 knw19.s, .int .i64 knw19.n, .slice ux knw19.os.length uc, .slice ax knw19.sh.length ac, .slice bx knw19.pl.length bc] 33 ∧ Pa.Std (x2.alloc (.cells #[.int .i64 4, .int .i64 0, .int .i64 12, .int .i64 1] 42)) ∧ KV.At (x2.alloc (.cells #[.int .i64 4, .int .i64 0, .int .i64 12, .int .i64 1] 42)) (.slice (some ⟨vb2, 0, none⟩) 2 2) [⟨4, 0⟩, ⟨12, 1⟩]) := by
    have h1 := (Below.refl _ x2).alloc (Nat.le_refl _) (.cells #[.int .i64 4, .int .i64 0, .int .i64 12, .int .i64 1] 42)
    rw [hvb]
    exact ⟨HX2.out.1.trans (h1.mono HX2.out.1.size), HX2.out.2.1.below h1, HX2.out.2.2.1.below h1, HX2.out.2.2.2.below h1, KV.cb (zs := [⟨4, 0⟩, ⟨12, 1⟩]) (Cb.made x2 (KV.cs [⟨4, 0⟩, ⟨12, 1⟩]) _)⟩
  have p0 : x2.cell? ⟨pb, 0, none⟩ = some (.int .i64 knw19.s) := HX2.out.2.2.1.cell 0
  have p1 : x2.cell? ⟨pb, 1, none⟩ = some (.int .i64 knw19.n) := HX2.out.2.2.1.cell 1
  have p2 : x2.cell? ⟨pb, 2, none⟩ = some (.slice ux knw19.os.length uc) := HX2.out.2.2.1.cell 2
  have p3 : x2.cell? ⟨pb, 3, none⟩ = some (.slice ax knw19.sh.length ac) := HX2.out.2.2.1.cell 3
  have p4 : x2.cell? ⟨pb, 4, none⟩ = some (.slice bx knw19.pl.length bc) := HX2.out.2.2.1.cell 4
  go_wp2_with fail
  rw [← hvb]
  clear hvb HX2 p0 p1 p2 p3 p4
  generalize (x2.alloc (.cells #[.int .i64 4, .int .i64 0, .int .i64 12, .int .i64 1] 42)) = y2 at *
  refine (verdict_any19 knw19 _ _ _ _ [⟨4, 0⟩, ⟨12, 1⟩] y2 HY2.out.2.1 knw_ok19 HY2.out.2.2.2.2 (by decide)).mono ?_
  rintro e x3 ⟨rfl, hb⟩
  rw [knw_ver19_2]
  have HX3 : Hid (Below W.heap.size W x3 ∧ Pv x3 knw19 (.slice ux knw19.os.length uc) (.slice ax knw19.sh.length ac) (.slice bx knw19.pl.length bc) ∧ Cb x3 pb [.int .i64 knw19.s, .int .i64 knw19.n, .slice ux knw19.os.length uc, .slice ax knw19.sh.length ac, .slice bx knw19.pl.length bc] 33 ∧ Pa.Std x3) := ⟨HY2.out.1.trans (hb.mono HY2.out.1.size), HY2.out.2.1.below hb, HY2.out.2.2.1.below hb, HY2.out.2.2.2.1.below hb⟩
  clear hb HY2
  obtain ⟨vb3, hvb⟩ : ∃ z, z = x3.heap.size := ⟨_, rfl⟩
  have HY3 : Hid (Below W.heap.size W (x3.alloc (.cells #[.int .i64 4, .int .i64 0, .int .i64 5, .int .i64 0] 42)) ∧ Pv (x3.alloc (.cells #[.int .i64 4, .int .i64 0, .int .i64 5, .int .i64 0] 42)) knw19 (.slice ux knw19.os.length uc) (.slice ax knw19.sh.length ac) (.slice bx knw19.pl.length bc) ∧ Cb (x3.alloc (.cells #[.int .i64 4, .int .i64 0, .int .i64 5, .int .i64 0] 42)) pb [.int .i64 knw19.s, .int .i64 knw19.n, .slice ux knw19.os.length uc, .slice ax knw19.sh.length ac, .slice bx knw19.pl.length bc] 33 ∧ Pa.Std (x3.alloc (.cells #[.int .i64 4, .int .i64 0, .int .i64 5, .int .i64 0] 42)) ∧ KV.At (x3.alloc (.cells #[.int .i64 4, .int .i64 0, .int .i64 5, .int .i64 0] 42)) (.slice (some ⟨vb3, 0, none⟩) 2 2) [⟨4, 0⟩, ⟨5, 0⟩]) := by
    have h1 := (Below.refl _ x3).alloc (Nat.le_refl _) (.cells #[.int .i64 4, .int .i64 0, .int .i64 5, .int .i64 0] 42)
    rw [hvb]
    exact ⟨HX3.out.1.trans (h1.mono HX3.out.1.size), HX3.out.2.1.below h1, HX3.out.2.2.1.below h1, HX3.out.2.2.2.below h1, KV.cb (zs := [⟨4, 0⟩, ⟨5, 0⟩]) (Cb.made x3 (KV.cs [⟨4, 0⟩, ⟨5, 0⟩]) _)⟩
  have p0 : x3.cell? ⟨pb, 0, none⟩ = some (.int .i64 knw19.s) := HX3.out.2.2.1.cell 0
  have p1 : x3.cell? ⟨pb, 1, none⟩ = some (.int .i64 knw19.n) := HX3.out.2.2.1.cell 1
  have p2 : x3.cell? ⟨pb, 2, none⟩ = some (.slice ux knw19.os.length uc) := HX3.out.2.2.1.cell 2
  have p3 : x3.cell? ⟨pb, 3, none⟩ = some (.slice ax knw19.sh.length ac) := HX3.out.2.2.1.cell 3
  have p4 : x3.cell? ⟨pb, 4, none⟩ = some (.slice bx knw19.pl.length bc) := HX3.out.2.2.1.cell 4
  go_wp2_with fail
  rw [← hvb]
  clear hvb HX3 p0 p1 p2 p3 p4
  generalize (x3.alloc (.cells #[.int .i64 4, .int .i64 0, .int .i64 5, .int .i64 0] 42)) = y3 at *
  refine (verdict_any19 knw19 _ _ _ _ [⟨4, 0⟩, ⟨5, 0⟩] y3 HY3.out.2.1 knw_ok19 HY3.out.2.2.2.2 (by decide)).mono ?_
  rintro e x4 ⟨rfl, hb⟩
  rw [knw_ver19_3]
  have HX4 : Hid (Below W.heap.size W x4 ∧ Pv x4 knw19 (.slice ux knw19.os.length uc) (.slice ax knw19.sh.length ac) (.slice bx knw19.pl.length bc) ∧ Cb x4 pb [.int .i64 knw19.s, .int .i64 knw19.n, .slice ux knw19.os.length uc, .slice ax knw19.sh.length ac, .slice bx knw19.pl.length bc] 33 ∧ Pa.Std x4) := ⟨HY3.out.1.trans (hb.mono HY3.out.1.size), HY3.out.2.1.below hb, HY3.out.2.2.1.below hb, HY3.out.2.2.2.1.below hb⟩
  clear hb HY3
  obtain ⟨vb4, hvb⟩ : ∃ z, z = x4.heap.size := ⟨_, rfl⟩
  have HY4 : Hid (Below W.heap.size W (x4.alloc (.cells #[.int .i64 4, .int .i64 0, .int .i64 11, .int .i64 (-1)] 42)) ∧ Pv (x4.alloc (.cells #[.int .i64 4, .int .i64 0, .int .i64 11, .int .i64 (-1)] 42)) knw19 (.slice ux knw19.os.length uc) (.slice ax knw19.sh.length ac) (.slice bx knw19.pl.length bc) ∧ Cb (x4.alloc (.cells #[.int .i64 4, .int .i64 0, .int .i64 11, .int .i64 (-1)] 42)) pb [.int .i64 knw19.s, .int .i64 knw19.n, .slice ux knw19.os.length uc, .slice ax knw19.sh.length ac, .slice bx knw19.pl.length bc] 33 ∧ Pa.Std (x4.alloc (.cells #[.int .i64 4, .int .i64 0, .int .i64 11, .int .i64 (-1)] 42)) ∧ KV.At (x4.alloc (.cells #[.int .i64 4, .int .i64 0, .int .i64 11, .int .i64 (-1)] 42)) (.slice (some ⟨vb4, 0, none⟩) 2 2) [⟨4, 0⟩, ⟨11, -1⟩]) := by
    have h1 := (Below.refl _ x4).alloc (Nat.le_refl _) (.cells #[.int .i64 4, .int .i64 0, .int .i64 11, .int .i64 (-1)] 42)
    rw [hvb]
    exact ⟨HX4.out.1.trans (h1.mono HX4.out.1.size), HX4.out.2.1.below h1, HX4.out.2.2.1.below h1, HX4.out.2.2.2.below h1, KV.cb (zs := [⟨4, 0⟩, ⟨11, -1⟩]) (Cb.made x4 (KV.cs [⟨4, 0⟩, ⟨11, -1⟩]) _)⟩
  have p0 : x4.cell? ⟨pb, 0, none⟩ = some (.int .i64 knw19.s) := HX4.out.2.2.1.cell 0
  have p1 : x4.cell? ⟨pb, 1, none⟩ = some (.int .i64 knw19.n) := HX4.out.2.2.1.cell 1
  have p2 : x4.cell? ⟨pb, 2, none⟩ = some (.slice ux knw19.os.length uc) := HX4.out.2.2.1.cell 2
  have p3 : x4.cell? ⟨pb, 3, none⟩ = some (.slice ax knw19.sh.length ac) := HX4.out.2.2.1.cell 3
  have p4 : x4.cell? ⟨pb, 4, none⟩ = some (.slice bx knw19.pl.length bc) := HX4.out.2.2.1.cell 4
  go_wp2_with fail
  rw [← hvb]
  clear hvb HX4 p0 p1 p2 p3 p4
  generalize (x4.alloc (.cells #[.int .i64 4, .int .i64 0, .int .i64 11, .int .i64 (-1)] 42)) = y4 at *
  refine (verdict_any19 knw19 _ _ _ _ [⟨4, 0⟩, ⟨11, -1⟩] y4 HY4.out.2.1 knw_ok19 HY4.out.2.2.2.2 (by decide)).mono ?_
  rintro e x5 ⟨rfl, hb⟩
  rw [knw_ver19_4]
  have HX5 : Hid (Below W.heap.size W x5 ∧ Pv x5 knw19 (.slice ux knw19.os.length uc) (.slice ax knw19.sh.length ac) (.slice bx knw19.pl.length bc) ∧ Cb x5 pb [.int .i64 knw19.s, .int .i64 knw19.n, .slice ux knw19.os.length uc, .slice ax knw19.sh.length ac, .slice bx knw19.pl.length bc] 33 ∧ Pa.Std x5) := ⟨HY4.out.1.trans (hb.mono HY4.out.1.size), HY4.out.2.1.below hb, HY4.out.2.2.1.below hb, HY4.out.2.2.2.1.below hb⟩
  clear hb HY4
  obtain ⟨rn, hrn⟩ : ∃ z, z = x5.heap.size := ⟨_, rfl⟩
  have HY5 : Hid (Below W.heap.size W (x5.alloc (.cells #[.slice none 0 0, .slice none 0 0] 43)) ∧ Pv (x5.alloc (.cells #[.slice none 0 0, .slice none 0 0] 43)) knw19 (.slice ux knw19.os.length uc) (.slice ax knw19.sh.length ac) (.slice bx knw19.pl.length bc) ∧ Cb (x5.alloc (.cells #[.slice none 0 0, .slice none 0 0] 43)) pb [.int .i64 knw19.s, .int .i64 knw19.n, .slice ux knw19.os.length uc, .slice ax knw19.sh.length ac, .slice bx knw19.pl.length bc] 33 ∧ Pa.Std (x5.alloc (.cells #[.slice none 0 0, .slice none 0 0] 43)) ∧ Rss (x5.alloc (.cells #[.slice none 0 0, .slice none 0 0] 43)) (.slice (some ⟨rn, 0, none⟩) 2 2) [[], []]) := by
    have h1 := (Below.refl _ x5).alloc (Nat.le_refl _) (.cells #[.slice none 0 0, .slice none 0 0] 43)
    rw [hrn]
    exact ⟨HX5.out.1.trans (h1.mono HX5.out.1.size), HX5.out.2.1.below h1, HX5.out.2.2.1.below h1, HX5.out.2.2.2.below h1, Rss.nils19 (Cb.made x5 [.slice none 0 0, .slice none 0 0] _)⟩
  have p0 : x5.cell? ⟨pb, 0, none⟩ = some (.int .i64 knw19.s) := HX5.out.2.2.1.cell 0
  have p1 : x5.cell? ⟨pb, 1, none⟩ = some (.int .i64 knw19.n) := HX5.out.2.2.1.cell 1
  have p2 : x5.cell? ⟨pb, 2, none⟩ = some (.slice ux knw19.os.length uc) := HX5.out.2.2.1.cell 2
  have p3 : x5.cell? ⟨pb, 3, none⟩ = some (.slice ax knw19.sh.length ac) := HX5.out.2.2.1.cell 3
  have p4 : x5.cell? ⟨pb, 4, none⟩ = some (.slice bx knw19.pl.length bc) := HX5.out.2.2.1.cell 4
  go_wp2_with fail
  rw [← hrn]
  clear hrn HX5 p0 p1 p2 p3 p4
  generalize (x5.alloc (.cells #[.slice none 0 0, .slice none 0 0] 43)) = y5 at *
  refine (results_any19 knw19 _ _ _ _ [[], []] y5 HY5.out.2.1 knw_ok19 HY5.out.2.2.2.2 (by decide)).mono ?_
  rintro e x6 ⟨he, hb⟩
  rw [knw_nor19] at he
  subst he
  have HX6 : Hid (Below W.heap.size W x6 ∧ Pv x6 knw19 (.slice ux knw19.os.length uc) (.slice ax knw19.sh.length ac) (.slice bx knw19.pl.length bc) ∧ Cb x6 pb [.int .i64 knw19.s, .int .i64 knw19.n, .slice ux knw19.os.length uc, .slice ax knw19.sh.length ac, .slice bx knw19.pl.length bc] 33 ∧ Pa.Std x6) := ⟨HY5.out.1.trans (hb.mono HY5.out.1.size), HY5.out.2.1.below hb, HY5.out.2.2.1.below hb, HY5.out.2.2.2.1.below hb⟩
  clear hb HY5
  obtain ⟨ra, hra⟩ : ∃ z, z = x6.heap.size := ⟨_, rfl⟩
  obtain ⟨rb, hrb⟩ : ∃ z, z = x6.heap.size + 1 := ⟨_, rfl⟩
  obtain ⟨rc, hrc⟩ : ∃ z, z = x6.heap.size + 1 + 1 := ⟨_, rfl⟩
  have HY6 : Hid (Below W.heap.size W (((x6.alloc (.cells #[.int .i64 0, .string ⟨#[120]⟩, .string ⟨#[]⟩, .slice none 0 0, .int .i64 0, .int .i64 0, .int .i64 0, .int .i64 0, .int .i64 0, .int .i64 0, .int .i64 0] 50)).alloc (.cells #[.int .i64 0, .string ⟨#[121]⟩, .string ⟨#[]⟩, .slice none 0 0, .int .i64 0, .int .i64 0, .int .i64 0, .int .i64 0, .int .i64 0, .int .i64 0, .int .i64 0, .int .i64 0, .string ⟨#[122]⟩, .string ⟨#[]⟩, .slice none 0 0, .int .i64 0, .int .i64 0, .int .i64 0, .int .i64 0, .int .i64 0, .int .i64 0, .int .i64 0] 50)).alloc (.cells #[.slice (some ⟨ra, 0, none⟩) 1 1, .slice (some ⟨rb, 0, none⟩) 2 2] 43)) ∧ Pv (((x6.alloc (.cells #[.int .i64 0, .string ⟨#[120]⟩, .string ⟨#[]⟩, .slice none 0 0, .int .i64 0, .int .i64 0, .int .i64 0, .int .i64 0, .int .i64 0, .int .i64 0, .int .i64 0] 50)).alloc (.cells #[.int .i64 0, .string ⟨#[121]⟩, .string ⟨#[]⟩, .slice none 0 0, .int .i64 0, .int .i64 0, .int .i64 0, .int .i64 0, .int .i64 0, .int .i64 0, .int .i64 0, .int .i64 0, .string ⟨#[122]⟩, .string ⟨#[]⟩, .slice none 0 0, .int .i64 0, .int .i64 0, .int .i64 0, .int .i64 0, .int .i64 0, .int .i64 0, .int .i64 0] 50)).alloc (.cells #[.slice (some ⟨ra, 0, none⟩) 1 1, .slice (some ⟨rb, 0, none⟩) 2 2] 43)) knw19 (.slice ux knw19.os.length uc) (.slice ax knw19.sh.length ac) (.slice bx knw19.pl.length bc) ∧ Cb (((x6.alloc (.cells #[.int .i64 0, .string ⟨#[120]⟩, .string ⟨#[]⟩, .slice none 0 0, .int .i64 0, .int .i64 0, .int .i64 0, .int .i64 0, .int .i64 0, .int .i64 0, .int .i64 0] 50)).alloc (.cells #[.int .i64 0, .string ⟨#[121]⟩, .string ⟨#[]⟩, .slice none 0 0, .int .i64 0, .int .i64 0, .int .i64 0, .int .i64 0, .int .i64 0, .int .i64 0, .int .i64 0, .int .i64 0, .string ⟨#[122]⟩, .string ⟨#[]⟩, .slice none 0 0, .int .i64 0, .int .i64 0, .int .i64 0, .int .i64 0, .int .i64 0, .int .i64 0, .int .i64 0] 50)).alloc (.cells #[.slice (some ⟨ra, 0, none⟩) 1 1, .slice (some ⟨rb, 0, none⟩) 2 2] 43)) pb [.int .i64 knw19.s, .int .i64 knw19.n, .slice ux knw19.os.length uc, .slice ax knw19.sh.length ac, .slice bx knw19.pl.length bc] 33 ∧ Pa.Std (((x6.alloc (.cells #[.int .i64 0, .string ⟨#[120]⟩, .string ⟨#[]⟩, .slice none 0 0, .int .i64 0, .int .i64 0, .int .i64 0, .int .i64 0, .int .i64 0, .int .i64 0, .int .i64 0] 50)).alloc (.cells #[.int .i64 0, .string ⟨#[121]⟩, .string ⟨#[]⟩, .slice none 0 0, .int .i64 0, .int .i64 0, .int .i64 0, .int .i64 0, .int .i64 0, .int .i64 0, .int .i64 0, .int .i64 0, .string ⟨#[122]⟩, .string ⟨#[]⟩, .slice none 0 0, .int .i64 0, .int .i64 0, .int .i64 0, .int .i64 0, .int .i64 0, .int .i64 0, .int .i64 0] 50)).alloc (.cells #[.slice (some ⟨ra, 0, none⟩) 1 1, .slice (some ⟨rb, 0, none⟩) 2 2] 43)) ∧ Rss (((x6.alloc (.cells #[.int .i64 0, .string ⟨#[120]⟩, .string ⟨#[]⟩, .slice none 0 0, .int .i64 0, .int .i64 0, .int .i64 0, .int .i64 0, .int .i64 0, .int .i64 0, .int .i64 0] 50)).alloc (.cells #[.int .i64 0, .string ⟨#[121]⟩, .string ⟨#[]⟩, .slice none 0 0, .int .i64 0, .int .i64 0, .int .i64 0, .int .i64 0, .int .i64 0, .int .i64 0, .int .i64 0, .int .i64 0, .string ⟨#[122]⟩, .string ⟨#[]⟩, .slice none 0 0, .int .i64 0, .int .i64 0, .int .i64 0, .int .i64 0, .int .i64 0, .int .i64 0, .int .i64 0] 50)).alloc (.cells #[.slice (some ⟨ra, 0, none⟩) 1 1, .slice (some ⟨rb, 0, none⟩) 2 2] 43)) (.slice (some ⟨rc, 0, none⟩) 2 2) [[xt19 120], [xt19 121, xt19 122]]) := by
    have h1 := (Below.refl _ x6).alloc (Nat.le_refl _) (.cells #[.int .i64 0, .string ⟨#[120]⟩, .string ⟨#[]⟩, .slice none 0 0, .int .i64 0, .int .i64 0, .int .i64 0, .int .i64 0, .int .i64 0, .int .i64 0, .int .i64 0] 50)
    have h2 := (Below.refl _ (x6.alloc (.cells #[.int .i64 0, .string ⟨#[120]⟩, .string ⟨#[]⟩, .slice none 0 0, .int .i64 0, .int .i64 0, .int .i64 0, .int .i64 0, .int .i64 0, .int .i64 0, .int .i64 0] 50))).alloc (Nat.le_refl _) (.cells #[.int .i64 0, .string ⟨#[121]⟩, .string ⟨#[]⟩, .slice none 0 0, .int .i64 0, .int .i64 0, .int .i64 0, .int .i64 0, .int .i64 0, .int .i64 0, .int .i64 0, .int .i64 0, .string ⟨#[122]⟩, .string ⟨#[]⟩, .slice none 0 0, .int .i64 0, .int .i64 0, .int .i64 0, .int .i64 0, .int .i64 0, .int .i64 0, .int .i64 0] 50)
    have h3 := (Below.refl _ ((x6.alloc (.cells #[.int .i64 0, .string ⟨#[120]⟩, .string ⟨#[]⟩, .slice none 0 0, .int .i64 0, .int .i64 0, .int .i64 0, .int .i64 0, .int .i64 0, .int .i64 0, .int .i64 0] 50)).alloc (.cells #[.int .i64 0, .string ⟨#[121]⟩, .string ⟨#[]⟩, .slice none 0 0, .int .i64 0, .int .i64 0, .int .i64 0, .int .i64 0, .int .i64 0, .int .i64 0, .int .i64 0, .int .i64 0, .string ⟨#[122]⟩, .string ⟨#[]⟩, .slice none 0 0, .int .i64 0, .int .i64 0, .int .i64 0, .int .i64 0, .int .i64 0, .int .i64 0, .int .i64 0] 50))).alloc (Nat.le_refl _) (.cells #[.slice (some ⟨ra, 0, none⟩) 1 1, .slice (some ⟨rb, 0, none⟩) 2 2] 43)
    have h23 := h2.trans (h3.mono h2.size)
    have h123 := h1.trans (h23.mono h1.size)
    have c1 := (KX.cb (zs := [xt19 120]) (Cb.made x6 (KX.cs [xt19 120]) 50)).below h23
    have c2 := (KX.cb (zs := [xt19 121, xt19 122]) (Cb.made (x6.alloc (.cells #[.int .i64 0, .string ⟨#[120]⟩, .string ⟨#[]⟩, .slice none 0 0, .int .i64 0, .int .i64 0, .int .i64 0, .int .i64 0, .int .i64 0, .int .i64 0, .int .i64 0] 50)) (KX.cs [xt19 121, xt19 122]) 50)).below h3
    have c3 := Cb.made ((x6.alloc (.cells #[.int .i64 0, .string ⟨#[120]⟩, .string ⟨#[]⟩, .slice none 0 0, .int .i64 0, .int .i64 0, .int .i64 0, .int .i64 0, .int .i64 0, .int .i64 0, .int .i64 0] 50)).alloc (.cells #[.int .i64 0, .string ⟨#[121]⟩, .string ⟨#[]⟩, .slice none 0 0, .int .i64 0, .int .i64 0, .int .i64 0, .int .i64 0, .int .i64 0, .int .i64 0, .int .i64 0, .int .i64 0, .string ⟨#[122]⟩, .string ⟨#[]⟩, .slice none 0 0, .int .i64 0, .int .i64 0, .int .i64 0, .int .i64 0, .int .i64 0, .int .i64 0, .int .i64 0] 50)) [.slice (some ⟨ra, 0, none⟩) 1 1, .slice (some ⟨rb, 0, none⟩) 2 2] 43
    rw [World.size_alloc, ← hrb] at c2
    rw [World.size_alloc, World.size_alloc, ← hrc] at c3
    rw [← hra] at c1
    exact ⟨HX6.out.1.trans (h123.mono HX6.out.1.size), HX6.out.2.1.below h123, HX6.out.2.2.1.below h123, HX6.out.2.2.2.below h123, Rss.two19 c3 c1 c2⟩
  have p0 : x6.cell? ⟨pb, 0, none⟩ = some (.int .i64 knw19.s) := HX6.out.2.2.1.cell 0
  have p1 : x6.cell? ⟨pb, 1, none⟩ = some (.int .i64 knw19.n) := HX6.out.2.2.1.cell 1
  have p2 : x6.cell? ⟨pb, 2, none⟩ = some (.slice ux knw19.os.length uc) := HX6.out.2.2.1.cell 2
  have p3 : x6.cell? ⟨pb, 3, none⟩ = some (.slice ax knw19.sh.length ac) := HX6.out.2.2.1.cell 3
  have p4 : x6.cell? ⟨pb, 4, none⟩ = some (.slice bx knw19.pl.length bc) := HX6.out.2.2.1.cell 4
  go_wp2_with fail
  rw [← hrc, ← hrb, ← hra]
  clear hrc hrb hra HX6 p0 p1 p2 p3 p4
  generalize (((x6.alloc (.cells #[.int .i64 0, .string ⟨#[120]⟩, .string ⟨#[]⟩, .slice none 0 0, .int .i64 0, .int .i64 0, .int .i64 0, .int .i64 0, .int .i64 0, .int .i64 0, .int .i64 0] 50)).alloc (.cells #[.int .i64 0, .string ⟨#[121]⟩, .string ⟨#[]⟩, .slice none 0 0, .int .i64 0, .int .i64 0, .int .i64 0, .int .i64 0, .int .i64 0, .int .i64 0, .int .i64 0, .int .i64 0, .string ⟨#[122]⟩, .string ⟨#[]⟩, .slice none 0 0, .int .i64 0, .int .i64 0, .int .i64 0, .int .i64 0, .int .i64 0, .int .i64 0, .int .i64 0] 50)).alloc (.cells #[.slice (some ⟨ra, 0, none⟩) 1 1, .slice (some ⟨rb, 0, none⟩) 2 2] 43)) = y6 at *
  refine (results_any19 knw19 _ _ _ _ [[xt19 120], [xt19 121, xt19 122]] y6 HY6.out.2.1 knw_ok19 HY6.out.2.2.2.2 (by decide)).mono ?_
  rintro e x7 ⟨he, hb⟩
  rw [knw_res19] at he
  obtain ⟨g7, rfl, hcb, _⟩ := he
  have HX7 : Hid (Below W.heap.size W x7 ∧ Pv x7 knw19 (.slice ux knw19.os.length uc) (.slice ax knw19.sh.length ac) (.slice bx knw19.pl.length bc) ∧ Cb x7 pb [.int .i64 knw19.s, .int .i64 knw19.n, .slice ux knw19.os.length uc, .slice ax knw19.sh.length ac, .slice bx knw19.pl.length bc] 33 ∧ Pa.Std x7) := ⟨HY6.out.1.trans (hb.mono HY6.out.1.size), HY6.out.2.1.below hb, HY6.out.2.2.1.below hb, HY6.out.2.2.2.1.below hb⟩
  have HCB : Hid (Cb x7 g7 (KX.cs [xt19 121, xt19 120, xt19 122]) 50) := hcb
  clear hb HY6 hcb
  have r0 : x7.cell? ⟨g7, 1, none⟩ = some (.string ⟨#[121]⟩) := HCB.out.cell 1
  have r1 : x7.cell? ⟨g7, 12, none⟩ = some (.string ⟨#[120]⟩) := HCB.out.cell 12
  have r2 : x7.cell? ⟨g7, 23, none⟩ = some (.string ⟨#[122]⟩) := HCB.out.cell 23
  rw [show knw19.os.length = 3 from rfl]
  go_wp2_with fail
  refine (first_any19 Pn.zero nilv nilv nilv x7 (Pv.zero x7)).mono ?_
  rintro e x8 ⟨rfl, hb⟩
  rw [show Pn.first Pn.zero = -1 from rfl]
  clear r0 r1 r2
  have HX8 : Hid (Below W.heap.size W x8 ∧ Pv x8 knw19 (.slice ux knw19.os.length uc) (.slice ax knw19.sh.length ac) (.slice bx knw19.pl.length bc) ∧ Cb x8 pb [.int .i64 knw19.s, .int .i64 knw19.n, .slice ux knw19.os.length uc, .slice ax knw19.sh.length ac, .slice bx knw19.pl.length bc] 33 ∧ Pa.Std x8) := ⟨HX7.out.1.trans (hb.mono HX7.out.1.size), HX7.out.2.1.below hb, HX7.out.2.2.1.below hb, HX7.out.2.2.2.below hb⟩
  clear hb HX7 HCB
  have p0 : x8.cell? ⟨pb, 0, none⟩ = some (.int .i64 knw19.s) := HX8.out.2.2.1.cell 0
  have p1 : x8.cell? ⟨pb, 1, none⟩ = some (.int .i64 knw19.n) := HX8.out.2.2.1.cell 1
  have p2 : x8.cell? ⟨pb, 2, none⟩ = some (.slice ux knw19.os.length uc) := HX8.out.2.2.1.cell 2
  have p3 : x8.cell? ⟨pb, 3, none⟩ = some (.slice ax knw19.sh.length ac) := HX8.out.2.2.1.cell 3
  have p4 : x8.cell? ⟨pb, 4, none⟩ = some (.slice bx knw19.pl.length bc) := HX8.out.2.2.1.cell 4
  go_wp2_with fail
  refine (ops_any19 knw19 _ _ _ 5 x8 HX8.out.2.1 knw_ok19).mono ?_
  rintro e x9 ⟨ov, rfl, hov, hb⟩
  rw [show Pn.opsOf knw19 5 = [] from by kernel_rfl] at hov
  obtain ⟨oa, ok, oc, rfl, hok, _⟩ := hov
  obtain rfl : ok = 0 := hok
  have H9 : Hid (Below W.heap.size W x9) := HX8.out.1.trans (hb.mono HX8.out.1.size)
  clear hb HX8 p0 p1 p2 p3 p4
  go_wp2
  go_ret
  exact ⟨rfl, H9.out⟩
end Go.Proofs.YtjimemnkmpapgaaGreatDoor
