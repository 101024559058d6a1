/- What the statements' own long, same, rq and table answer. What the statements' own awake answers. -/
import Derived.Test.YtjimemnkmpapgaaGreatDoorWr19
import Derived.Test.YtjimemnkmpapgaaGreatDoorBo19
import Derived.Test.YtjimemnkmpapgaaGreatDoorRefM16
namespace Go.Proofs.YtjimemnkmpapgaaGreatDoor
open Go.RowKit

theorem specs_any19 : Specs16 LTb := ⟨LTb.lt, LTb.keep, new_any16, of_any16, move_any16, split_any16⟩
set_option maxRecDepth 20000 in
set_option maxHeartbeats 1000000 in
theorem long_any19 (v : Value) (os : List O) (w : World) (hv : Ol w v os) (hl : os.length ≤ maxLen) :
    Calls Tryz.prog 15 #[v] w fun e w' => e = .returned (.bool (greatB os)) ∧ Below w.heap.size w w' := by
  have HV : Hid (Ol w v os) := hv
  obtain ⟨av, n, c, rfl, hn, _⟩ := hv
  have HN : Hid (n = os.length) := hn
  unfold maxLen at hl
  have hn1 : n ≤ 9223372036854775807 := by omega
  clear hn hl
  obtain ⟨R, hR⟩ : ∃ R : Bool, R = greatB os := ⟨_, rfl⟩
  have HR : Hid (R = greatB os) := hR
  rw [← hR]
  clear hR
  go_enter Tryz.func15, Tryz.ntmps15
  by_cases h20 : 20 < n
  · have h20' : (20 : Int) < (n : Int) := by omega
    have HT : Hid (R = true) := by
      have h : R = true := by rw [HR.out]; unfold greatB; rw [decide_eq_true (by rw [← HN.out]; exact h20)]; rfl
      exact h
    go_wp2
    go_ret
    rw [HT.out]
    exact ⟨rfl, Below.refl _ _⟩
  · have h20' : ¬ (20 : Int) < (n : Int) := by omega
    have HR2 : Hid (R = os.any fun o => decide (300 < o.path.size) || decide (1100 < o.data.size)) := by
      have h : R = os.any fun o => decide (300 < o.path.size) || decide (1100 < o.data.size) := by rw [HR.out]; unfold greatB; rw [decide_eq_false (by rw [← HN.out]; exact h20)]; rfl
      exact h
    go_wp2
    go_loopw [3] (fun i wr => ∃ k : Nat, k ≤ n ∧ i = .int .i64 (k : Int) ∧ ((os.take k).any fun o => decide (300 < o.path.size) || decide (1100 < o.data.size)) = false ∧ Below w.heap.size w wr) (fun i _ => ((n : Int) - intOf i).toNat)
    case atStart => exact ⟨0, Nat.zero_le _, rfl, rfl, Below.refl _ _⟩
    case round =>
      obtain ⟨k, hk, rfl, hany, hb⟩ := hrel
      have HA : Hid (((os.take k).any fun o => decide (300 < o.path.size) || decide (1100 < o.data.size)) = false) := hany
      have HB : Hid (Below w.heap.size w wr) := hb
      clear hany
      by_cases hlt : k < n
      · have hlt' : (k : Int) < (n : Int) := by omega
        have hkl : k < os.length := by rw [← HN.out]; exact hlt
        obtain ⟨g, b, c', hv', hcs⟩ := (HV.out.below hb).at (by omega)
        simp only [Value.slice.injEq] at hv'
        obtain ⟨rfl, hq, rfl⟩ := hv'
        obtain ⟨_, h1, h2, _, _⟩ := hcs k os[k] (List.getElem?_eq_getElem hkl)
        have HK : Hid (os[k]? = some os[k]) := List.getElem?_eq_getElem hkl
        generalize os[k] = o at *
        clear hcs hq hb hkl
        by_cases hp : 300 < o.path.size
        · have hp' : (300 : Int) < (o.path.size : Int) := by omega
          have HT : Hid (R = true) := by
            have h : R = true := by rw [HR2.out]; exact any_yes HK.out (by simp [hp])
            exact h
          go_wp2
          go_ret
          rw [HT.out]
          exact ⟨rfl, HB.out⟩
        · have hp' : ¬ (300 : Int) < (o.path.size : Int) := by omega
          by_cases hd : 1100 < o.data.size
          · have hd' : (1100 : Int) < (o.data.size : Int) := by omega
            have HT : Hid (R = true) := by
              have h : R = true := by rw [HR2.out]; exact any_yes HK.out (by simp [hd])
              exact h
            go_wp2
            go_ret
            rw [HT.out]
            exact ⟨rfl, HB.out⟩
          · have hd' : ¬ (1100 : Int) < (o.data.size : Int) := by omega
            have HA2 : Hid (((os.take (k + 1)).any fun o => decide (300 < o.path.size) || decide (1100 < o.data.size)) = false) := by
              have h : ((os.take (k + 1)).any fun o => decide (300 < o.path.size) || decide (1100 < o.data.size)) = false := by
                rw [List.take_add_one, HK.out, List.any_append, HA.out]
                simp [hp, hd]
              exact h
            go_wp2
            go_roundw
            case rel => exact ⟨k + 1, by omega, by go_num, HA2.out, HB.out⟩
            case measure => simp [intOf]; omega
      · have hlt' : ¬ (k : Int) < (n : Int) := by omega
        have HF : Hid (R = false) := by
          have h : R = false := by
            have h2 := HA.out
            rw [List.take_of_length_le (by rw [← HN.out]; omega)] at h2
            rw [HR2.out, h2]
          exact h
        clear hb
        go_wp2
        go_ret
        rw [HF.out]
        exact ⟨rfl, HB.out⟩


set_option maxRecDepth 20000 in
set_option maxHeartbeats 4000000 in
theorem same_any19 (u v : Value) (xs ys : List Int) (w : World) (hu : KI.At w u xs) (hv : KI.At w v ys) (hl : xs.length ≤ 1000) :
    Calls Tryz.prog 20 #[u, v] w fun e w' => e = .returned (.bool (decide (xs = ys))) ∧ Below w.heap.size w w' := by
  obtain ⟨a, c, rfl, _, _⟩ := hu.form
  obtain ⟨b, d, rfl, _, _⟩ := hv.form
  obtain ⟨N, hN⟩ : ∃ N, N = xs.length := ⟨_, rfl⟩
  obtain ⟨M, hM⟩ : ∃ M, M = ys.length := ⟨_, rfl⟩
  rw [← hN] at hu ⊢
  rw [← hM] at hv ⊢
  have H : Hid (KI.At w (.slice a N c) xs ∧ KI.At w (.slice b M d) ys ∧ N = xs.length ∧ M = ys.length) := ⟨hu, hv, hN, hM⟩
  have hN1 : N ≤ 1000 := by omega
  clear hu hv hN hM hl
  go_enter Tryz.func20, Tryz.ntmps20
  by_cases hne : N = M
  · have hb0 : ((N : Int) != (M : Int)) = false := by simp [hne]
    subst hne
    go_wp2
    go_loopw [5] (fun i wx => ∃ k : Nat, k ≤ N ∧ i = .int .i64 (k : Int) ∧ Below w.heap.size w wx ∧ xs.take k = ys.take k) (fun i _ => N - (intOf i).toNat)
    case atStart => exact ⟨0, Nat.zero_le _, rfl, Below.refl _ _, rfl⟩
    case round =>
      obtain ⟨k, hk, rfl, hb, he⟩ := hrel
      have HW : Hid (Below w.heap.size w wr ∧ xs.take k = ys.take k) := ⟨hb, he⟩
      clear hb he
      by_cases hlt : k < N
      · have hlt' : (k : Int) < (N : Int) := by omega
        have hk0 : (0 : Int) ≤ (k : Int) := by omega
        have hwk : IntKind.wrap .i64 ((k : Int) + 1) = (k : Int) + 1 := by rw [IntKind.wrap_i64]; omega
        obtain ⟨x, hx⟩ : ∃ x, xs[k]? = some x := ⟨xs[k]'(by have := H.out.2.2.1; omega), List.getElem?_eq_getElem _⟩
        obtain ⟨y, hy⟩ : ∃ y, ys[k]? = some y := ⟨ys[k]'(by have := H.out.2.2.2; omega), List.getElem?_eq_getElem _⟩
        obtain ⟨g1, o1, rfl, c1⟩ := (H.out.1.below HW.out.1).at hx
        obtain ⟨g2, o2, rfl, c2⟩ := (H.out.2.1.below HW.out.1).at hy
        have c1 : wr.cell? ⟨g1, o1 + k, none⟩ = some (.int .i64 x) := by simpa [KI] using c1 0 _ rfl
        have c2 : wr.cell? ⟨g2, o2 + k, none⟩ = some (.int .i64 y) := by simpa [KI] using c2 0 _ rfl
        by_cases hxy : x = y
        · have hb1 : (x != y) = false := by simp [hxy]
          have HN : Hid (xs.take (k + 1) = ys.take (k + 1)) := (show _ = _ by rw [List.take_add_one, List.take_add_one, HW.out.2, hx, hy, hxy])
          clear hx hy hxy
          go_upto_region 6 with fail
          go_quiet (fail)
          have HB2 : Hid (Below w.heap.size w (wr.drewN nq)) := below_drewN HW.out.1 _
          go_wp2
          go_roundw
          case rel => exact ⟨k + 1, by omega, by go_num, HB2.out, HN.out⟩
          case measure => simp [intOf]; omega
        · have hb1 : (x != y) = true := by simp [hxy]
          have HN : Hid (decide (xs = ys) = false) := (show _ = _ by
            apply decide_eq_false
            intro e
            rw [e, hy] at hx
            exact hxy (Option.some.inj hx).symm)
          clear hx hy hxy
          go_upto_region 6 with fail
          go_quiet (fail)
          have HB2 : Hid (Below w.heap.size w (wr.drewN nq)) := below_drewN HW.out.1 _
          go_wp2
          go_ret
          exact ⟨by rw [HN.out]; rfl, HB2.out⟩
      · have hlt' : ¬ (k : Int) < (N : Int) := by omega
        have HN : Hid (decide (xs = ys) = true) := (show _ = _ by
          have h := HW.out.2
          rw [List.take_of_length_le (by have := H.out.2.2.1; omega), List.take_of_length_le (by have := H.out.2.2.2; omega)] at h
          exact decide_eq_true h)
        go_wp2
        go_ret
        exact ⟨by rw [HN.out]; rfl, HW.out.1⟩
  · have hb0 : ((N : Int) != (M : Int)) = true := by simp; omega
    have HN : Hid (decide (xs = ys) = false) := (show _ = _ by
      apply decide_eq_false
      intro e
      apply hne
      rw [H.out.2.2.1, H.out.2.2.2, e])
    clear hne
    go_wp2
    go_ret
    exact ⟨by rw [HN.out]; rfl, Below.refl _ _⟩

theorem mineR_move19 {W w : World} {r : Nat} {m : Int} {t : Tb.St} {G : Nat → Prop} (h : Mine16 LRb W w r m t G) (hm : m ≤ 2199023255552) (x : ByteArray) (n : Int) (hx : x.size ≤ maxLen) (a : Int) (t' : Tb.St) (he : Tb.move t x n = (a, t')) :
    Calls Tryz.prog 31 #[dptr r, .string x, .int .i64 n] w fun e w' => ∃ G', e = .returned (.int .i64 a) ∧ Mine16 LRb W w' r (m + 1) t' G' ∧ Moved w w' G G' := by
  refine (refMove_any16 r t G m x n w h.ld h.fine hm hx).mono ?_
  have hf := h.fine.move x n
  rw [he] at hf ⊢
  rintro e w' ⟨G', rfl, hl, hv⟩
  exact ⟨G', rfl, h.step hl hf hv, hv⟩
/-- Both tables, apart from each other. -/
abbrev Bt19 (W w : World) (q r : Nat) (m : Int) (s : Tb.St) (F G : Nat → Prop) : Prop := Bo16 LTb LRb W w q r m s s F G
theorem Bt19.more {W w w' : World} {q r : Nat} {m : Int} {s : Tb.St} {F G : Nat → Prop} (h : Bt19 W w q r m s F G) (hb : Below w.heap.size w w') : Bt19 W w' q r m s F G := Bo16.later specs_any19 LRb.lt LRb.keep h hb
/-- It was made since an earlier world. -/
theorem Bt19.since {W w w' : World} {q r : Nat} {m : Int} {s : Tb.St} {F G : Nat → Prop} (hW : Below W.heap.size W w) (h : Bt19 w w' q r m s F G) : Bt19 W w' q r m s F G :=
  ⟨⟨h.one.ld, h.one.fine, fun k hk => Nat.le_trans hW.size (h.one.hi k hk), hW.trans (h.one.below.mono hW.size)⟩, ⟨h.two.ld, h.two.fine, fun k hk => Nat.le_trans hW.size (h.two.hi k hk), hW.trans (h.two.below.mono hW.size)⟩, h.off⟩

theorem Bi.at19 {w : World} {a : Option Addr} {n c : Nat} {zs : List Int} (h : Bi w (.slice a n c) zs) {j : Nat} {z : Int} (hz : zs[j]? = some z) : ∃ g o, a = some ⟨g, o, none⟩ ∧ w.cell? ⟨g, o + j, none⟩ = some (.int .i64 z) := by
  obtain ⟨av, k, c', hv, hk, hc⟩ := h
  simp only [Value.slice.injEq] at hv
  obtain ⟨rfl, rfl, rfl⟩ := hv
  exact hc j z hz
set_option maxRecDepth 20000 in
set_option maxHeartbeats 8000000 in
theorem table_any19 (n : Int) (v : Value) (zs : List Int) (w : World) (hS : Pa.Std w) (hv : Bi w v zs) (hl : zs.length ≤ maxLen) (h1 : 1 ≤ n) (h2 : n ≤ 4) :
    Calls Tryz.prog 9 #[.int .i64 n, v] w fun e w' => ∃ q r F G, e = .returned (.tuple #[dptr q, dptr r]) ∧ Bt19 w w' q r 11 (Pn.tab n zs) F G := by
  obtain ⟨a, N, c, rfl, hN, _⟩ := id hv
  have H : Hid (Bi w (.slice a N c) zs ∧ N = zs.length ∧ Pa.Std w) := ⟨hv, hN, hS⟩
  have hN1 : N ≤ 9223372036854775807 := by unfold maxLen at hl; omega
  have HR : Hid (1 ≤ n ∧ n ≤ 4) := ⟨h1, h2⟩
  clear hv hN hl h1 h2 hS
  go_enter Tryz.func9, Tryz.ntmps9
  go_wp2_with fail
  refine (mine16_new specs_any19 (Below.refl _ w) n HR.out).mono ?_
  rintro e w1 ⟨q, F1, rfl, hM, hF, hb⟩
  have M1 : Hid (Mine16 LTb w w1 q 1 (Tb.new n) F1) := hM
  clear hM hF hb
  go_wp2_with fail
  refine (refNew_any16 n w1).mono ?_
  rintro e w2 ⟨r, G1, rfl, hL, hG, hb⟩
  have B1 : Hid (Bt19 w w2 q r 1 (Tb.new n) F1 G1) := by
    have hs := M1.out.below.size
    refine ⟨M1.out.later specs_any19 hb, ⟨hL, M1.out.fine, fun k hk => by have := hG k hk; omega, M1.out.below.trans (hb.mono hs)⟩, fun k hk e => ?_⟩
    have h1 := LTb.lt M1.out.ld hk
    have h2 := hG k e
    omega
  clear hL hG hb M1
  unfold dptr
  go_wp2
  go_loopw [9] (fun i wx => ∃ (k : Nat) (F G : Nat → Prop), k ≤ min N 5 ∧ i = .int .i64 (k : Int) ∧ Bt19 w wx q r (2 * (k : Int) + 1) (Pn.tabK n zs k) F G) (fun i _ => N - (intOf i).toNat)
  case atStart => exact ⟨0, F1, G1, Nat.zero_le _, rfl, B1.out⟩
  case round =>
    obtain ⟨k, F, G, hk, rfl, hB⟩ := hrel
    have HB : Hid (Bt19 w wr q r (2 * (k : Int) + 1) (Pn.tabK n zs k) F G ∧ k ≤ min N 5) := ⟨hB, hk⟩
    clear hB B1
    by_cases hlt : k < N
    · have hlt' : (k : Int) < (N : Int) := by omega
      by_cases h5 : k < 5
      · have h5' : (k : Int) < 5 := by omega
        have hk0 : (0 : Int) ≤ (k : Int) := by omega
        have hwk : IntKind.wrap .i64 ((k : Int) + 1) = (k : Int) + 1 := by rw [IntKind.wrap_i64]; omega
        obtain ⟨z, hz⟩ : ∃ z, zs[k]? = some z := ⟨zs[k]'(by have := H.out.2.1; omega), List.getElem?_eq_getElem _⟩
        obtain ⟨g, o, rfl, hc⟩ := H.out.1.at19 hz
        have hba := (Below.refl _ wr).alloc (Nat.le_refl _) (.cells #[.string ⟨#[97]⟩, .string ⟨#[98]⟩, .string ⟨#[99]⟩, .string ⟨#[100]⟩, .string ⟨#[101]⟩] 9)
        obtain ⟨lb, hlb⟩ : ∃ z, z = wr.heap.size := ⟨_, rfl⟩
        obtain ⟨nmk, hnm⟩ : ∃ x, x = Pn.nm k := ⟨_, rfl⟩
        have HL : Hid (Bt19 w (wr.alloc (.cells #[.string ⟨#[97]⟩, .string ⟨#[98]⟩, .string ⟨#[99]⟩, .string ⟨#[100]⟩, .string ⟨#[101]⟩] 9)) q r (2 * (k : Int) + 1) (Pn.tabK n zs k) F G) := HB.out.1.more hba
        have hgk : ∀ h : k < [Value.string ⟨#[97]⟩, Value.string ⟨#[98]⟩, Value.string ⟨#[99]⟩, Value.string ⟨#[100]⟩, Value.string ⟨#[101]⟩].length, [Value.string ⟨#[97]⟩, Value.string ⟨#[98]⟩, Value.string ⟨#[99]⟩, Value.string ⟨#[100]⟩, Value.string ⟨#[101]⟩][k] = Value.string nmk := fun h => by
          rw [hnm]
          have h6 : k = 0 ∨ k = 1 ∨ k = 2 ∨ k = 3 ∨ k = 4 := by omega
          rcases h6 with rfl | rfl | rfl | rfl | rfl <;> rfl
        have HGK : Hid (∀ h : k < [Value.string ⟨#[97]⟩, Value.string ⟨#[98]⟩, Value.string ⟨#[99]⟩, Value.string ⟨#[100]⟩, Value.string ⟨#[101]⟩].length, [Value.string ⟨#[97]⟩, Value.string ⟨#[98]⟩, Value.string ⟨#[99]⟩, Value.string ⟨#[100]⟩, Value.string ⟨#[101]⟩][k] = Value.string nmk) := hgk
        clear hgk
        have HCZ : Hid (∀ w', Below w.heap.size w w' → w'.cell? ⟨g, o + k, none⟩ = some (.int .i64 z)) := fun w' hb => Below.kept hb hc
        have c1 : (wr.alloc (.cells #[.string ⟨#[97]⟩, .string ⟨#[98]⟩, .string ⟨#[99]⟩, .string ⟨#[100]⟩, .string ⟨#[101]⟩] 9)).cell? ⟨g, o + k, none⟩ = some (.int .i64 z) := HCZ.out _ HL.out.one.below
        have HT : Hid (Pn.tabK n zs (k + 1) = (Tb.move (Pn.tabK n zs k) nmk z).2 ∧ nmk.size ≤ maxLen) := by
          refine ⟨?_, by rw [hnm]; exact (show 1 ≤ maxLen by decide)⟩
          rw [hnm]
          show (Tb.move (Pn.tabK n zs k) (Pn.nm k) (zs.getD k 0)).2 = _
          rw [List.getD_eq_getElem?_getD, hz]
          rfl
        obtain ⟨R, hR⟩ : ∃ R, R = Tb.move (Pn.tabK n zs k) nmk z := ⟨_, rfl⟩
        have HR2 : Hid (Tb.move (Pn.tabK n zs k) nmk z = (R.1, R.2)) := hR.symm
        clear hz hba hnm hR hc
        go_upto_region 6 with fail
        go_wp2_with fail
        rw [← hlb]
        clear hlb
        simp only [HGK.out]
        generalize (wr.alloc (.cells #[.string ⟨#[97]⟩, .string ⟨#[98]⟩, .string ⟨#[99]⟩, .string ⟨#[100]⟩, .string ⟨#[101]⟩] 9)) = w3 at *
        refine (HL.out.one.move specs_any19 H.out.2.2 (by omega) nmk z HT.out.2 R.1 R.2 HR2.out).mono ?_
        rintro e w4 ⟨F4, rfl, hM, hv⟩
        have HB4 : Hid (Bo16 LTb LRb w w4 q r (2 * (k : Int) + 1 + 1) R.2 (Pn.tabK n zs k) F4 G) := HL.out.first LRb.lt LRb.keep hM hv (by omega)
        have c2 : w4.cell? ⟨g, o + k, none⟩ = some (.int .i64 z) := HCZ.out _ hM.below
        clear hM hv c1
        go_wp2_with fail
        refine (mineR_move19 HB4.out.two (by omega) nmk z HT.out.2 R.1 R.2 HR2.out).mono ?_
        rintro e w5 ⟨G5, rfl, hM, hv⟩
        have hb5 : Bt19 w w5 q r (2 * ((k + 1 : Nat) : Int) + 1) (Pn.tabK n zs (k + 1)) F4 G5 := by
          have h := HB4.out.second specs_any19 hM hv (by omega)
          have e1 : Pn.tabK n zs (k + 1) = R.2 := by rw [HT.out.1, HR2.out]
          have e2 : 2 * ((k + 1 : Nat) : Int) + 1 = 2 * (k : Int) + 1 + 1 + 1 := by omega
          rw [e1, e2]
          exact h
        have HB5 : Hid (Bt19 w w5 q r (2 * ((k + 1 : Nat) : Int) + 1) (Pn.tabK n zs (k + 1)) F4 G5) := hb5
        clear hM hv c2 hb5
        go_wp2
        go_roundw
        case rel => exact ⟨k + 1, F4, G5, by omega, by go_num, HB5.out⟩
        case measure => simp [intOf]; omega
      · have h5' : ¬ (k : Int) < 5 := by omega
        have hE : Bt19 w wr q r 11 (Pn.tab n zs) F G := by
          have e : min zs.length 5 = k := by have := H.out.2.1; omega
          unfold Pn.tab
          rw [e]
          exact Bo16.mono HB.out.1 (by omega)
        have HE : Hid (Bt19 w wr q r 11 (Pn.tab n zs) F G) := hE
        clear hE
        go_wp2
        go_ret2
        exact ⟨q, r, rfl, F, G, HE.out⟩
    · have hlt' : ¬ (k : Int) < (N : Int) := by omega
      have hE : Bt19 w wr q r 11 (Pn.tab n zs) F G := by
        have e : min zs.length 5 = k := by have := H.out.2.1; omega
        unfold Pn.tab
        rw [e]
        exact Bo16.mono HB.out.1 (by omega)
      have HE : Hid (Bt19 w wr q r 11 (Pn.tab n zs) F G) := hE
      clear hE
      go_wp2
      go_ret2
      exact ⟨q, r, rfl, F, G, HE.out⟩
end Go.Proofs.YtjimemnkmpapgaaGreatDoor
namespace Go.Proofs.YtjimemnkmpapgaaGreatDoor
open Go.RowKit

def oa19 : O := ⟨1, ⟨#[47, 97]⟩, ⟨#[]⟩, 0, 0⟩
def ob19 : O := ⟨1, ⟨#[47, 98]⟩, ⟨#[]⟩, 0, 0⟩
theorem fitA19 : ∀ o ∈ [oa19, ob19], Fit o := fun o ho => by
  simp only [List.mem_cons, List.not_mem_nil, or_false] at ho
  rcases ho with rfl | rfl <;> exact ⟨by decide, by decide, by decide, by decide, by decide⟩
def awk19 : Pn.St := ⟨1, 1, [oa19, ob19], [0, 1], [[0], [1]]⟩
theorem awk_of19 : Pn.of (Pn.tab 2 [0, 1]) 1 1 [oa19, ob19] = awk19 := by kernel_rfl
theorem awk_ok19 : Pn.Ok awk19 := ⟨rfl, by decide, by decide, by decide, by decide, by decide, by decide⟩
theorem awk_ver19 : Pn.verdict awk19 [⟨0, -1⟩, ⟨4, 0⟩] = (4, 1) := by kernel_rfl
theorem awk_may19 : Oq.may 1 1 [oa19, ob19] = 0 := by kernel_rfl
/-- Numbers in a block of their own. -/
theorem KI.cb {w : World} {sb : Nat} {zs : List Int} {t : TypeId} (h : Cb w sb (KI.cs zs) t) : KI.At w (.slice (some ⟨sb, 0, none⟩) zs.length zs.length) zs := by
  refine ⟨_, _, _, rfl, rfl, fun e => (by cases e), fun j z hz => ⟨sb, 0, rfl, fun i u hu => ?_⟩⟩
  rw [Nat.zero_add, h.cell]
  exact KI.ok.cs_cell zs j z i u hz hu
theorem KV.cb {w : World} {sb : Nat} {zs : List Pn.V} {t : TypeId} (h : Cb w sb (KV.cs zs) t) : KV.At w (.slice (some ⟨sb, 0, none⟩) zs.length zs.length) zs := by
  refine ⟨_, _, _, rfl, rfl, fun e => (by cases e), fun j z hz => ⟨sb, 0, rfl, fun i u hu => ?_⟩⟩
  rw [Nat.zero_add, h.cell]
  exact KV.ok.cs_cell zs j z i u hz hu
theorem Ol.cb19 {w : World} {sb : Nat} {os : List O} {t : TypeId} (h : Cb w sb (KO.cs os) t) : Ol w (.slice (some ⟨sb, 0, none⟩) os.length os.length) os := by
  refine ⟨_, _, _, rfl, rfl, Nat.le_refl _, fun e => (by cases e), fun j z hz => ⟨sb, 0, rfl, fun i u hu => ?_⟩⟩
  rw [Nat.zero_add, h.cell]
  exact KO.ok.cs_cell os j z i u hz hu
set_option maxRecDepth 20000 in
set_option maxHeartbeats 8000000 in
theorem awake_any19 (W : World) (hS : Pa.Std W) : Calls Tryz.prog 8 #[] W fun e w' => e = .returned (.bool true) ∧ Below W.heap.size W w' := by
  have H0 : Hid (Below W.heap.size W (W.alloc (.cells #[.int .i64 0, .int .i64 1] 3)) ∧ KI.At (W.alloc (.cells #[.int .i64 0, .int .i64 1] 3)) (.slice (some ⟨W.heap.size, 0, none⟩) 2 2) [0, 1] ∧ Pa.Std (W.alloc (.cells #[.int .i64 0, .int .i64 1] 3))) := by
    have hb := (Below.refl _ W).alloc (Nat.le_refl _) (.cells #[.int .i64 0, .int .i64 1] 3)
    exact ⟨hb, KI.cb (zs := [0, 1]) (Cb.made W (KI.cs [0, 1]) _), hS.below hb⟩
  clear hS
  go_enter Tryz.func8, Tryz.ntmps8
  go_wp2_with fail
  generalize (W.alloc (.cells #[.int .i64 0, .int .i64 1] 3)) = w0 at *
  refine (table_any19 2 _ [0, 1] w0 H0.out.2.2 (KI.bi H0.out.2.1) (by decide) (by decide) (by decide)).mono ?_
  rintro e w1 ⟨q, r, F, G, rfl, hB⟩
  have B1 : Hid (Below W.heap.size W w1 ∧ Mine16 LTb w0 w1 q 11 (Pn.tab 2 [0, 1]) F ∧ Pa.Std w1) := ⟨H0.out.1.trans (hB.one.below.mono H0.out.1.size), hB.one, H0.out.2.2.below hB.one.below⟩
  clear hB
  obtain ⟨lb, hlb⟩ : ∃ z, z = w1.heap.size := ⟨_, rfl⟩
  have H2 : Hid (Below W.heap.size W (w1.alloc (.cells #[.int .i64 1, .string ⟨#[47, 97]⟩, .string ⟨#[]⟩, .int .i64 0, .int .i64 0, .int .i64 1, .string ⟨#[47, 98]⟩, .string ⟨#[]⟩, .int .i64 0, .int .i64 0] 38)) ∧ Mine16 LTb w0 (w1.alloc (.cells #[.int .i64 1, .string ⟨#[47, 97]⟩, .string ⟨#[]⟩, .int .i64 0, .int .i64 0, .int .i64 1, .string ⟨#[47, 98]⟩, .string ⟨#[]⟩, .int .i64 0, .int .i64 0] 38)) q 11 (Pn.tab 2 [0, 1]) F ∧ Pa.Std (w1.alloc (.cells #[.int .i64 1, .string ⟨#[47, 97]⟩, .string ⟨#[]⟩, .int .i64 0, .int .i64 0, .int .i64 1, .string ⟨#[47, 98]⟩, .string ⟨#[]⟩, .int .i64 0, .int .i64 0] 38)) ∧ Ol (w1.alloc (.cells #[.int .i64 1, .string ⟨#[47, 97]⟩, .string ⟨#[]⟩, .int .i64 0, .int .i64 0, .int .i64 1, .string ⟨#[47, 98]⟩, .string ⟨#[]⟩, .int .i64 0, .int .i64 0] 38)) (.slice (some ⟨lb, 0, none⟩) 2 2) [oa19, ob19]) := by
    have hb := (Below.refl _ w1).alloc (Nat.le_refl _) (.cells #[.int .i64 1, .string ⟨#[47, 97]⟩, .string ⟨#[]⟩, .int .i64 0, .int .i64 0, .int .i64 1, .string ⟨#[47, 98]⟩, .string ⟨#[]⟩, .int .i64 0, .int .i64 0] 38)
    rw [hlb]
    exact ⟨B1.out.1.trans (hb.mono B1.out.1.size), B1.out.2.1.later specs_any19 hb, B1.out.2.2.below hb, Ol.cb19 (os := [oa19, ob19]) (Cb.made w1 (KO.cs [oa19, ob19]) _)⟩
  unfold dptr
  go_wp2_with fail
  rw [← hlb]
  clear hlb B1
  generalize (w1.alloc (.cells #[.int .i64 1, .string ⟨#[47, 97]⟩, .string ⟨#[]⟩, .int .i64 0, .int .i64 0, .int .i64 1, .string ⟨#[47, 98]⟩, .string ⟨#[]⟩, .int .i64 0, .int .i64 0] 38)) = w2 at *
  refine (make_any19 q (Pn.tab 2 [0, 1]) F 11 1 1 _ [oa19, ob19] w2 H2.out.2.1.ld H2.out.2.1.fine H2.out.2.2.1 H2.out.2.2.2 (by decide) fitA19).mono ?_
  rintro e w3 ⟨hb, _, hok⟩
  obtain ⟨pu, pa, pbv, rfl, hpv⟩ := hok awk_may19
  rw [awk_of19] at hpv ⊢
  have H3 : Hid (Below W.heap.size W w3 ∧ Pv w3 awk19 pu pa pbv) := ⟨H2.out.1.trans (hb.mono H2.out.1.size), hpv⟩
  obtain ⟨⟨ux, uc, rfl⟩, ⟨ax, ac, rfl⟩, ⟨bx, bc, rfl⟩⟩ := hpv.forms
  clear hb hok hpv H2 H0
  obtain ⟨pb, hpb⟩ : ∃ z, z = w3.heap.size := ⟨_, rfl⟩
  obtain ⟨vb, hvb⟩ : ∃ z, z = w3.heap.size + 1 := ⟨_, rfl⟩
  have H4 : Hid (Below W.heap.size W ((w3.alloc (.cells #[.int .i64 awk19.s, .int .i64 awk19.n, .slice ux awk19.os.length uc, .slice ax awk19.sh.length ac, .slice bx awk19.pl.length bc] 33)).alloc (.cells #[.int .i64 0, .int .i64 (-1), .int .i64 4, .int .i64 0] 42)) ∧ Pv ((w3.alloc (.cells #[.int .i64 awk19.s, .int .i64 awk19.n, .slice ux awk19.os.length uc, .slice ax awk19.sh.length ac, .slice bx awk19.pl.length bc] 33)).alloc (.cells #[.int .i64 0, .int .i64 (-1), .int .i64 4, .int .i64 0] 42)) awk19 (.slice ux awk19.os.length uc) (.slice ax awk19.sh.length ac) (.slice bx awk19.pl.length bc) ∧ Cb ((w3.alloc (.cells #[.int .i64 awk19.s, .int .i64 awk19.n, .slice ux awk19.os.length uc, .slice ax awk19.sh.length ac, .slice bx awk19.pl.length bc] 33)).alloc (.cells #[.int .i64 0, .int .i64 (-1), .int .i64 4, .int .i64 0] 42)) pb [.int .i64 awk19.s, .int .i64 awk19.n, .slice ux awk19.os.length uc, .slice ax awk19.sh.length ac, .slice bx awk19.pl.length bc] 33 ∧ KV.At ((w3.alloc (.cells #[.int .i64 awk19.s, .int .i64 awk19.n, .slice ux awk19.os.length uc, .slice ax awk19.sh.length ac, .slice bx awk19.pl.length bc] 33)).alloc (.cells #[.int .i64 0, .int .i64 (-1), .int .i64 4, .int .i64 0] 42)) (.slice (some ⟨vb, 0, none⟩) 2 2) [⟨0, -1⟩, ⟨4, 0⟩]) := by
    have h1 := (Below.refl _ w3).alloc (Nat.le_refl _) (.cells #[.int .i64 awk19.s, .int .i64 awk19.n, .slice ux awk19.os.length uc, .slice ax awk19.sh.length ac, .slice bx awk19.pl.length bc] 33)
    have h2 := (Below.refl _ (w3.alloc (.cells #[.int .i64 awk19.s, .int .i64 awk19.n, .slice ux awk19.os.length uc, .slice ax awk19.sh.length ac, .slice bx awk19.pl.length bc] 33))).alloc (Nat.le_refl _) (.cells #[.int .i64 0, .int .i64 (-1), .int .i64 4, .int .i64 0] 42)
    have h12 := h1.trans (h2.mono h1.size)
    have h3 := KV.cb (zs := [⟨0, -1⟩, ⟨4, 0⟩]) (Cb.made (w3.alloc (.cells #[.int .i64 awk19.s, .int .i64 awk19.n, .slice ux awk19.os.length uc, .slice ax awk19.sh.length ac, .slice bx awk19.pl.length bc] 33)) (KV.cs [⟨0, -1⟩, ⟨4, 0⟩]) 42)
    rw [World.size_alloc] at h3
    rw [hpb, hvb]
    exact ⟨H3.out.1.trans (h12.mono H3.out.1.size), H3.out.2.below h12, (Cb.made w3 [.int .i64 awk19.s, .int .i64 awk19.n, .slice ux awk19.os.length uc, .slice ax awk19.sh.length ac, .slice bx awk19.pl.length bc] _).below h2, h3⟩
  unfold pv
  go_wp2_with fail
  rw [← hvb, ← hpb]
  clear hvb hpb
  generalize ((w3.alloc (.cells #[.int .i64 awk19.s, .int .i64 awk19.n, .slice ux awk19.os.length uc, .slice ax awk19.sh.length ac, .slice bx awk19.pl.length bc] 33)).alloc (.cells #[.int .i64 0, .int .i64 (-1), .int .i64 4, .int .i64 0] 42)) = w4 at *
  refine (verdict_any19 awk19 _ _ _ _ [⟨0, -1⟩, ⟨4, 0⟩] w4 H4.out.2.1 awk_ok19 H4.out.2.2.2 (by decide)).mono ?_
  rintro e w5 ⟨rfl, hb⟩
  rw [awk_ver19]
  have H5 : Hid (Below W.heap.size W w5 ∧ Pv w5 awk19 (.slice ux awk19.os.length uc) (.slice ax awk19.sh.length ac) (.slice bx awk19.pl.length bc) ∧ Cb w5 pb [.int .i64 awk19.s, .int .i64 awk19.n, .slice ux awk19.os.length uc, .slice ax awk19.sh.length ac, .slice bx awk19.pl.length bc] 33) := ⟨H4.out.1.trans (hb.mono H4.out.1.size), H4.out.2.1.below hb, H4.out.2.2.1.below hb⟩
  clear hb H4 H3
  have p3 : w5.cell? ⟨pb, 3, none⟩ = some (.slice ax awk19.sh.length ac) := H5.out.2.2.cell 3
  obtain ⟨nb, hnb⟩ : ∃ z, z = w5.heap.size := ⟨_, rfl⟩
  have H6 : Hid (Below W.heap.size W (w5.alloc (.cells #[.int .i64 0, .int .i64 1] 3)) ∧ Pv (w5.alloc (.cells #[.int .i64 0, .int .i64 1] 3)) awk19 (.slice ux awk19.os.length uc) (.slice ax awk19.sh.length ac) (.slice bx awk19.pl.length bc) ∧ Cb (w5.alloc (.cells #[.int .i64 0, .int .i64 1] 3)) pb [.int .i64 awk19.s, .int .i64 awk19.n, .slice ux awk19.os.length uc, .slice ax awk19.sh.length ac, .slice bx awk19.pl.length bc] 33 ∧ KI.At (w5.alloc (.cells #[.int .i64 0, .int .i64 1] 3)) (.slice (some ⟨nb, 0, none⟩) 2 2) [0, 1]) := by
    have h1 := (Below.refl _ w5).alloc (Nat.le_refl _) (.cells #[.int .i64 0, .int .i64 1] 3)
    rw [hnb]
    exact ⟨H5.out.1.trans (h1.mono H5.out.1.size), H5.out.2.1.below h1, H5.out.2.2.below h1, KI.cb (zs := [0, 1]) (Cb.made w5 (KI.cs [0, 1]) _)⟩
  go_wp2_with fail
  rw [← hnb]
  clear hnb p3 H5
  generalize (w5.alloc (.cells #[.int .i64 0, .int .i64 1] 3)) = w6 at *
  refine (same_any19 _ _ awk19.sh [0, 1] w6 H6.out.2.1.sh H6.out.2.2.2 (by decide)).mono ?_
  rintro e w7 ⟨rfl, hb⟩
  rw [show decide (awk19.sh = [0, 1]) = true from by decide]
  have H7 : Hid (Below W.heap.size W w7 ∧ Pv w7 awk19 (.slice ux awk19.os.length uc) (.slice ax awk19.sh.length ac) (.slice bx awk19.pl.length bc) ∧ Cb w7 pb [.int .i64 awk19.s, .int .i64 awk19.n, .slice ux awk19.os.length uc, .slice ax awk19.sh.length ac, .slice bx awk19.pl.length bc] 33) := ⟨H6.out.1.trans (hb.mono H6.out.1.size), H6.out.2.1.below hb, H6.out.2.2.1.below hb⟩
  clear hb H6
  have p0 : w7.cell? ⟨pb, 0, none⟩ = some (.int .i64 awk19.s) := H7.out.2.2.cell 0
  have p1 : w7.cell? ⟨pb, 1, none⟩ = some (.int .i64 awk19.n) := H7.out.2.2.cell 1
  have p2 : w7.cell? ⟨pb, 2, none⟩ = some (.slice ux awk19.os.length uc) := H7.out.2.2.cell 2
  have p3 : w7.cell? ⟨pb, 3, none⟩ = some (.slice ax awk19.sh.length ac) := H7.out.2.2.cell 3
  have p4 : w7.cell? ⟨pb, 4, none⟩ = some (.slice bx awk19.pl.length bc) := H7.out.2.2.cell 4
  go_wp2_with fail
  refine (local_any19 awk19 _ _ _ w7 H7.out.2.1).mono ?_
  rintro e w8 ⟨rfl, hb⟩
  rw [show decide (awk19.sh.length = 1) = false from by decide]
  have H8 : Hid (Below W.heap.size W w8 ∧ Pv w8 awk19 (.slice ux awk19.os.length uc) (.slice ax awk19.sh.length ac) (.slice bx awk19.pl.length bc) ∧ Cb w8 pb [.int .i64 awk19.s, .int .i64 awk19.n, .slice ux awk19.os.length uc, .slice ax awk19.sh.length ac, .slice bx awk19.pl.length bc] 33) := ⟨H7.out.1.trans (hb.mono H7.out.1.size), H7.out.2.1.below hb, H7.out.2.2.below hb⟩
  clear hb H7 p0 p1 p2 p3 p4
  have p0 : w8.cell? ⟨pb, 0, none⟩ = some (.int .i64 awk19.s) := H8.out.2.2.cell 0
  have p1 : w8.cell? ⟨pb, 1, none⟩ = some (.int .i64 awk19.n) := H8.out.2.2.cell 1
  have p2 : w8.cell? ⟨pb, 2, none⟩ = some (.slice ux awk19.os.length uc) := H8.out.2.2.cell 2
  have p3 : w8.cell? ⟨pb, 3, none⟩ = some (.slice ax awk19.sh.length ac) := H8.out.2.2.cell 3
  have p4 : w8.cell? ⟨pb, 4, none⟩ = some (.slice bx awk19.pl.length bc) := H8.out.2.2.cell 4
  go_wp2_with fail
  refine (first_any19 awk19 _ _ _ w8 H8.out.2.1).mono ?_
  rintro e w9 ⟨rfl, hb⟩
  rw [show Pn.first awk19 = 0 from rfl]
  have H9 : Hid (Below W.heap.size W w9) := H8.out.1.trans (hb.mono H8.out.1.size)
  clear hb H8 p0 p1 p2 p3 p4
  go_wp2
  go_ret
  exact ⟨rfl, H9.out⟩
end Go.Proofs.YtjimemnkmpapgaaGreatDoor
