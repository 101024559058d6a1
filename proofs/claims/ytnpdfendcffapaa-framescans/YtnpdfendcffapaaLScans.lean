/- The walk of the statement FrameScans, over what Put and Scan answer: it answers true. -/
import Derived.Test.YtnpdfendcffapaaLOn
import Derived.Test.YtnpdfendcffapaaRScan
import Derived.Test.YtnpdfendcffapaaWScan
import Derived.Deep.DeepCutAuto
import Derived.Deep.RegionHeld3
namespace Go.Proofs.Ytnpdfendcffapaa
open Go.RowKit

/-- An operation that yields its value in every world that meets S is taken first; its slot is named. -/
theorem take_at {P : Program} {ops : Array Oper} {Q : Exit → Act → World → Prop} {md : Region.Mode} {S : World → Prop} {i : Nat} {oi : Oper} {d : Nat} {v : Value} {fuel : Nat} {listed : Array Bool} {tmps : Array Value} {ds : List _} {w : World} (hi : ops[i]? = some oi) (hd : oi.dst = some d)
    (hs : Region.noSelect ops = true) (hf : Region.free md ops listed i = true) (hr : (Region.ready md ops listed).contains i = true)
    (hQ : ∀ c a w, Q (.panic c) (a.put oi.dst v) w → Q (.panic c) a w) (hy : YieldsIf P ops S oi v { tmps := tmps, defers := ds }) (hS : S w)
    (h : wpAnyH P md ops Q S fuel (listed.setIfInBounds i true) { tmps := tmps.setIfInBounds d v, defers := ds } w) : wpAnyH P md ops Q S (fuel + 1) listed { tmps := tmps, defers := ds } w := by
  refine wpAnyH_take hi hs hf hr hQ hy hS ?_
  rw [hd]
  exact h

theorem scanN_count (f : Nat) : ∀ b : List UInt8, (Fr.scanN f b).1.length ≤ b.length := by
  induction f with
  | zero => intro b; simp [Fr.scanN]
  | succ f ih =>
    intro b
    unfold Fr.scanN
    by_cases hb : b = []
    · rw [if_pos hb]; simp
    · rw [if_neg hb]
      cases h : Fr.one b with
      | error e => simp
      | ok r =>
        have h1 := one_len h
        have h2 := ih (b.drop (12 + r.length))
        rw [List.length_drop] at h2
        simp only [List.length_cons]
        omega

theorem scan_count (b : List UInt8) : (Fr.scan b).1.length ≤ b.length := scanN_count _ b

set_option maxRecDepth 20000 in
set_option maxHeartbeats 4000000 in
theorem scans_few (hp : PutSpec) (hs : ScanSpec) (vb vl : Value) (bs : List UInt8) (ls : List (List UInt8)) (z1 z2 : Int) (y : UInt8) (w : World) (hvb : Bs w vb bs) (hvl : Bl w vl ls) (hbl : bs.length ≤ 400) (hl : ls.length ≤ 12) (hL : ∀ r ∈ ls, r.length ≤ maxLen) :
    Calls Try.prog 4 #[vb, vl, .int .i64 z1, .int .u8 (y.toNat : Int), .int .i64 z2] w fun e w' => e = .returned (.bool true) ∧ Below w.heap.size w w' := by
  have HP : Hid PutSpec := hp
  have HSc : Hid ScanSpec := hs
  have HVB : Hid (Bs w vb bs ∧ bs.length ≤ 400) := ⟨hvb, hbl⟩
  have HVL : Hid (Bl w vl ls) := hvl
  have HLM : Hid (∀ r ∈ ls, r.length ≤ 9223372036854775807) := hL
  obtain ⟨ab, nb, cb, rfl, hnb, hq0⟩ := hvb
  obtain ⟨al, n, cl, rfl, hn, hq1⟩ := hvl
  have HN : Hid (n = ls.length ∧ ls.length ≤ 12) := ⟨hn, hl⟩
  have t0 : ¬ (400 : Int) < (nb : Int) := by omega
  have t1 : ¬ (12 : Int) < (n : Int) := by omega
  clear hp hs hn hl hL hq1 hq0 hnb hbl
  go_enter Try.func4, Try.ntmps4
  go_wp2_with fail
  refine (awake_any HP.out HSc.out _).mono ?_
  rintro e w1 ⟨rfl, hb⟩
  have HB1 : Hid (Below w.heap.size w w1) := hb
  clear hb
  go_wp2
  go_loopw [11, 12] (fun f i wr => ∃ k T : Nat, k ≤ n ∧ i = .int .i64 (k : Int) ∧ T = (Fr.frames (ls.take k)).length ∧ wr.ownsRow w.heap.size 5 1 f T (bc (Fr.frames (ls.take k))) ∧ (∀ r ∈ ls.take k, r.length ≤ 200) ∧ Below w.heap.size w wr) (fun _ i _ => ((n : Int) - intOf i).toNat)
  case atStart => exact ⟨0, 0, Nat.zero_le _, rfl, rfl, World.ownsRow_nil _ _ _ _, fun r hr => by simp at hr, HB1.out⟩
  case round =>
    obtain ⟨k, T, hk, rfl, hT, hf, hsm, hb⟩ := hrel
    have HFS : Hid (wr.ownsRow w.heap.size 5 1 u11 T (bc (Fr.frames (ls.take k))) ∧ (∀ r ∈ ls.take k, r.length ≤ 200) ∧ T = (Fr.frames (ls.take k)).length) := ⟨hf, hsm, hT⟩
    have hT1 : T ≤ 3000 := by rw [hT]; exact frames_small HN.out.2 hsm
    have HB2 : Hid (Below w.heap.size w wr) := hb
    obtain ⟨af, cf, rfl⟩ := own_shape hf
    clear hf hsm hT
    by_cases hlt : k < n
    · have hlt' : (k : Int) < (n : Int) := by omega
      have hkl : k < ls.length := by rw [← HN.out.1]; exact hlt
      obtain ⟨g, o, c, hv, hc⟩ := (HVL.out.below hb).at (by omega)
      simp only [Value.slice.injEq] at hv
      obtain ⟨rfl, hx1, rfl⟩ := hv
      obtain ⟨u, hu, hbu⟩ := hc k ls[k] (List.getElem?_eq_getElem hkl)
      have HK : Hid (ls[k]? = some ls[k] ∧ ls[k].length ≤ 9223372036854775807) := ⟨List.getElem?_eq_getElem hkl, HLM.out _ (List.getElem_mem hkl)⟩
      generalize ls[k] = r at *
      have HU : Hid (Bs wr u r) := hbu
      obtain ⟨ao, nr, cr, rfl, hnr, hq⟩ := hbu
      have HNR : Hid (nr = r.length) := hnr
      clear hc hx1 hnr hq hkl
      by_cases hbig : 200 < nr
      · have hbig' : (200 : Int) < (nr : Int) := by omega
        clear hb
        go_wp2
        go_ret
        exact ⟨rfl, HB2.out⟩
      · have hbig' : ¬ (200 : Int) < (nr : Int) := by omega
        have HU2 : Hid (wr.cell? ⟨g, o + k, none⟩ = some (.slice ao nr cr)) := hu
        clear hb
        go_wp2_with fail
        refine (HP.out _ _ _ r _ (Bs.own HFS.out.1) HU.out (by have := HFS.out.2.2; omega) (by have := HNR.out; omega)).mono ?_
        rintro e w3 ⟨v3, rfl, ho, hb⟩
        obtain ⟨T3, hT3⟩ : ∃ T3, T3 = (Fr.frames (ls.take (k + 1))).length := ⟨_, rfl⟩
        have hsm3 := small_take HK.out.1 (by have := HNR.out; omega) HFS.out.2.1
        have HO3 : Hid (w3.ownsRow w.heap.size 5 1 v3 T3 (bc (Fr.frames (ls.take (k + 1)))) ∧ (∀ r ∈ ls.take (k + 1), r.length ≤ 200) ∧ T3 = (Fr.frames (ls.take (k + 1))).length) := by
          refine ⟨?_, hsm3, hT3⟩
          have h := ho.mono HB2.out.size
          rw [← frames_take HK.out.1] at h
          have e : (Fr.frames (ls.take k)).length + (12 + r.length) = T3 := by rw [hT3, frames_take HK.out.1, List.length_append, Fr.frame_len]
          rw [e] at h
          exact h
        have HB3 : Hid (Below w.heap.size w w3) := HB2.out.trans (hb.mono HB2.out.size)
        have HU3 : Hid (Bs w3 (.slice ao nr cr) r) := HU.out.below hb
        have HF3 : Hid (Bs w3 (.slice af T cf) (Fr.frames (ls.take k))) := (Bs.own HFS.out.1).below hb
        have hu3 : w3.cell? ⟨g, o + k, none⟩ = some (.slice ao nr cr) := Below.kept hb HU2.out
        obtain ⟨X, hX⟩ : ∃ X : ByteArray, X = ⟨(Fr.frames (ls.take (k + 1))).toArray⟩ := ⟨_, rfl⟩
        obtain ⟨Y, hY⟩ : ∃ Y : ByteArray, Y = ⟨(Fr.frames (ls.take k)).toArray⟩ := ⟨_, rfl⟩
        obtain ⟨Z, hZ⟩ : ∃ Z : ByteArray, Z = ⟨(Fr.frame r).toArray⟩ := ⟨_, rfl⟩
        have HXY : Hid (X = ⟨(Fr.frames (ls.take (k + 1))).toArray⟩ ∧ Y = ⟨(Fr.frames (ls.take k)).toArray⟩ ∧ Z = ⟨(Fr.frame r).toArray⟩) := ⟨hX, hY, hZ⟩
        have hXY : X = Y ++ Z := by
          rw [hX, hY, hZ, frames_take HK.out.1]
          apply ByteArray.ext
          rw [ByteArray.data_append]
          simp
        clear ho hb hT3 hsm3 hX hY hZ hu
        obtain ⟨a3, c3, rfl⟩ := own_shape HO3.out.1
        have hsz : ¬ 9223372036854775807 < Y.size + Z.size := by
          have h1 : Y.size = (Fr.frames (ls.take k)).length := by rw [HXY.out.2.1]; simp [ByteArray.size]
          have h2 : Z.size = (Fr.frame r).length := by rw [HXY.out.2.2]; simp [ByteArray.size]
          rw [h1, h2, Fr.frame_len, ← HFS.out.2.2]
          have := HNR.out
          omega
        have hd : (X.toList == (Y ++ Z).toList) = true := by rw [hXY]; simp
        have hcx0 : (convert 23 9 (.slice a3 T3 c3)).run Try.prog w3.drew = .ok (.string X) w3.drew := by rw [HXY.out.1]; exact (Bs.own HO3.out.1.drew).conv
        have hcy0 : (convert 23 9 (.slice af T cf)).run Try.prog w3.drew = .ok (.string Y) w3.drew := by rw [HXY.out.2.1]; exact (HF3.out.below (Below.refl _ w3).drew).conv
        have hu0 : w3.drew.cell? ⟨g, o + k, none⟩ = some (.slice ao nr cr) := hu3
        go_wp2
        refine wp_region_held_drew (S := fun w' => (convert 23 9 (.slice a3 T3 c3)).run Try.prog w' = .ok (.string X) w' ∧ (convert 23 9 (.slice af T cf)).run Try.prog w' = .ok (.string Y) w' ∧ w'.cell? ⟨g, o + k, none⟩ = some (.slice ao nr cr)) (by kernel_rfl) ⟨hcx0, hcy0, hu0⟩ (fun hHeld => ?_)
        refine' take_at (i := 0) (d := 54) (v := _) rfl rfl (by kernel_rfl) (by kernel_rfl) (by kernel_rfl) (fun _ _ _ h => h) (Or.inl ⟨by rfl, ?h0⟩) (by assumption) ?_
        case h0 => intro w hSw; (try dsimp only at hSw); go_simp; with_reducible rfl
        simp only [List.setIfInBounds_toArray, List.set_cons_zero, List.set_cons_succ]
        refine' take_at (i := 1) (d := 55) (v := _) rfl rfl (by kernel_rfl) (by kernel_rfl) (by kernel_rfl) (fun _ _ _ h => h) (Or.inl ⟨by rfl, ?h1⟩) (by assumption) ?_
        case h1 => intro w hSw; (try dsimp only at hSw); go_simp; with_reducible rfl
        simp only [List.setIfInBounds_toArray, List.set_cons_zero, List.set_cons_succ]
        refine' take_at (i := 2) (d := 56) (v := _) rfl rfl (by kernel_rfl) (by kernel_rfl) (by kernel_rfl) (fun _ _ _ h => h) (Or.inl ⟨by rfl, ?h2⟩) (by assumption) ?_
        case h2 => intro w hSw; (try dsimp only at hSw); go_simp; with_reducible rfl
        simp only [List.setIfInBounds_toArray, List.set_cons_zero, List.set_cons_succ]
        refine' take_at (i := 3) (d := 57) (v := _) rfl rfl (by kernel_rfl) (by kernel_rfl) (by kernel_rfl) (fun _ _ _ h => h) (Or.inl ⟨by rfl, ?h3⟩) (by assumption) ?_
        case h3 => intro w hSw; (try dsimp only at hSw); go_simp; with_reducible rfl
        simp only [List.setIfInBounds_toArray, List.set_cons_zero, List.set_cons_succ]
        refine' take_at (i := 4) (d := 58) (v := _) rfl rfl (by kernel_rfl) (by kernel_rfl) (by kernel_rfl) (fun _ _ _ h => h) (Or.inl ⟨by rfl, ?h4⟩) (by assumption) ?_
        case h4 => intro w hSw; (try dsimp only at hSw); go_simp; with_reducible rfl
        simp only [List.setIfInBounds_toArray, List.set_cons_zero, List.set_cons_succ]
        refine' take_at (i := 5) (d := 59) (v := _) rfl rfl (by kernel_rfl) (by kernel_rfl) (by kernel_rfl) (fun _ _ _ h => h) (Or.inl ⟨by rfl, ?h5⟩) (by assumption) ?_
        case h5 => intro w hSw; (try dsimp only at hSw); go_simp; with_reducible rfl
        simp only [List.setIfInBounds_toArray, List.set_cons_zero, List.set_cons_succ]
        refine' take_at (i := 6) (d := 60) (v := _) rfl rfl (by kernel_rfl) (by kernel_rfl) (by kernel_rfl) (fun _ _ _ h => h) (Or.inl ⟨by rfl, ?h6⟩) (by assumption) ?_
        case h6 => intro w hSw; (try dsimp only at hSw); go_simp; with_reducible rfl
        simp only [List.setIfInBounds_toArray, List.set_cons_zero, List.set_cons_succ]
        refine' take_at (i := 7) (d := 61) (v := _) rfl rfl (by kernel_rfl) (by kernel_rfl) (by kernel_rfl) (fun _ _ _ h => h) (Or.inl ⟨by rfl, ?h7⟩) (by assumption) ?_
        case h7 => intro w hSw; (try dsimp only at hSw); go_simp; with_reducible rfl
        simp only [List.setIfInBounds_toArray, List.set_cons_zero, List.set_cons_succ]
        refine' take_at (i := 8) (d := 62) (v := _) rfl rfl (by kernel_rfl) (by kernel_rfl) (by kernel_rfl) (fun _ _ _ h => h) (Or.inl ⟨by rfl, ?h8⟩) (by assumption) ?_
        case h8 => intro w hSw; (try dsimp only at hSw); go_simp; with_reducible rfl
        simp only [List.setIfInBounds_toArray, List.set_cons_zero, List.set_cons_succ]
        refine' take_at (i := 9) (d := 63) (v := _) rfl rfl (by kernel_rfl) (by kernel_rfl) (by kernel_rfl) (fun _ _ _ h => h) (Or.inl ⟨by rfl, ?h9⟩) (by assumption) ?_
        case h9 => intro w hSw; (try dsimp only at hSw); go_simp; with_reducible rfl
        simp only [List.setIfInBounds_toArray, List.set_cons_zero, List.set_cons_succ]
        refine' take_at (i := 10) (d := 64) (v := _) rfl rfl (by kernel_rfl) (by kernel_rfl) (by kernel_rfl) (fun _ _ _ h => h) (Or.inl ⟨by rfl, ?h10⟩) (by assumption) ?_
        case h10 => intro w hSw; (try dsimp only at hSw); go_simp; with_reducible rfl
        simp only [List.setIfInBounds_toArray, List.set_cons_zero, List.set_cons_succ]
        refine wpAnyH_ready (rs := [11]) (by kernel_rfl) (by simp) ?_
        refine AllReadyH.cons (o := _) rfl (fun K hK => ?_) AllReadyH.nil
        go_simp
        refine (refFrame_any (.slice ao nr cr) r _ (HU3.out.below (Below.refl _ w3).drew) (by have := HNR.out; omega)).mono ?_
        rintro e w4 ⟨v4, rfl, ho, hb0⟩
        have hb := below_drew hb0
        have hcz : (convert 23 9 v4).run Try.prog w4 = .ok (.string Z) w4 := by rw [HXY.out.2.2]; exact (Bs.own ho).conv
        have HO4 : Hid (w4.ownsRow w.heap.size 5 1 (.slice a3 T3 c3) T3 (bc (Fr.frames (ls.take (k + 1))))) := HO3.out.1.kept (grownBy_below (row := none) hb) (by cases (Value.slice a3 T3 c3).ownBlock <;> simp)
        have hcx : (convert 23 9 (.slice a3 T3 c3)).run Try.prog w4 = .ok (.string X) w4 := by rw [HXY.out.1]; exact (Bs.own HO4.out).conv
        have hcy : (convert 23 9 (.slice af T cf)).run Try.prog w4 = .ok (.string Y) w4 := by rw [HXY.out.2.1]; exact (HF3.out.below hb).conv
        have hu4 : w4.cell? ⟨g, o + k, none⟩ = some (.slice ao nr cr) := Below.kept hb hu3
        have HB4 : Hid (Below w.heap.size w w4) := HB3.out.trans (hb.mono HB3.out.size)
        clear ho hb hb0
        simp only []
        refine hK.out _ _ ⟨hcx, hcy, hu4⟩ (fun hHeld2 => ?_)
        clear hK K hHeld
        refine wpAnyH_ready (rs := [12]) (by kernel_rfl) (by simp) ?_
        refine AllReadyH.cons (o := _) rfl (fun K hK => ?_) AllReadyH.nil
        go_simp
        refine hK.out _ _ ⟨hcx, hcy, hu4⟩ (fun hHeld => ?_)
        clear hK K hHeld2
        refine' take_at (i := 13) (d := 67) (v := _) rfl rfl (by kernel_rfl) (by kernel_rfl) (by kernel_rfl) (fun _ _ _ h => h) (Or.inl ⟨by rfl, ?h13⟩) (by assumption) ?_
        case h13 => intro w hSw; (try dsimp only at hSw); go_simp; with_reducible rfl
        simp only [List.setIfInBounds_toArray, List.set_cons_zero, List.set_cons_succ]
        refine' take_at (i := 14) (d := 68) (v := _) rfl rfl (by kernel_rfl) (by kernel_rfl) (by kernel_rfl) (fun _ _ _ h => h) (Or.inl ⟨by rfl, ?h14⟩) (by assumption) ?_
        case h14 => intro w hSw; (try dsimp only at hSw); go_simp; with_reducible rfl
        simp only [List.setIfInBounds_toArray, List.set_cons_zero, List.set_cons_succ]
        refine' take_at (i := 15) (d := 69) (v := _) rfl rfl (by kernel_rfl) (by kernel_rfl) (by kernel_rfl) (fun _ _ _ h => h) (Or.inl ⟨by rfl, ?h15⟩) (by assumption) ?_
        case h15 => intro w hSw; (try dsimp only at hSw); go_simp; with_reducible rfl
        simp only [List.setIfInBounds_toArray, List.set_cons_zero, List.set_cons_succ]
        refine wpAnyH_done (by kernel_rfl) ?_ _
        clear hHeld hcx0 hcy0 hd hXY hsz hcx hcy hu4 hu0
        go_wp2
        go_roundw
        case rel => exact ⟨k + 1, T3, by omega, by go_num, HO3.out.2.2, HO4.out, HO3.out.2.1, HB4.out⟩
        case measure => simp [intOf]; omega
    · have hlt' : ¬ (k : Int) < (n : Int) := by omega
      obtain rfl : k = n := by omega
      have hkn : ls.take k = ls := List.take_of_length_le (by rw [← HN.out.1]; omega)
      rw [hkn] at HFS
      have HFQ : Hid (wr.ownsRow w.heap.size 5 1 (.slice af T cf) T (bc (Fr.frames ls))) := HFS.out.1
      have HT : Hid (T = (Fr.frames ls).length) := HFS.out.2.2
      clear HFS hkn hb
      obtain ⟨C1, hC1⟩ : ∃ C : Bool, C = decide (0 ≤ z1 ∧ z1 < (T : Int)) := ⟨_, rfl⟩
      have HC1 : Hid (C1 = decide (0 ≤ z1 ∧ z1 < (T : Int))) := hC1
      clear hC1
      go_upto_region 15 with fail
      go_cut [78] (fun c wx => c = .bool C1 ∧ wx = wr)
      case first =>
        by_cases h1 : z1 < 0
        · have H3 : Hid (C1 = false) := by
            have h : C1 = false := by rw [HC1.out]; exact decide_eq_false (by omega)
            exact h
          go_wp2
          go_meet
          case rel => exact ⟨by rw [H3.out], rfl⟩
        · by_cases h2 : z1 < (T : Int)
          · have H3 : Hid (C1 = true) := by
              have h : C1 = true := by rw [HC1.out]; exact decide_eq_true (by omega)
              exact h
            go_wp2
            go_meet
            case rel => exact ⟨by rw [H3.out], rfl⟩
          · have H3 : Hid (C1 = false) := by
              have h : C1 = false := by rw [HC1.out]; exact decide_eq_false (by omega)
              exact h
            go_wp2
            go_meet
            case rel => exact ⟨by rw [H3.out], rfl⟩
      case rest =>
        obtain ⟨rfl, rfl⟩ := hcut
        go_upto_if 78 with fail
        go_cut [11] (fun f wx => f = .slice af T cf ∧ ∃ xs : List UInt8, xs.length = T ∧ wx.ownsRow w.heap.size 5 1 (.slice af T cf) T (bc xs) ∧ Below w.heap.size w wx)
        case first =>
          cases C1 with
          | false =>
            go_wp2
            go_meet
            case rel => exact ⟨rfl, Fr.frames ls, HT.out.symm, HFQ.out, HB2.out⟩
          | true =>
            have hz : 0 ≤ z1 ∧ z1 < (T : Int) := of_decide_eq_true HC1.out.symm
            obtain ⟨t, rfl⟩ : ∃ t : Nat, z1 = t := ⟨z1.toNat, by omega⟩
            have htT : t < T := by omega
            obtain ⟨g3, c3, hv3, hg3, _⟩ := HFQ.out.form (by omega)
            simp only [Value.slice.injEq] at hv3
            obtain ⟨rfl, _, rfl⟩ := hv3
            have htf : t < (Fr.frames ls).length := by rw [← HT.out]; exact htT
            have hcell : wc.cell? ⟨g3, t, none⟩ = some (.int .u8 ((Fr.frames ls)[t].toNat : Int)) := (HFQ.out.cellAt t (by omega)).trans (by unfold bc; rw [List.getElem?_map, List.getElem?_eq_getElem htf]; rfl)
            have hfz := HFQ.out.frozenAt t
            generalize (Fr.frames ls)[t] = x at *
            have HG3 : Hid (w.heap.size ≤ g3) := hg3
            have t1 : (t : Int) < (T : Int) := by omega
            clear hz htf hg3 HC1
            go_wp2
            rw [xor8]
            go_meet
            case rel => exact ⟨rfl, (Fr.frames ls).set t (x ^^^ y), by rw [List.length_set]; exact HT.out.symm, own_set (i := t) (x ^^^ y) HFQ.out, HB2.out.grown (grownBy_setCell wc ⟨g3, t, none⟩ _) HB2.out.size (fun q hq => by simp at hq; have := HG3.out; omega)⟩
        case rest =>
          obtain ⟨rfl, xs, hxl, hox, hbx⟩ := hcut
          have HXL : Hid (xs.length = T) := hxl
          have HOX : Hid (wc.ownsRow w.heap.size 5 1 (.slice af T cf) T (bc xs)) := hox
          have HBX : Hid (Below w.heap.size w wc) := hbx
          clear hxl hox hbx
          obtain ⟨wy, hwy⟩ : ∃ wy, wy = wc := ⟨_, rfl⟩
          subst hwy
          obtain ⟨C2, hC2⟩ : ∃ C : Bool, C = decide (0 ≤ z2 ∧ z2 ≤ (T : Int)) := ⟨_, rfl⟩
          have HC2 : Hid (C2 = decide (0 ≤ z2 ∧ z2 ≤ (T : Int))) := hC2
          clear hC2
          go_upto_region 17 with fail
          go_cut [95] (fun c wx => c = .bool C2 ∧ wx = wy)
          case first =>
            by_cases h1 : z2 < 0
            · have H3 : Hid (C2 = false) := by
                have h : C2 = false := by rw [HC2.out]; exact decide_eq_false (by omega)
                exact h
              go_wp2
              go_meet
              case rel => exact ⟨by rw [H3.out], rfl⟩
            · by_cases h2 : z2 ≤ (T : Int)
              · have H3 : Hid (C2 = true) := by
                  have h : C2 = true := by rw [HC2.out]; exact decide_eq_true (by omega)
                  exact h
                go_wp2
                go_meet
                case rel => exact ⟨by rw [H3.out], rfl⟩
              · have H3 : Hid (C2 = false) := by
                  have h : C2 = false := by rw [HC2.out]; exact decide_eq_false (by omega)
                  exact h
                go_wp2
                go_meet
                case rel => exact ⟨by rw [H3.out], rfl⟩
          case rest =>
            obtain ⟨rfl, hwc⟩ := hcut
            rw [hwc]
            clear hwc
            go_upto_if 95 with fail
            go_cut [11] (fun f wx => ∃ (m : Nat) (ys : List UInt8), f = .slice af m cf ∧ Bs wx (.slice af m cf) ys ∧ ys.length ≤ 3000 ∧ Below w.heap.size w wx)
            case first =>
              cases C2 with
              | false =>
                go_wp2
                go_meet
                case rel => exact ⟨T, xs, rfl, Bs.own HOX.out, by rw [HXL.out]; exact hT1, HBX.out⟩
              | true =>
                have hz : 0 ≤ z2 ∧ z2 ≤ (T : Int) := of_decide_eq_true HC2.out.symm
                obtain ⟨t, rfl⟩ : ∃ t : Nat, z2 = t := ⟨z2.toNat, by omega⟩
                have htT : t ≤ T := by omega
                obtain ⟨ao', n', c', hv', hn', hsl⟩ := Bs.own HOX.out
                simp only [Value.slice.injEq] at hv'
                obtain ⟨rfl, rfl, rfl⟩ := hv'
                have hcap : T ≤ cf := by have := hsl.cap; omega
                have hnil : af = none → T = 0 ∧ cf = 0 := fun e => by have h := hsl.nil e; rw [HXL.out] at h; exact h
                have HCUT : Hid (Bs wy (.slice af t cf) (xs.take t)) := (Bs.own HOX.out).cut htT
                have HTL : Hid ((xs.take t).length ≤ 3000) := by
                  have h : (xs.take t).length ≤ 3000 := by rw [List.length_take]; omega
                  exact h
                have hcf : (t : Int) ≤ (cf : Int) := by omega
                clear hz hn' hsl
                cases af with
                | none =>
                  obtain ⟨rfl, rfl⟩ := hnil rfl
                  obtain rfl : t = 0 := by omega
                  clear hnil
                  go_wp2
                  go_meet
                  case rel => exact ⟨0, xs.take 0, rfl, HCUT.out, HTL.out, HBX.out⟩
                | some ad =>
                  clear hnil
                  go_wp2
                  go_meet
                  case rel => exact ⟨t, xs.take t, rfl, HCUT.out, HTL.out, HBX.out⟩
            case rest =>
              obtain ⟨m, ys, rfl, hys, hyl, hby⟩ := hcut
              have HYS : Hid (Bs wc (.slice af m cf) ys ∧ ys.length ≤ 3000) := ⟨hys, hyl⟩
              have HBY : Hid (Below w.heap.size w wc) := hby
              clear hys hyl hby
              obtain ⟨wz, hwz⟩ : ∃ wz, wz = wc := ⟨_, rfl⟩
              subst hwz
              go_wp2
              go_loopw [102] (fun i wr => ∃ k : Nat, k ≤ 2 ∧ i = .int .i64 (k : Int) ∧ Below wz.heap.size wz wr) (fun i _ => (2 - intOf i).toNat)
              case atStart => exact ⟨0, by omega, rfl, Below.refl _ _⟩
              case round =>
                obtain ⟨k, hk, rfl, hb⟩ := hrel
                have HB5 : Hid (Below w.heap.size w wr) := HBY.out.trans (hb.mono HBY.out.size)
                by_cases hlt : k < 2
                · have hlt' : (k : Int) < 2 := by omega
                  have HB4 : Hid (Below wz.heap.size wz wr) := hb
                  clear hb
                  have hk01 : k = 0 ∨ k = 1 := by omega
                  rcases hk01 with rfl | rfl
                  · clear hlt hlt' hk
                    have i0 : ∀ w, (Instr.index 31 (.agg #[.slice ab nb cb, .slice af m cf]) (.int .i64 0)).run Try.prog w = .ok (.slice ab nb cb) w := fun _ => by kernel_rfl
                    go_wp2_with fail
                    refine (HSc.out _ bs _ (HVB.out.1.below (HBY.out.trans (HB4.out.mono HBY.out.size))) (by have := HVB.out.2; omega)).mono ?_
                    rintro e w6 ⟨l6, rfl, hl6, hz6, hb6⟩
                    obtain ⟨L, hL⟩ : ∃ L, L = (Fr.scan bs).1 := ⟨_, rfl⟩
                    obtain ⟨N, hN⟩ : ∃ N, N = (Fr.scan bs).2.1 := ⟨_, rfl⟩
                    obtain ⟨E, hE⟩ : ∃ E, E = (Fr.scan bs).2.2 := ⟨_, rfl⟩
                    have HLE : Hid (L.length ≤ 1000000 ∧ L = (Fr.scan bs).1 ∧ N = (Fr.scan bs).2.1 ∧ E = (Fr.scan bs).2.2) := ⟨by rw [hL]; have := scan_count bs; have := HVB.out.2; omega, hL, hN, hE⟩
                    rw [← hL] at hl6
                    rw [← hN, ← hE]
                    have HL6 : Hid (Bl w6 l6 L) := hl6
                    have HB6 : Hid (Below wz.heap.size wz w6) := HB4.out.trans (hb6.mono HB4.out.size)
                    clear hl6 hz6 hb6 hL hN hE
                    go_wp2_with fail
                    refine (refScan_any _ bs _ (HVB.out.1.below (HBY.out.trans (HB6.out.mono HBY.out.size))) (by have := HVB.out.2; omega)).mono ?_
                    rintro e w7 ⟨l7, rfl, hlo, hb7⟩
                    rw [← HLE.out.2.1] at hlo
                    rw [← HLE.out.2.2.1, ← HLE.out.2.2.2]
                    have HL7 : Hid (Bl w7 l7 L ∧ Bl w7 l6 L) := ⟨hlo.bl, HL6.out.below hb7⟩
                    have HB7 : Hid (Below wz.heap.size wz w7) := HB6.out.trans (hb7.mono HB6.out.size)
                    clear hlo hb7
                    go_wp2_with fail
                    refine (all_any l6 l7 L L _ HL7.out.2 HL7.out.1 HLE.out.1).mono ?_
                    rintro e w8 ⟨rfl, hb8⟩
                    have hd : decide (L = L) = true := decide_eq_true rfl
                    rw [hd]
                    have HB8 : Hid (Below wz.heap.size wz w8) := HB7.out.trans (hb8.mono HB7.out.size)
                    clear hd hb8
                    go_wp2
                    go_roundw
                    case rel => exact ⟨1, by omega, rfl, HB8.out⟩
                    case measure => simp [intOf]
                  · clear hlt hlt' hk
                    have i1 : ∀ w, (Instr.index 31 (.agg #[.slice ab nb cb, .slice af m cf]) (.int .i64 1)).run Try.prog w = .ok (.slice af m cf) w := fun _ => by kernel_rfl
                    go_wp2_with fail
                    refine (HSc.out _ ys _ (HYS.out.1.below HB4.out) (by have := HYS.out.2; omega)).mono ?_
                    rintro e w6 ⟨l6, rfl, hl6, hz6, hb6⟩
                    obtain ⟨L, hL⟩ : ∃ L, L = (Fr.scan ys).1 := ⟨_, rfl⟩
                    obtain ⟨N, hN⟩ : ∃ N, N = (Fr.scan ys).2.1 := ⟨_, rfl⟩
                    obtain ⟨E, hE⟩ : ∃ E, E = (Fr.scan ys).2.2 := ⟨_, rfl⟩
                    have HLE : Hid (L.length ≤ 1000000 ∧ L = (Fr.scan ys).1 ∧ N = (Fr.scan ys).2.1 ∧ E = (Fr.scan ys).2.2) := ⟨by rw [hL]; have := scan_count ys; have := HYS.out.2; omega, hL, hN, hE⟩
                    rw [← hL] at hl6
                    rw [← hN, ← hE]
                    have HL6 : Hid (Bl w6 l6 L) := hl6
                    have HB6 : Hid (Below wz.heap.size wz w6) := HB4.out.trans (hb6.mono HB4.out.size)
                    clear hl6 hz6 hb6 hL hN hE
                    go_wp2_with fail
                    refine (refScan_any _ ys _ (HYS.out.1.below HB6.out) (by have := HYS.out.2; omega)).mono ?_
                    rintro e w7 ⟨l7, rfl, hlo, hb7⟩
                    rw [← HLE.out.2.1] at hlo
                    rw [← HLE.out.2.2.1, ← HLE.out.2.2.2]
                    have HL7 : Hid (Bl w7 l7 L ∧ Bl w7 l6 L) := ⟨hlo.bl, HL6.out.below hb7⟩
                    have HB7 : Hid (Below wz.heap.size wz w7) := HB6.out.trans (hb7.mono HB6.out.size)
                    clear hlo hb7
                    go_wp2_with fail
                    refine (all_any l6 l7 L L _ HL7.out.2 HL7.out.1 HLE.out.1).mono ?_
                    rintro e w8 ⟨rfl, hb8⟩
                    have hd : decide (L = L) = true := decide_eq_true rfl
                    rw [hd]
                    have HB8 : Hid (Below wz.heap.size wz w8) := HB7.out.trans (hb8.mono HB7.out.size)
                    clear hd hb8
                    go_wp2
                    go_roundw
                    case rel => exact ⟨2, by omega, rfl, HB8.out⟩
                    case measure => simp [intOf]
                · have hlt' : ¬ (k : Int) < 2 := by omega
                  clear hb
                  go_wp2
                  go_ret
                  exact ⟨rfl, HB5.out⟩

set_option maxHeartbeats 1000000 in
theorem scans_many (hp : PutSpec) (hs : ScanSpec) (ab al : Option Addr) (nb cb n cl : Nat) (z1 z2 : Int) (y : UInt8) (w : World) (h : (400 : Int) < (nb : Int) ∨ (12 : Int) < (n : Int)) :
    Calls Try.prog 4 #[.slice ab nb cb, .slice al n cl, .int .i64 z1, .int .u8 (y.toNat : Int), .int .i64 z2] w fun e w' => e = .returned (.bool true) ∧ Below w.heap.size w w' := by
  have H : Hid ((400 : Int) < (nb : Int) ∨ (12 : Int) < (n : Int)) := h
  have HP : Hid PutSpec := hp
  have HSc : Hid ScanSpec := hs
  clear h hp hs
  go_enter Try.func4, Try.ntmps4
  go_wp2_with fail
  refine (awake_any HP.out HSc.out _).mono ?_
  rintro e w1 ⟨rfl, hb⟩
  have HB1 : Hid (Below w.heap.size w w1) := hb
  clear hb
  by_cases h1 : (400 : Int) < (nb : Int)
  · go_wp2
    go_ret
    exact ⟨rfl, HB1.out⟩
  · have h2 : (12 : Int) < (n : Int) := by have := H.out; omega
    go_wp2
    go_ret
    exact ⟨rfl, HB1.out⟩

/-- FrameScans answers true. -/
theorem scans_any (hp : PutSpec) (hs : ScanSpec) (vb vl : Value) (bs : List UInt8) (ls : List (List UInt8)) (z1 z2 zy : Int) (w : World) (hvb : Bs w vb bs) (hvl : Bl w vl ls) (hL : ∀ r ∈ ls, r.length ≤ maxLen) (hy : ∃ y : UInt8, zy = (y.toNat : Int)) :
    Calls Try.prog 4 #[vb, vl, .int .i64 z1, .int .u8 zy, .int .i64 z2] w fun e w' => e = .returned (.bool true) ∧ Below w.heap.size w w' := by
  obtain ⟨y, rfl⟩ := hy
  by_cases h : (400 : Int) < (bs.length : Int) ∨ (12 : Int) < (ls.length : Int)
  · obtain ⟨ab, nb, cb, rfl, hnb, _⟩ := hvb
    obtain ⟨al, n, cl, rfl, hn, _⟩ := hvl
    exact scans_many hp hs ab al nb cb n cl z1 z2 y w (by rw [hnb, hn]; exact h)
  · exact scans_few hp hs vb vl bs ls z1 z2 y w hvb hvl (by omega) (by omega) hL
end Go.Proofs.Ytnpdfendcffapaa
