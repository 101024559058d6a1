/- The walk of the statement OpTops, over what op's calls answer: it answers true. -/
import Derived.Test.YtcpajjjkhikipaaGreatDoorLAwake5
import Derived.Test.YtcpajjjkhikipaaGreatDoorPlainT
namespace Go.Proofs.YtcpajjjkhikipaaGreatDoor
open Go.RowKit

/-- Tops: the first names, rising, each once. -/
def TopsPost (os : List O) (w : World) (e : Ending) (w' : World) : Prop :=
  ∃ v ts, e = .returned v ∧ Ss w' v ts ∧ Ts.Tops os (ts.map (·.data.toList)) ∧ Below w.heap.size w w'
def TopsSpec : Prop := ∀ (u : Value) (os : List O) (w : World), Pa.Std w → Ol w u os → os.length ≤ 1000 → (∀ o ∈ os, Fit o) → Calls Tryz.prog 13 #[u] w (TopsPost os w)

/-- Texts that are there lie at a plain address. -/
theorem Ss.at {w : World} {v : Value} {ss : List ByteArray} (h : Ss w v ss) (h0 : 0 < ss.length) : ∃ g o c, v = .slice (some ⟨g, o, none⟩) ss.length c ∧ ∀ (j : Nat) s, ss[j]? = some s → w.cell? ⟨g, o + j, none⟩ = some (.string s) := by
  obtain ⟨av, k, c, rfl, hk, hc⟩ := h
  obtain ⟨g, o, rfl, _⟩ := hc 0 ss[0] (List.getElem?_eq_getElem h0)
  refine ⟨g, o, c, by rw [hk], fun j s hs => ?_⟩
  obtain ⟨g', o', e, h1⟩ := hc j s hs
  simp only [Option.some.injEq, Addr.mk.injEq, and_true] at e
  obtain ⟨rfl, rfl⟩ := e
  exact h1

theorem great_small {os : List O} (h : greatB os = false) : os.length ≤ 20 := by
  unfold greatB at h
  simp only [Bool.or_eq_false_iff, decide_eq_false_iff_not] at h
  omega

theorem rises_at {l : List (List UInt8)} (h : Ts.Rises l) {i j : Nat} {x y : List UInt8} (hij : i < j) (hx : l[i]? = some x) (hy : l[j]? = some y) : Op.bytesLess x y = true := by
  obtain ⟨hi, rfl⟩ := List.getElem?_eq_some_iff.1 hx
  obtain ⟨hj, rfl⟩ := List.getElem?_eq_some_iff.1 hy
  exact List.pairwise_iff_getElem.1 h i j hi hj hij

theorem not_leq {x y : List UInt8} (h : Op.bytesLess y x = true) : (Op.bytesLess x y || x == y) = false := by
  cases h1 : Op.bytesLess x y with
  | true =>
    have := Ts.less_trans h h1
    rw [Ts.less_irrefl] at this
    cases this
  | false =>
    rw [Bool.false_or]
    apply beq_eq_false_iff_ne.2
    intro e
    rw [e, Ts.less_irrefl] at h
    cases h

set_option maxRecDepth 20000 in
set_option maxHeartbeats 4000000 in
theorem tops_any5 (hs : Specs) (ht : TopsSpec) (u u' : Value) (os os' : List O) (w : World) (hS : Pa.Std w) (hu : Ol w u os) (hu' : Ol w u' os') (hl : os.length ≤ maxLen) (hl' : os'.length ≤ maxLen) (hf : ∀ o ∈ os, Fit o) (hf' : ∀ o ∈ os', Fit o) :
    Calls Tryz.prog 6 #[u, u'] w fun e w' => e = .returned (.bool true) ∧ Below w.heap.size w w' := by
  have HS : Hid Specs := hs
  have HTS : Hid TopsSpec := ht
  have HW : Hid (Pa.Std w) := hS
  have HU : Hid (Ol w u os ∧ Ol w u' os') := ⟨hu, hu'⟩
  have HF : Hid (os.length ≤ maxLen ∧ os'.length ≤ maxLen ∧ (∀ o ∈ os, Fit o) ∧ ∀ o ∈ os', Fit o) := ⟨hl, hl', hf, hf'⟩
  obtain ⟨au, m, cu, rfl, hm, hx⟩ := hu
  obtain ⟨au', m', cu', rfl, hm', hx'⟩ := hu'
  clear hs ht hS hl hl' hf hf' hm hm' hx hx'
  go_enter Tryz.func6, Tryz.ntmps6
  go_wp2_with fail
  refine (awake_any5 HS.out _ HW.out).mono ?_
  rintro e w2 ⟨rfl, hb⟩
  have HB2 : Hid (Below w.heap.size w w2) := hb
  clear hb
  go_wp2_with fail
  refine (great_any _ os _ (HU.out.1.below HB2.out) HF.out.1).mono ?_
  rintro e w3 ⟨rfl, hb⟩
  have HB3 : Hid (Below w.heap.size w w3) := HB2.out.trans (hb.mono HB2.out.size)
  clear hb
  cases hgr : greatB os with
  | true =>
    clear hgr
    go_wp2
    go_ret
    exact ⟨rfl, HB3.out⟩
  | false =>
    have HL : Hid (os.length ≤ 20) := great_small hgr
    clear hgr
    go_wp2_with fail
    refine (great_any _ os' _ (HU.out.2.below HB3.out) HF.out.2.1).mono ?_
    rintro e w4 ⟨rfl, hb⟩
    have HB4 : Hid (Below w.heap.size w w4) := HB3.out.trans (hb.mono HB3.out.size)
    clear hb
    cases hgr : greatB os' with
    | true =>
      clear hgr
      go_wp2
      go_ret
      exact ⟨rfl, HB4.out⟩
    | false =>
      have HL' : Hid (os'.length ≤ 20) := great_small hgr
      clear hgr
      go_wp2_with fail
      refine (HTS.out _ os _ (HW.out.below HB4.out) (HU.out.1.below HB4.out) (by have := HL.out; omega) HF.out.2.2.1).mono ?_
      rintro e w5 ⟨v5, ts, rfl, hss, htops, hb⟩
      have HT : Hid (Ts.Tops os (ts.map (·.data.toList)) ∧ ts.length ≤ 20) := ⟨htops, by have h := Ts.tops_len htops; rw [List.length_map] at h; have := HL.out; omega⟩
      have HV5 : Hid (Ss w5 v5 ts) := hss
      have HB5 : Hid (Below w.heap.size w w5) := HB4.out.trans (hb.mono HB4.out.size)
      obtain ⟨a5, k5, c5, rfl, hk5, hq5⟩ := hss
      have HK5 : Hid (k5 = ts.length) := hk5
      have hk20 : k5 ≤ 20 := by have := HT.out.2; omega
      clear hb htops hk5 hq5
      go_wp2
      go_loopw [6] (fun i wr => ∃ k : Nat, 1 ≤ k ∧ k ≤ k5 + 1 ∧ i = .int .i64 (k : Int) ∧ Below w5.heap.size w5 wr) (fun i _ => ((k5 : Int) + 1 - intOf i).toNat)
      case atStart => exact ⟨1, Nat.le_refl _, by omega, rfl, Below.refl _ _⟩
      case round =>
        obtain ⟨k, hk1, hk2, rfl, hb⟩ := hrel
        have HB6 : Hid (Below w5.heap.size w5 wr) := hb
        have HB : Hid (Below w.heap.size w wr) := HB5.out.trans (hb.mono HB5.out.size)
        clear hb
        by_cases hlt : k < k5
        · have hlt' : (k : Int) < (k5 : Int) := by omega
          have hkl : k < ts.length := by rw [← HK5.out]; exact hlt
          obtain ⟨g, o, c', hv', hcs⟩ := (HV5.out.below HB6.out).at (by omega)
          simp only [Value.slice.injEq] at hv'
          obtain ⟨rfl, hq, rfl⟩ := hv'
          have e0 := hcs k ts[k] (List.getElem?_eq_getElem hkl)
          have e1 := hcs (k - 1) ts[k - 1] (List.getElem?_eq_getElem (by omega))
          have hleq : (Op.bytesLess ts[k].toList ts[k - 1].toList || ts[k].toList == ts[k - 1].toList) = false := by
            rw [ByteArray.toList_eq, ByteArray.toList_eq]
            exact not_leq (rises_at HT.out.1.1 (i := k - 1) (j := k) (by omega) (by rw [List.getElem?_map, List.getElem?_eq_getElem (show k - 1 < ts.length by omega)]; rfl) (by rw [List.getElem?_map, List.getElem?_eq_getElem hkl]; rfl))
          generalize ts[k] = x at *
          generalize ts[k - 1] = y at *
          obtain ⟨hl1, hl2⟩ := Bool.or_eq_false_iff.1 hleq
          have hk0 : (0 : Int) ≤ (k : Int) - 1 := by omega
          have hk3 : (k : Int) - 1 < (k5 : Int) := by omega
          have hkt : ((k : Int) - 1).toNat = k - 1 := by omega
          clear hcs hq hkl hleq
          go_wp2
          go_quiet (fail)
          have HB7 : Hid (Below w5.heap.size w5 (wr.drewN nq)) := below_drewN HB6.out nq
          clear e0 e1 hl1 hl2 hk0 hk3 hkt
          generalize wr.drewN nq = w7 at *
          go_wp2
          go_roundw
          case rel => exact ⟨k + 1, by omega, by omega, by go_num, HB7.out⟩
          case measure => simp [intOf]; omega
        · have hlt' : ¬ (k : Int) < (k5 : Int) := by omega
          have HBwr : Hid (Below w.heap.size w wr) := HB.out
          have HALx : Hid (Below wr.heap.size wr (wr.alloc (.cells #[] 24))) := (Below.refl _ wr).alloc (Nat.le_refl _) _
          have HOWx : Hid ((wr.alloc (.cells #[] 24)).ownsRow wr.heap.size 24 5 (.slice (some ⟨wr.heap.size, 0, none⟩) 0 0) ([] : List O).length (([] : List O).flatMap oc)) := World.ownsRow_made wr #[] 0 (Nat.le_refl _) (by decide) rfl
          go_wp2_with (at_builtin; refine append_ops rfl _ _ rfl wr.heap.size (.slice (some ⟨wr.heap.size, 0, none⟩) 0 0) (.slice au m cu) [] os _ rfl rfl HOWx.out (by simp) (HU.out.1.below (HBwr.out.trans (HALx.out.mono HBwr.out.size))) (by have := HL.out; have := HL'.out; simp; omega) ?_)
          intro vxa wxa ho hb
          have HOxa : Hid (wxa.ownsRow wr.heap.size 24 5 vxa os.length (os.flatMap oc)) := ho
          have HNxa : Hid (Below wr.heap.size wr wxa) := HALx.out.trans hb
          have HBwxa : Hid (Below w.heap.size w wxa) := HBwr.out.trans (HNxa.out.mono HBwr.out.size)
          clear ho hb
          go_wp2_with (at_builtin; refine append_ops rfl _ _ rfl wr.heap.size vxa (.slice au' m' cu') os os' _ rfl rfl HOxa.out HNxa.out.size (HU.out.2.below HBwxa.out) (by have := HL.out; have := HL'.out; omega) ?_)
          intro vxb wxb ho hb
          have HOxb : Hid (Ol wxb vxb (os ++ os')) := Ol.own (by rw [List.length_append, List.flatMap_append]; exact ho)
          have HNxb : Hid (Below wr.heap.size wr wxb) := HNxa.out.trans hb
          have HBwxb : Hid (Below w.heap.size w wxb) := HBwr.out.trans (HNxb.out.mono HBwr.out.size)
          clear ho hb
          go_wp2_with fail
          refine (HTS.out _ (os ++ os') _ (HW.out.below HBwxb.out) HOxb.out (by rw [List.length_append]; have := HL.out; have := HL'.out; omega) (fun o ho => by rcases List.mem_append.1 ho with h | h; exact HF.out.2.2.1 o h; exact HF.out.2.2.2 o h)).mono ?_
          rintro e wxc ⟨vxc, tsx, rfl, hss, htops, hb⟩
          have HTx : Hid (Ts.Tops (os ++ os') (tsx.map (·.data.toList)) ∧ tsx.length ≤ 40) := ⟨htops, by have h := Ts.tops_len htops; rw [List.length_map, List.length_append] at h; have := HL.out; have := HL'.out; omega⟩
          have HVx : Hid (Ss wxc vxc tsx) := hss
          have HBwxc : Hid (Below w.heap.size w wxc) := HBwxb.out.trans (hb.mono HBwxb.out.size)
          obtain ⟨ax, nx, cx, rfl, hnx, hqx⟩ := hss
          have HKx : Hid (nx = tsx.length) := hnx
          have hnx40 : nx ≤ 40 := by have := HTx.out.2; omega
          clear hb htops hnx hqx
          have HBwxc2 : Hid (Below w.heap.size w wxc) := HBwxc.out
          have HALy : Hid (Below wxc.heap.size wxc (wxc.alloc (.cells #[] 24))) := (Below.refl _ wxc).alloc (Nat.le_refl _) _
          have HOWy : Hid ((wxc.alloc (.cells #[] 24)).ownsRow wxc.heap.size 24 5 (.slice (some ⟨wxc.heap.size, 0, none⟩) 0 0) ([] : List O).length (([] : List O).flatMap oc)) := World.ownsRow_made wxc #[] 0 (Nat.le_refl _) (by decide) rfl
          go_wp2_with (at_builtin; refine append_ops rfl _ _ rfl wxc.heap.size (.slice (some ⟨wxc.heap.size, 0, none⟩) 0 0) (.slice au' m' cu') [] os' _ rfl rfl HOWy.out (by simp) (HU.out.2.below (HBwxc2.out.trans (HALy.out.mono HBwxc2.out.size))) (by have := HL.out; have := HL'.out; simp; omega) ?_)
          intro vya wya ho hb
          have HOya : Hid (wya.ownsRow wxc.heap.size 24 5 vya os'.length (os'.flatMap oc)) := ho
          have HNya : Hid (Below wxc.heap.size wxc wya) := HALy.out.trans hb
          have HBwya : Hid (Below w.heap.size w wya) := HBwxc2.out.trans (HNya.out.mono HBwxc2.out.size)
          clear ho hb
          go_wp2_with (at_builtin; refine append_ops rfl _ _ rfl wxc.heap.size vya (.slice au m cu) os' os _ rfl rfl HOya.out HNya.out.size (HU.out.1.below HBwya.out) (by have := HL.out; have := HL'.out; omega) ?_)
          intro vyb wyb ho hb
          have HOyb : Hid (Ol wyb vyb (os' ++ os)) := Ol.own (by rw [List.length_append, List.flatMap_append]; exact ho)
          have HNyb : Hid (Below wxc.heap.size wxc wyb) := HNya.out.trans hb
          have HBwyb : Hid (Below w.heap.size w wyb) := HBwxc2.out.trans (HNyb.out.mono HBwxc2.out.size)
          clear ho hb
          go_wp2_with fail
          refine (HTS.out _ (os' ++ os) _ (HW.out.below HBwyb.out) HOyb.out (by rw [List.length_append]; have := HL.out; have := HL'.out; omega) (fun o ho => by rcases List.mem_append.1 ho with h | h; exact HF.out.2.2.2 o h; exact HF.out.2.2.1 o h)).mono ?_
          rintro e wyc ⟨vyc, tsy, rfl, hss, htops, hb⟩
          have HTy : Hid (Ts.Tops (os' ++ os) (tsy.map (·.data.toList)) ∧ tsy.length ≤ 40) := ⟨htops, by have h := Ts.tops_len htops; rw [List.length_map, List.length_append] at h; have := HL.out; have := HL'.out; omega⟩
          have HVy : Hid (Ss wyc vyc tsy) := hss
          have HByc : Hid (Below wyb.heap.size wyb wyc) := hb
          have HBwyc : Hid (Below w.heap.size w wyc) := HBwyb.out.trans (hb.mono HBwyb.out.size)
          obtain ⟨ay, ny, cy, rfl, hny, hqy⟩ := hss
          have HKy : Hid (ny = tsy.length) := hny
          have hny40 : ny ≤ 40 := by have := HTy.out.2; omega
          clear hb htops hny hqy
          have HEQ : Hid (tsx.map (·.data.toList) = tsy.map (·.data.toList)) := Ts.tops_swap HTx.out.1 HTy.out.1
          have HNE : Hid (tsx.length = tsy.length) := by
            have h := congrArg List.length HEQ.out
            rw [List.length_map, List.length_map] at h
            exact h
          have HMO : Hid (ts.length ≤ tsx.length) := by
            have h := Ts.tops_more HT.out.1 HTx.out.1
            rw [List.length_map, List.length_map] at h
            exact h
          have hnn : nx = ny := by rw [HKx.out, HKy.out]; exact HNE.out
          subst hnn
          have hkk : ¬ (nx : Int) < (k5 : Int) := by have h1 := HMO.out; have h2 := HK5.out; have h3 := HKx.out; omega
          have HVx2 : Hid (Ss wyc (.slice ax nx cx) tsx) := HVx.out.below (HNyb.out.trans (HByc.out.mono HNyb.out.size))
          go_wp2
          go_loopw [9] (fun i wr => ∃ k : Nat, k ≤ nx ∧ i = .int .i64 (k : Int) ∧ Below wyc.heap.size wyc wr) (fun i _ => ((nx : Int) - intOf i).toNat)
          case atStart => exact ⟨0, Nat.zero_le _, rfl, Below.refl _ _⟩
          case round =>
            obtain ⟨j, hj, rfl, hb⟩ := hrel
            have HC6 : Hid (Below wyc.heap.size wyc wr) := hb
            have HCW : Hid (Below w.heap.size w wr) := HBwyc.out.trans (hb.mono HBwyc.out.size)
            clear hb
            by_cases hlt2 : j < nx
            · have hlt2' : (j : Int) < (nx : Int) := by omega
              have hjx : j < tsx.length := by rw [← HKx.out]; exact hlt2
              have hjy : j < tsy.length := by rw [← HKy.out]; exact hlt2
              obtain ⟨g, o, c', hv', hcs⟩ := (HVx2.out.below HC6.out).at (by omega)
              simp only [Value.slice.injEq] at hv'
              obtain ⟨rfl, hq, rfl⟩ := hv'
              obtain ⟨g', o', c'', hv'', hcs'⟩ := (HVy.out.below HC6.out).at (by omega)
              simp only [Value.slice.injEq] at hv''
              obtain ⟨rfl, hq', rfl⟩ := hv''
              have e0 := hcs j tsx[j] (List.getElem?_eq_getElem hjx)
              have e1 := hcs' j tsy[j] (List.getElem?_eq_getElem hjy)
              have hsame : tsx[j] = tsy[j] := by
                have h := congrArg (fun l => l[j]?) HEQ.out
                simp only [List.getElem?_map, List.getElem?_eq_getElem hjx, List.getElem?_eq_getElem hjy, Option.map_some, Option.some.injEq] at h
                exact Oq.bytes_ext h
              rw [← hsame] at e1
              generalize tsx[j] = x at *
              clear hcs hcs' hq hq' hjx hjy hsame
              go_wp2
              go_quiet (fail)
              have HC7 : Hid (Below wyc.heap.size wyc (wr.drewN nq)) := below_drewN HC6.out nq
              clear e0 e1
              generalize wr.drewN nq = w7 at *
              go_wp2
              go_roundw
              case rel => exact ⟨j + 1, by omega, by go_num, HC7.out⟩
              case measure => simp [intOf]; omega
            · have hlt2' : ¬ (j : Int) < (nx : Int) := by omega
              go_wp2
              go_ret
              exact ⟨rfl, HCW.out⟩
end Go.Proofs.YtcpajjjkhikipaaGreatDoor
