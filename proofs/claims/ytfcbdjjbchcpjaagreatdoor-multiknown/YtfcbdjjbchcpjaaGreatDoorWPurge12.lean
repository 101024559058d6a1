/- What multi's Purge does. -/
import Derived.Test.YtfcbdjjbchcpjaaGreatDoorSort12
import Derived.Test.YtfcbdjjbchcpjaaGreatDoorSpecs11
import Derived.Lib.OwnBridge
namespace Go.Proofs.YtfcbdjjbchcpjaaGreatDoor.Tq
/-- A node goes, if it is there. -/
def dropT (t : Tr) (p : ByteArray) : Tr := match find t.l p with | none => t | some _ => { t with l := orphan (del t.l p) p }
def drops (t : Tr) (ps : List ByteArray) : Tr := ps.foldl dropT t
theorem fine_drop {t : Tr} (h : Fine11 t) (p : ByteArray) : Fine11 (dropT t p) := by
  unfold dropT
  split
  · exact h
  · exact fine_orphan (t := { t with l := del t.l p }) (fine_del h)
theorem fine_drops : ∀ {ps : List ByteArray} {t : Tr}, Fine11 t → Fine11 (drops t ps)
  | [], _, h => h
  | p :: ps, _, h => fine_drops (ps := ps) (fine_drop h p)
theorem drops_snoc {t : Tr} {ps : List ByteArray} {p : ByteArray} : drops t (ps ++ [p]) = dropT (drops t ps) p := by unfold drops; simp
theorem ofs_good {t : Tr} (h : Fine11 t) {s : Int} {p : ByteArray} (hp : p ∈ ofs t s) : Pl.goodB p.data.toList = true := by
  unfold ofs at hp
  split at hp
  · obtain ⟨e, he, rfl⟩ := List.mem_map.1 hp
    exact (h.nodes e (List.mem_filter.1 he).1).1
  · cases hp
theorem ofs_len {t : Tr} (h : Fine11 t) (s : Int) : (ofs t s).length ≤ 500 := by
  unfold ofs
  split
  · rw [List.length_map]
    have h1 := List.length_filter_le (fun e : En => decide (e.2.owner = s)) t.l
    have h2 := h.len
    have h3 := h.room
    omega
  · simp
end Go.Proofs.YtfcbdjjbchcpjaaGreatDoor.Tq
namespace Go.Proofs.YtfcbdjjbchcpjaaGreatDoor
open Go.RowKit Go.Sort

/-- What Of and Drop answer. -/
structure SpecP12 (LT : Rep11) : Prop where
  ofo : ∀ (q : Nat) (t : Tq.Tr) (F : Nat → Prop) (s : Int) (w : World), LT w q t F → Fine11 t →
    Calls Tryz.prog 22 #[dptr q, .int .i64 s] w fun e w' => ∃ v, e = .returned v ∧ w'.ownsRow w.heap.size 9 1 v (Tq.ofs t s).length (sc (Tq.ofs t s)) ∧ LT w' q t F ∧ Below w.heap.size w w'
  drop : ∀ (q : Nat) (t : Tq.Tr) (F : Nat → Prop) (p : ByteArray) (w : World), LT w q t F → Fine11 t → (∀ k, F k → 6 ≤ k) → Pa.Std w → Pl.goodB p.data.toList = true →
    Calls Tryz.prog 84 #[dptr q, .string p] w fun e w' => ∃ b F', e = .returned (.bool b) ∧ LT w' q (Tq.dropT t p) F' ∧ Moved w w' F F'

theorem good_len12 {p : ByteArray} (h : Pl.goodB p.data.toList = true) : p.data.toList.length ≤ 1000 := by
  have := (Pl.good_parts h).2.2
  omega
theorem dl_tb (ts : List (List UInt8)) : dl11 (ts.map Tq.tb) = ts := by
  unfold dl11
  rw [List.map_map]
  have e : ((fun s : ByteArray => s.data.toList) ∘ Tq.tb) = id := funext fun l => Tq.tb_data l
  rw [e, List.map_id]
theorem tb_dl (L : List ByteArray) : (dl11 L).map Tq.tb = L := by
  unfold dl11
  rw [List.map_map]
  have e : (Tq.tb ∘ fun s : ByteArray => s.data.toList) = id := funext fun p => Tq.tb_back p
  rw [e, List.map_id]

/-- What Purge has under way. -/
structure Pu12 (LT : Rep11) (W w : World) (q : Nat) (t : Tq.Tr) (F0 F : Nat → Prop) (v : Value) (ts : List ByteArray) : Prop where
  ld : LT w q t F
  mv : Moved W w F0 F
  row : w.ownsRow W.heap.size 9 1 v ts.length (sc ts)
  off : Off11 F v
theorem Pu12.step {LT : Rep11} {W w w' : World} {q : Nat} {t t' : Tq.Tr} {F0 F F' : Nat → Prop} {v : Value} {ts : List ByteArray} (h : Pu12 LT W w q t F0 F v ts) (hl : LT w' q t' F') (hm : Moved w w' F F') : Pu12 LT W w' q t' F0 F' v ts :=
  ⟨hl, h.mv.trans hm, row_stays h.row (fun k e => hm.block k (h.row.lt k e).2 (h.off k e)), fun k hk e => by
    rcases hm.sub k e with e | e
    · exact h.off k hk e
    · have := (h.row.lt k hk).2
      omega⟩

set_option maxRecDepth 20000 in
set_option maxHeartbeats 4000000 in
theorem purge_any12 {LT : Rep11} (S : Specs11 LT) (P : SpecP12 LT) (q : Nat) (t : Tq.Tr) (F : Nat → Prop) (s : Int) (w : World) (hL : LT w q t F) (hf : Fine11 t) (h6 : ∀ k, F k → 6 ≤ k) (hS : Pa.Std w) :
    Calls Tryz.prog 44 #[dptr q, .int .i64 s] w fun e w' => ∃ F' v ts, e = .returned v ∧ List.Perm ts (Tq.ofs t s) ∧ (dl11 ts).Pairwise (fun x y => deepB y x = false) ∧ Pu12 LT w w' q (Tq.drops t ts) F F' v ts := by
  have HS : Hid (Specs11 LT ∧ SpecP12 LT ∧ Fine11 t ∧ (∀ k, F k → 6 ≤ k) ∧ Pa.Std w ∧ ∀ k, F k → k < w.heap.size) := ⟨S, P, hf, h6, hS, fun k hk => S.lt hL hk⟩
  have HL : Hid (LT w q t F) := hL
  clear S P hL hf h6 hS
  unfold dptr
  go_enter Tryz.func44, Tryz.ntmps44
  go_wp2_with fail
  refine (HS.out.2.1.ofo q t F s w HL.out HS.out.2.2.1).mono ?_
  rintro e w1 ⟨v1, rfl, hrow, hl1, hb1⟩
  obtain ⟨N, hN⟩ : ∃ N, N = (Tq.ofs t s).length := ⟨_, rfl⟩
  have HN : Hid (N = (Tq.ofs t s).length) := hN
  have H1 : Hid (LT w1 q t F ∧ Below w.heap.size w w1 ∧ w1.ownsRow w.heap.size 9 1 v1 N ((dl11 (Tq.ofs t s)).map encStr)) := ⟨hl1, hb1, by rw [enc11, hN]; exact hrow⟩
  rw [← hN] at hrow
  obtain ⟨va, vc, ev, hj1, hj2⟩ := row_form hrow
  subst ev
  have hN5 : N ≤ 500 := by rw [hN]; exact Tq.ofs_len HS.out.2.2.1 s
  clear hrow hl1 hb1 hj1 hj2 hN
  have HSRT : Hid (Calls Tryz.prog 82 #[.slice va N vc, .func (.func 83) #[] #[]] w1 fun e w' => e = .returned (.tuple #[]) ∧ ∃ ts, List.Perm ts (Tq.ofs t s) ∧ (dl11 ts).Pairwise (fun x y => deepB y x = false) ∧ Pu12 LT w w' q t F F (.slice va N vc) ts) := by
    have hoff : Off11 F (.slice va N vc) := fun k hk e => by
      have := (H1.out.2.2.lt k hk).1
      have := HS.out.2.2.2.2.2 k e
      omega
    by_cases h0 : N = 0
    · have hz : Tq.ofs t s = [] := List.length_eq_zero_iff.1 (by rw [← HN.out]; exact h0)
      have hr := H1.out.2.2
      rw [h0] at hr hoff ⊢
      refine (@Tryz.slices_SortFunc_none P12 P12.some_ va vc _ w1).mono ?_
      rintro e w' ⟨rfl, hw⟩
      rw [hw]
      refine ⟨rfl, [], by rw [hz], List.Pairwise.nil, H1.out.1, Moved.of_below F H1.out.2.1, ?_, hoff⟩
      rw [hz] at hr
      exact hr
    · obtain ⟨g, cap, hu, hbg, hgl, hncap, hcm, hlen, hH⟩ := Lib.holds_of_ownsRow H1.out.2.2 (fun e => by
        have h := H1.out.2.2.2
        rw [e] at h
        rcases h with ⟨_, h⟩ | ⟨_, _, _, h, _⟩
        · exact h0 h
        · cases h)
      simp only [Value.slice.injEq] at hu
      obtain ⟨rfl, _, rfl⟩ := hu
      have key := sortf12 g vc (dl11 (Tq.ofs t s)) w1 (fun x hx => by
        obtain ⟨p, hp, rfl⟩ := List.mem_map.1 hx
        exact good_len12 (Tq.ofs_good HS.out.2.2.1 hp)) hH hgl (by rw [hlen]; omega)
      rw [hlen] at key
      refine key.mono ?_
      rintro e w' ⟨rfl, n, os, ts, hw, hp, hpw⟩
      have hg := grownBy_sorted (w := w1) (g := g) (n := n) (os := os) ts.toArray
      rw [← hw] at hg
      refine ⟨rfl, ts.map Tq.tb, by have h := hp.map Tq.tb; rw [tb_dl] at h; exact h, by rw [dl_tb]; exact hpw, HS.out.1.keep H1.out.1 (fun k hk => hg.block k (HS.out.1.lt H1.out.1 hk) (by have := HS.out.2.2.2.2.2 k hk; simp; omega)), ?_, ?_, hoff⟩
      · have hb := H1.out.2.1
        exact Moved.of_below F (hb.grown hg hb.size (fun k hk => by simp at hk; omega))
      · rcases H1.out.2.2.2 with ⟨h0', _⟩ | ⟨g', cap', cur, hv, hbase, hb, h1, h2, h3, h4⟩
        · cases h0'
        cases hv
        have hl2 : ts.length = (dl11 (Tq.ofs t s)).length := hp.length_eq
        have hs := ownsRow_sorted (n := n) (os := os) (ts := ts) (ss := dl11 (Tq.ofs t s)) hl2 hbase hb (by rw [hlen]; exact h1) h2 h3
        rw [← hw, hlen] at hs
        rw [List.length_map, hl2, hlen]
        have e : sc (ts.map Tq.tb) = ts.map encStr := by rw [← enc11, dl_tb]
        rw [e]
        exact hs
  go_wp2_with fail
  refine HSRT.out.mono ?_
  rintro e w2 ⟨rfl, ts, hp, hpw, hPu⟩
  have HT : Hid (List.Perm ts (Tq.ofs t s) ∧ (dl11 ts).Pairwise (fun x y => deepB y x = false) ∧ ts.length = N) := ⟨hp, hpw, by rw [hp.length_eq]; exact HN.out.symm⟩
  have H2 : Hid (Pu12 LT w w2 q t F F (.slice va N vc) ts) := hPu
  clear hp hpw hPu HSRT H1
  go_wp2
  go_loopw [15] (fun i wr => ∃ (k : Nat) (F' : Nat → Prop), k ≤ N ∧ i = .int .i64 (k : Int) ∧ Pu12 LT w wr q (Tq.drops t (ts.take k)) F F' (.slice va N vc) ts) (fun i _ => N - (intOf i).toNat)
  case atStart => exact ⟨0, F, Nat.zero_le _, rfl, H2.out⟩
  case round =>
    obtain ⟨k, F3, hk, rfl, hP⟩ := hrel
    have H3 : Hid (Pu12 LT w wr q (Tq.drops t (ts.take k)) F F3 (.slice va N vc) ts) := hP
    clear hP H2
    by_cases hlt : k < N
    · have hlt' : (k : Int) < (N : Int) := by omega
      have hk0 : (0 : Int) ≤ (k : Int) := by omega
      have hwk : IntKind.wrap .i64 ((k : Int) + 1) = (k : Int) + 1 := by rw [IntKind.wrap_i64]; omega
      have hkl : k < ts.length := by have := HT.out.2.2; omega
      obtain ⟨p, hp⟩ : ∃ p, ts[k]? = some p := ⟨_, List.getElem?_eq_getElem hkl⟩
      have HP : Hid (ts[k]? = some p ∧ Pl.goodB p.data.toList = true) := ⟨hp, Tq.ofs_good HS.out.2.2.1 (HT.out.1.mem_iff.1 (List.mem_of_getElem? hp))⟩
      obtain ⟨ra, rc, er, hj3, hrg⟩ := row_form H3.out.row
      obtain ⟨g, hg⟩ := hrg (by omega)
      simp only [Value.slice.injEq] at er
      obtain ⟨e1, e2, e3⟩ := er
      subst hg e1
      have lx : wr.cell? ⟨g, k, none⟩ = some (.string p) := by
        have hrw := H3.out.row
        rw [HT.out.2.2] at hrw
        rw [hrw.cellAt k (show k < N * 1 by omega)]
        unfold sc
        rw [List.getElem?_map, hp]
        rfl
      clear e2 e3 hj3 hp hkl
      obtain ⟨t3, ht3⟩ : ∃ t3, t3 = Tq.drops t (ts.take k) := ⟨_, rfl⟩
      have HT3 : Hid (t3 = Tq.drops t (ts.take k) ∧ Fine11 t3) := ⟨ht3, by rw [ht3]; exact Tq.fine_drops HS.out.2.2.1⟩
      rw [← ht3] at H3
      clear ht3
      go_wp2_with fail
      clear lx
      refine (HS.out.2.1.drop q t3 F3 p wr H3.out.ld HT3.out.2 (fun j hj => (H3.out.mv.sub j hj).elim (HS.out.2.2.2.1 j) (fun h => Nat.le_trans HS.out.2.2.2.2.1.size h)) (HS.out.2.2.2.2.1.moved H3.out.mv HS.out.2.2.2.1) HP.out.2).mono ?_
      rintro e w4 ⟨bb, F4, rfl, hl4, hm4⟩
      have H4 : Hid (Pu12 LT w w4 q (Tq.drops t (ts.take (k + 1))) F F4 (.slice (some ⟨g, 0, none⟩) N vc) ts) := by
        have e : ts.take (k + 1) = ts.take k ++ [p] := by rw [List.take_add_one, HP.out.1]; rfl
        rw [e, Tq.drops_snoc, ← HT3.out.1]
        exact H3.out.step hl4 hm4
      clear hl4 hm4
      go_wp2
      go_roundw
      case rel => exact ⟨k + 1, F4, by omega, by go_num, H4.out⟩
      case measure => simp [intOf]; omega
    · have hlt' : ¬ (k : Int) < (N : Int) := by omega
      have HE : Hid (ts.take k = ts) := List.take_of_length_le (by have := HT.out.2.2; omega)
      go_wp2
      go_ret
      exact ⟨F3, _, rfl, ts, HT.out.1, HT.out.2.1, by have h := H3.out; rw [HE.out] at h; exact h⟩
end Go.Proofs.YtfcbdjjbchcpjaaGreatDoor
