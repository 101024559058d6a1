/- Purge's order: more names first, alike ones by their texts; what slices.SortFunc makes of it. What multi's Purge does. What Of answers lies in a row of the call's own. -/
import Derived.Test.YtboejbjobjhajaaGreatDoorShelf12
import Derived.Test.YtboejbjobjhajaaGreatDoorWpc
import Derived.Sort.OwnSorted
import Derived.Test.YtboejbjobjhajaaGreatDoorPm2
import Derived.Test.YtboejbjobjhajaaGreatDoorSpecs11
import Derived.Lib.OwnBridge
namespace Go.Proofs.YtboejbjobjhajaaGreatDoor
open Go.RowKit Go.Sort

theorem cmp_less : ∀ (a b : List UInt8), Lib.compareBytes a b < 0 ↔ Op.bytesLess a b = true
  | [], [] => by simp [Lib.compareBytes, Op.bytesLess]
  | [], _ :: _ => by simp [Lib.compareBytes, Op.bytesLess]
  | _ :: _, [] => by simp [Lib.compareBytes, Op.bytesLess]
  | a :: x, b :: y => by
    have ih := cmp_less x y
    unfold Lib.compareBytes
    simp only [Op.bytesLess, Bool.or_eq_true, decide_eq_true_eq, Bool.and_eq_true, beq_iff_eq]
    by_cases h1 : a < b
    · rw [if_pos h1]
      simp [h1]
    · rw [if_neg h1]
      by_cases h2 : b < a
      · rw [if_pos h2]
        constructor
        · intro h
          exact absurd h (by decide)
        · rintro (h | ⟨rfl, _⟩)
          · exact absurd h h1
          · exact absurd h2 (UInt8.lt_irrefl _)
      · rw [if_neg h2, ih]
        have e : a = b := UInt8.le_antisymm (UInt8.not_lt.1 h2) (UInt8.not_lt.1 h1)
        simp [e]
def dep (l : List UInt8) : Nat := Lib.countByte l 47
def deepB (x y : List UInt8) : Bool := decide (dep y < dep x) || (decide (dep y = dep x) && Op.bytesLess x y)
theorem deep_iff {x y : List UInt8} : deepB x y = true ↔ dep y < dep x ∨ (dep y = dep x ∧ Op.bytesLess x y = true) := by unfold deepB; simp
theorem deep_irrefl (x : List UInt8) : deepB x x = false := by unfold deepB; simp [Kq.less_irrefl]
theorem deep_trans {x y z : List UInt8} (h : deepB x y = true) (k : deepB y z = true) : deepB x z = true := by
  rw [deep_iff] at h k ⊢
  rcases h with h | ⟨h1, h2⟩
  · rcases k with k | ⟨k1, k2⟩
    · exact Or.inl (by omega)
    · exact Or.inl (by omega)
  · rcases k with k | ⟨k1, k2⟩
    · exact Or.inl (by omega)
    · exact Or.inr ⟨by omega, Kq.less_trans h2 k2⟩
theorem deep_total {x y : List UInt8} (h : deepB x y = false) (k : deepB y x = false) : x = y := by
  have h1 : ¬ (dep y < dep x ∨ (dep y = dep x ∧ Op.bytesLess x y = true)) := fun e => by rw [deep_iff.2 e] at h; cases h
  have k1 : ¬ (dep x < dep y ∨ (dep x = dep y ∧ Op.bytesLess y x = true)) := fun e => by rw [deep_iff.2 e] at k; cases k
  have e : dep x = dep y := by omega
  refine Kq.less_total ?_ ?_
  · cases hb : Op.bytesLess x y with
    | false => rfl
    | true => exact absurd (Or.inr ⟨e.symm, hb⟩) h1
  · cases hb : Op.bytesLess y x with
    | false => rfl
    | true => exact absurd (Or.inr ⟨e, hb⟩) k1
theorem deep_swo {x y z : List UInt8} (h : deepB x y = false) (k : deepB y z = false) : deepB x z = false := by
  cases hz : deepB x z with
  | false => rfl
  | true =>
    cases h1 : deepB y x with
    | false => rw [deep_total h h1, k] at hz; cases hz
    | true => rw [deep_trans h1 hz] at k; cases k

def cfT (a b : List UInt8) : Int := if ((dep b : Int) - (dep a : Int)) = 0 then Lib.compareBytes a b else (dep b : Int) - (dep a : Int)
theorem cfT_deep (a b : List UInt8) : decide (cfT a b < 0) = deepB a b := by
  unfold cfT deepB
  by_cases h : ((dep b : Int) - (dep a : Int)) = 0
  · have e : dep b = dep a := by omega
    rw [if_pos h, e]
    simp [cmp_less]
  · have e : ¬ dep b = dep a := by omega
    rw [if_neg h]
    by_cases h2 : dep b < dep a
    · have h3 : (dep b : Int) - (dep a : Int) < 0 := by omega
      simp [h2, h3]
    · have h3 : ¬ ((dep b : Int) - (dep a : Int) < 0) := by omega
      simp [h2, h3, e]

set_option maxRecDepth 20000 in
set_option maxHeartbeats 1000000 in
theorem depth_any12 (x : ByteArray) (w : World) : Calls Tryz.prog 168 #[.string x] w fun e w' => e = .returned (.int .i64 (dep x.data.toList : Int)) ∧ w' = w := by
  go_enter Tryz.func168, Tryz.ntmps168
  go_wp2_with fail
  refine (Tryz.strings_Count_one x 47 w).mono ?_
  rintro e w' ⟨rfl, hw⟩
  rw [hw]
  clear hw w'
  go_wp2
  go_ret
  exact ⟨rfl, rfl⟩
theorem dep_le (x : List UInt8) : dep x ≤ x.length := List.count_le_length

set_option maxRecDepth 20000 in
set_option maxHeartbeats 2000000 in
theorem deepFirst_any12 (x y : ByteArray) (w : World) (hx : x.data.toList.length ≤ 1000) (hy : y.data.toList.length ≤ 1000) : Calls Tryz.prog 140 #[.string x, .string y] w fun e w' => e = .returned (.int .i64 (cfT x.data.toList y.data.toList)) ∧ w' = w := by
  obtain ⟨a, ha⟩ : ∃ a, a = dep x.data.toList := ⟨_, rfl⟩
  obtain ⟨b, hb⟩ : ∃ b, b = dep y.data.toList := ⟨_, rfl⟩
  have h1 := dep_le x.data.toList
  have h2 := dep_le y.data.toList
  have hA : a ≤ 1000 := by omega
  have hB : b ≤ 1000 := by omega
  have HD : Hid (cfT x.data.toList y.data.toList = if ((b : Int) - (a : Int)) = 0 then Lib.compareBytes x.data.toList y.data.toList else (b : Int) - (a : Int)) := by
    have e : cfT x.data.toList y.data.toList = if ((b : Int) - (a : Int)) = 0 then Lib.compareBytes x.data.toList y.data.toList else (b : Int) - (a : Int) := by rw [ha, hb]; rfl
    exact e
  have HX : Hid (Calls Tryz.prog 168 #[.string x] w fun e w' => e = .returned (.int .i64 (a : Int)) ∧ w' = w) := by
    have h := depth_any12 x w
    rw [← ha] at h
    exact h
  have HY : Hid (Calls Tryz.prog 168 #[.string y] w fun e w' => e = .returned (.int .i64 (b : Int)) ∧ w' = w) := by
    have h := depth_any12 y w
    rw [← hb] at h
    exact h
  have hwr : IntKind.wrap .i64 ((b : Int) - (a : Int)) = (b : Int) - (a : Int) := by rw [IntKind.wrap_i64]; omega
  clear h1 h2 hx hy ha hb
  go_enter Tryz.func140, Tryz.ntmps140
  go_wp2_with fail
  refine HY.out.mono ?_
  rintro e w' ⟨rfl, hw⟩
  rw [hw]
  clear hw w'
  go_wp2_with fail
  refine HX.out.mono ?_
  rintro e w' ⟨rfl, hw⟩
  rw [hw]
  clear hw w'
  obtain ⟨d, hd⟩ : ∃ d, d = (b : Int) - (a : Int) := ⟨_, rfl⟩
  rw [← hd] at HD hwr
  by_cases hz : d = 0
  · have HZ : Hid (cfT x.data.toList y.data.toList = Lib.compareBytes x.data.toList y.data.toList) := by
      have e : cfT x.data.toList y.data.toList = Lib.compareBytes x.data.toList y.data.toList := by rw [HD.out, if_pos hz]
      exact e
    have hab : (b : Int) - (a : Int) = 0 := by omega
    clear hd hwr
    go_wp2_with fail
    refine (Tryz.strings_Compare x y w).mono ?_
    rintro e w' ⟨rfl, hw⟩
    rw [hw]
    clear hw w'
    go_wp2
    go_ret
    exact ⟨by rw [HZ.out]; rfl, rfl⟩
  · have HZ : Hid (cfT x.data.toList y.data.toList = (b : Int) - (a : Int)) := by
      have e : cfT x.data.toList y.data.toList = (b : Int) - (a : Int) := by rw [HD.out, if_neg hz, hd]
      exact e
    have hab : (((b : Int) - (a : Int)) != 0) = true := by rw [← hd]; simp [hz]
    rw [hd] at hwr
    clear hd hz
    go_wp2
    go_ret
    exact ⟨by rw [HZ.out]; rfl, rfl⟩

abbrev P12 := { l : List UInt8 // l.length ≤ 1000 }
abbrev P12.some_ : Inhabited P12 := ⟨⟨[], by decide⟩⟩
theorem at12 (d : List P12) (j : Nat) (hj : j < d.length) : (@getElem! (Array P12) Nat P12 (fun xs i => i < xs.size) _ P12.some_ d.toArray j) = d[j] := by
  have h := @getElem!_pos (Array P12) Nat P12 (fun xs i => i < xs.size) _ _ P12.some_ d.toArray j (by simpa using hj)
  rw [h]
  simp
theorem swo12 : SWO (ltOf fun x y : P12 => cfT x.1 y.1) := by
  have e : ∀ x y : P12, ltOf (fun x y : P12 => cfT x.1 y.1) x y = deepB x.1 y.1 := fun x y => cfT_deep x.1 y.1
  refine ⟨fun x => ?_, fun x y z h k => ?_, fun x y z h k => ?_⟩
  · rw [e]
    exact deep_irrefl _
  · rw [e] at h k ⊢
    exact deep_trans h k
  · rw [e] at h k ⊢
    exact deep_swo h k
theorem putCells12 (d : List P12) (off : Nat) (c : Array Value) : @putCells P12 P12.some_ (fun x => encStr x.1) off d.toArray c = putCells encStr off (d.map (·.1)).toArray c := by
  unfold putCells
  apply Array.ext
  · simp
  · intro i h1 h2
    simp only [Array.getElem_mapIdx, List.size_toArray, List.length_map]
    by_cases hi : off ≤ i ∧ i < off + d.length
    · rw [if_pos hi, if_pos hi]
      have hj : i - off < d.length := by omega
      rw [at12 d (i - off) hj, getElem!_pos (d.map (·.1)).toArray (i - off) (by simpa using hj)]
      simp
    · rw [if_neg hi, if_neg hi]
set_option maxHeartbeats 1000000 in
theorem sortf12 (g cap : Nat) (ss : List (List UInt8)) (w : World) (hss : ∀ s ∈ ss, s.length ≤ 1000) (hH : Holds encStr w g 0 ss.toArray) (hg : g < w.heap.size) (hn : ss.length ≤ 100000) :
    Calls Tryz.prog 139 #[.slice (some ⟨g, 0, none⟩) ss.length cap, .func (.func 140) #[] #[]] w fun e w' => e = .returned (.tuple #[]) ∧ ∃ n os ts, w' = grow (putRow encStr (Sort.ahead w n) g 0 ts.toArray) os ∧ List.Perm ts ss ∧ ts.Pairwise (fun x y => deepB y x = false) := by
  obtain ⟨d, hd⟩ : ∃ d : List P12, d.map (·.1) = ss := ⟨ss.attach.map fun s => ⟨s.1, hss s.1 s.2⟩, by rw [List.map_map]; exact List.attach_map_subtype_val ss⟩
  have hlen : d.length = ss.length := by rw [← hd, List.length_map]
  have hH2 : @Holds P12 P12.some_ (fun x => encStr x.1) w g 0 d.toArray := by
    intro j hj
    have h := hH j (by rw [List.size_toArray, ← hlen]; simpa using hj)
    have hj2 : j < d.length := by simpa using hj
    rw [at12 d j hj2]
    rw [getElem!_pos ss.toArray j (by rw [List.size_toArray, ← hlen]; exact hj2)] at h
    have e : ss[j]'(by omega) = (d[j]).1 := by
      have h2 : (d.map (·.1))[j]'(by rw [List.length_map]; exact hj2) = (d[j]).1 := List.getElem_map ..
      rw [← h2]
      congr 1
      exact hd.symm
    simp only [List.getElem_toArray] at h ⊢
    rw [e] at h
    exact h
  have hcmp : @CmpLays1 P12 P12.some_ Tryz.prog 140 #[] (fun x => encStr x.1) (fun x y => cfT x.1 y.1) g 0 d.toArray.size w := fun m os dk _ x y => by
    refine (deepFirst_any12 ⟨x.1.toArray⟩ ⟨y.1.toArray⟩ _ (by simpa using x.2) (by simpa using y.2)).mono ?_
    rintro e w' ⟨rfl, hw⟩
    exact ⟨by simp, 0, #[], by rw [hw]; simp [World.drewN]⟩
  have key := @Tryz.slices_SortFunc_total P12 P12.some_ (fun x => encStr x.1) (fun x => rfl) (fun x y => cfT x.1 y.1) swo12 140 #[] g 0 cap d.toArray w (enters_of Tryz.func140 (by kernel_rfl) rfl) hcmp hH2 hg (by rw [List.size_toArray]; omega) (fun x y h k => by
    have e : ∀ x y : P12, ltOf (fun x y : P12 => cfT x.1 y.1) x y = deepB x.1 y.1 := fun x y => cfT_deep x.1 y.1
    rw [e] at h k
    exact Subtype.ext (deep_total h k))
  rw [List.size_toArray, hlen] at key
  refine key.mono ?_
  rintro e w' ⟨rfl, n, os, rfl⟩
  obtain ⟨M, hM⟩ : ∃ M : List P12, M = d.mergeSort (fun x y => !(ltOf (fun x y : P12 => cfT x.1 y.1)) y x) := ⟨_, rfl⟩
  refine ⟨rfl, n, os, M.map (·.1), ?_, ?_, ?_⟩
  · rw [← hM]
    unfold sortWorld putRow
    rw [show (@putCells P12 P12.some_ (fun x => encStr x.1) 0 M.toArray) = putCells encStr 0 (M.map (·.1)).toArray from funext fun c => putCells12 M 0 c]
  · rw [← hd, hM]
    exact (List.mergeSort_perm d _).map _
  · rw [List.pairwise_map, hM]
    have e : ∀ x y : P12, ltOf (fun x y : P12 => cfT x.1 y.1) x y = deepB x.1 y.1 := fun x y => cfT_deep x.1 y.1
    refine (List.pairwise_mergeSort (le := fun x y => !(ltOf (fun x y : P12 => cfT x.1 y.1)) y x) (fun a b c h1 h2 => ?_) (fun a b => ?_) d).imp (fun {a b} h => ?_)
    · rw [e] at h1 h2 ⊢
      simp only [Bool.not_eq_true'] at h1 h2 ⊢
      exact deep_swo h2 h1
    · rw [e, e]
      cases h1 : deepB b.1 a.1 with
      | false => rfl
      | true =>
        cases h2 : deepB a.1 b.1 with
        | false => rfl
        | true => have h3 := deep_trans h1 h2; rw [deep_irrefl] at h3; cases h3
    · rw [e] at h
      simpa using h
end Go.Proofs.YtboejbjobjhajaaGreatDoor
namespace Go.Proofs.YtboejbjobjhajaaGreatDoor
open Go.RowKit Go.Sort

structure SpecP12 (LT : Rep11) : Prop where
  ofo : ∀ (q : Nat) (t : Tq.Tr) (F : Nat → Prop) (s : Int) (w : World), LT w q t F → Fine11 t →
    Calls Tryz.prog 59 #[dptr q, .int .i64 s] w fun e w' => ∃ v, e = .returned v ∧ w'.ownsRow w.heap.size 9 1 v (Tq.ofs t s).length (sc (Tq.ofs t s)) ∧ LT w' q t F ∧ Below w.heap.size w w'
  drop : ∀ (q : Nat) (t : Tq.Tr) (F : Nat → Prop) (p : ByteArray) (w : World), LT w q t F → Fine11 t → (∀ k, F k → 6 ≤ k) → Pa.Std w → Pl.goodB p.data.toList = true →
    Calls Tryz.prog 141 #[dptr q, .string p] w fun e w' => ∃ b F', e = .returned (.bool b) ∧ LT w' q (Tq.dropT t p) F' ∧ Moved w w' F F'

theorem good_len12 {p : ByteArray} (h : Pl.goodB p.data.toList = true) : p.data.toList.length ≤ 1000 := by
  have := (Pl.good_parts h).2.2
  omega
theorem dl_tb (ts : List (List UInt8)) : dl11 (ts.map Tq.tb) = ts := by
  unfold dl11
  rw [List.map_map]
  have e : ((fun s : ByteArray => s.data.toList) ∘ Tq.tb) = id := funext fun l => Tq.tb_data l
  rw [e, List.map_id]
theorem tb_dl (L : List ByteArray) : (dl11 L).map Tq.tb = L := by
  unfold dl11
  rw [List.map_map]
  have e : (Tq.tb ∘ fun s : ByteArray => s.data.toList) = id := funext fun p => Tq.tb_back p
  rw [e, List.map_id]

structure Pu12 (LT : Rep11) (W w : World) (q : Nat) (t : Tq.Tr) (F0 F : Nat → Prop) (v : Value) (ts : List ByteArray) : Prop where
  ld : LT w q t F
  mv : Moved W w F0 F
  row : w.ownsRow W.heap.size 9 1 v ts.length (sc ts)
  off : Off11 F v
theorem Pu12.step {LT : Rep11} {W w w' : World} {q : Nat} {t t' : Tq.Tr} {F0 F F' : Nat → Prop} {v : Value} {ts : List ByteArray} (h : Pu12 LT W w q t F0 F v ts) (hl : LT w' q t' F') (hm : Moved w w' F F') : Pu12 LT W w' q t' F0 F' v ts :=
  ⟨hl, h.mv.trans hm, row_stays h.row (fun k e => hm.block k (h.row.lt k e).2 (h.off k e)), fun k hk e => by
    rcases hm.sub k e with e | e
    · exact h.off k hk e
    · have := (h.row.lt k hk).2
      omega⟩

set_option maxRecDepth 20000 in
set_option maxHeartbeats 4000000 in
theorem purge_any12 {LT : Rep11} (S : Specs11 LT) (P : SpecP12 LT) (q : Nat) (t : Tq.Tr) (F : Nat → Prop) (s : Int) (w : World) (hL : LT w q t F) (hf : Fine11 t) (h6 : ∀ k, F k → 6 ≤ k) (hS : Pa.Std w) :
    Calls Tryz.prog 105 #[dptr q, .int .i64 s] w fun e w' => ∃ F' v ts, e = .returned v ∧ List.Perm ts (Tq.ofs t s) ∧ (dl11 ts).Pairwise (fun x y => deepB y x = false) ∧ Pu12 LT w w' q (Tq.drops t ts) F F' v ts := by
  have HS : Hid (Specs11 LT ∧ SpecP12 LT ∧ Fine11 t ∧ (∀ k, F k → 6 ≤ k) ∧ Pa.Std w ∧ ∀ k, F k → k < w.heap.size) := ⟨S, P, hf, h6, hS, fun k hk => S.lt hL hk⟩
  have HL : Hid (LT w q t F) := hL
  clear S P hL hf h6 hS
  unfold dptr
  go_enter Tryz.func105, Tryz.ntmps105
  go_wp2_with fail
  refine (HS.out.2.1.ofo q t F s w HL.out HS.out.2.2.1).mono ?_
  rintro e w1 ⟨v1, rfl, hrow, hl1, hb1⟩
  obtain ⟨N, hN⟩ : ∃ N, N = (Tq.ofs t s).length := ⟨_, rfl⟩
  have HN : Hid (N = (Tq.ofs t s).length) := hN
  have H1 : Hid (LT w1 q t F ∧ Below w.heap.size w w1 ∧ w1.ownsRow w.heap.size 9 1 v1 N ((dl11 (Tq.ofs t s)).map encStr)) := ⟨hl1, hb1, by rw [enc11, hN]; exact hrow⟩
  rw [← hN] at hrow
  obtain ⟨va, vc, ev, hj1, hj2⟩ := row_form hrow
  subst ev
  have hN5 : N ≤ 500 := by rw [hN]; exact Tq.ofs_len HS.out.2.2.1 s
  clear hrow hl1 hb1 hj1 hj2 hN
  have HSRT : Hid (Calls Tryz.prog 139 #[.slice va N vc, .func (.func 140) #[] #[]] w1 fun e w' => e = .returned (.tuple #[]) ∧ ∃ ts, List.Perm ts (Tq.ofs t s) ∧ (dl11 ts).Pairwise (fun x y => deepB y x = false) ∧ Pu12 LT w w' q t F F (.slice va N vc) ts) := by
    have hoff : Off11 F (.slice va N vc) := fun k hk e => by
      have := (H1.out.2.2.lt k hk).1
      have := HS.out.2.2.2.2.2 k e
      omega
    by_cases h0 : N = 0
    · have hz : Tq.ofs t s = [] := List.length_eq_zero_iff.1 (by rw [← HN.out]; exact h0)
      have hr := H1.out.2.2
      rw [h0] at hr hoff ⊢
      refine (@Tryz.slices_SortFunc_none P12 P12.some_ va vc _ w1).mono ?_
      rintro e w' ⟨rfl, hw⟩
      rw [hw]
      refine ⟨rfl, [], by rw [hz], List.Pairwise.nil, H1.out.1, Moved.of_below F H1.out.2.1, ?_, hoff⟩
      rw [hz] at hr
      exact hr
    · obtain ⟨g, cap, hu, hbg, hgl, hncap, hcm, hlen, hH⟩ := Lib.holds_of_ownsRow H1.out.2.2 (fun e => by
        have h := H1.out.2.2.2
        rw [e] at h
        rcases h with ⟨_, h⟩ | ⟨_, _, _, h, _⟩
        · exact h0 h
        · cases h)
      simp only [Value.slice.injEq] at hu
      obtain ⟨rfl, _, rfl⟩ := hu
      have key := sortf12 g vc (dl11 (Tq.ofs t s)) w1 (fun x hx => by
        obtain ⟨p, hp, rfl⟩ := List.mem_map.1 hx
        exact good_len12 (Tq.ofs_good HS.out.2.2.1 hp)) hH hgl (by rw [hlen]; omega)
      rw [hlen] at key
      refine key.mono ?_
      rintro e w' ⟨rfl, n, os, ts, hw, hp, hpw⟩
      have hg := grownBy_sorted (w := w1) (g := g) (n := n) (os := os) ts.toArray
      rw [← hw] at hg
      refine ⟨rfl, ts.map Tq.tb, by have h := hp.map Tq.tb; rw [tb_dl] at h; exact h, by rw [dl_tb]; exact hpw, HS.out.1.keep H1.out.1 (fun k hk => hg.block k (HS.out.1.lt H1.out.1 hk) (by have := HS.out.2.2.2.2.2 k hk; simp; omega)), ?_, ?_, hoff⟩
      · have hb := H1.out.2.1
        exact Moved.of_below F (hb.grown hg hb.size (fun k hk => by simp at hk; omega))
      · rcases H1.out.2.2.2 with ⟨h0', _⟩ | ⟨g', cap', cur, hv, hbase, hb, h1, h2, h3, h4⟩
        · cases h0'
        cases hv
        have hl2 : ts.length = (dl11 (Tq.ofs t s)).length := hp.length_eq
        have hs := ownsRow_sorted (n := n) (os := os) (ts := ts) (ss := dl11 (Tq.ofs t s)) hl2 hbase hb (by rw [hlen]; exact h1) h2 h3
        rw [← hw, hlen] at hs
        rw [List.length_map, hl2, hlen]
        have e : sc (ts.map Tq.tb) = ts.map encStr := by rw [← enc11, dl_tb]
        rw [e]
        exact hs
  go_wp2_with fail
  refine HSRT.out.mono ?_
  rintro e w2 ⟨rfl, ts, hp, hpw, hPu⟩
  have HT : Hid (List.Perm ts (Tq.ofs t s) ∧ (dl11 ts).Pairwise (fun x y => deepB y x = false) ∧ ts.length = N) := ⟨hp, hpw, by rw [hp.length_eq]; exact HN.out.symm⟩
  have H2 : Hid (Pu12 LT w w2 q t F F (.slice va N vc) ts) := hPu
  clear hp hpw hPu HSRT H1
  go_wp2
  go_loopw [15] (fun i wr => ∃ (k : Nat) (F' : Nat → Prop), k ≤ N ∧ i = .int .i64 (k : Int) ∧ Pu12 LT w wr q (Tq.drops t (ts.take k)) F F' (.slice va N vc) ts) (fun i _ => N - (intOf i).toNat)
  case atStart => exact ⟨0, F, Nat.zero_le _, rfl, H2.out⟩
  case round =>
    obtain ⟨k, F3, hk, rfl, hP⟩ := hrel
    have H3 : Hid (Pu12 LT w wr q (Tq.drops t (ts.take k)) F F3 (.slice va N vc) ts) := hP
    clear hP H2
    by_cases hlt : k < N
    · have hlt' : (k : Int) < (N : Int) := by omega
      have hk0 : (0 : Int) ≤ (k : Int) := by omega
      have hwk : IntKind.wrap .i64 ((k : Int) + 1) = (k : Int) + 1 := by rw [IntKind.wrap_i64]; omega
      have hkl : k < ts.length := by have := HT.out.2.2; omega
      obtain ⟨p, hp⟩ : ∃ p, ts[k]? = some p := ⟨_, List.getElem?_eq_getElem hkl⟩
      have HP : Hid (ts[k]? = some p ∧ Pl.goodB p.data.toList = true) := ⟨hp, Tq.ofs_good HS.out.2.2.1 (HT.out.1.mem_iff.1 (List.mem_of_getElem? hp))⟩
      obtain ⟨ra, rc, er, hj3, hrg⟩ := row_form H3.out.row
      obtain ⟨g, hg⟩ := hrg (by omega)
      simp only [Value.slice.injEq] at er
      obtain ⟨e1, e2, e3⟩ := er
      subst hg e1
      have lx : wr.cell? ⟨g, k, none⟩ = some (.string p) := by
        have hrw := H3.out.row
        rw [HT.out.2.2] at hrw
        rw [hrw.cellAt k (show k < N * 1 by omega)]
        unfold sc
        rw [List.getElem?_map, hp]
        rfl
      clear e2 e3 hj3 hp hkl
      obtain ⟨t3, ht3⟩ : ∃ t3, t3 = Tq.drops t (ts.take k) := ⟨_, rfl⟩
      have HT3 : Hid (t3 = Tq.drops t (ts.take k) ∧ Fine11 t3) := ⟨ht3, by rw [ht3]; exact Tq.fine_drops HS.out.2.2.1⟩
      rw [← ht3] at H3
      clear ht3
      go_wp2_with fail
      clear lx
      refine (HS.out.2.1.drop q t3 F3 p wr H3.out.ld HT3.out.2 (fun j hj => (H3.out.mv.sub j hj).elim (HS.out.2.2.2.1 j) (fun h => Nat.le_trans HS.out.2.2.2.2.1.size h)) (HS.out.2.2.2.2.1.moved H3.out.mv HS.out.2.2.2.1) HP.out.2).mono ?_
      rintro e w4 ⟨bb, F4, rfl, hl4, hm4⟩
      have H4 : Hid (Pu12 LT w w4 q (Tq.drops t (ts.take (k + 1))) F F4 (.slice (some ⟨g, 0, none⟩) N vc) ts) := by
        have e : ts.take (k + 1) = ts.take k ++ [p] := by rw [List.take_add_one, HP.out.1]; rfl
        rw [e, Tq.drops_snoc, ← HT3.out.1]
        exact H3.out.step hl4 hm4
      clear hl4 hm4
      go_wp2
      go_roundw
      case rel => exact ⟨k + 1, F4, by omega, by go_num, H4.out⟩
      case measure => simp [intOf]; omega
    · have hlt' : ¬ (k : Int) < (N : Int) := by omega
      have HE : Hid (ts.take k = ts) := List.take_of_length_le (by have := HT.out.2.2; omega)
      go_wp2
      go_ret
      exact ⟨F3, _, rfl, ts, HT.out.1, HT.out.2.1, by have h := H3.out; rw [HE.out] at h; exact h⟩
end Go.Proofs.YtboejbjobjhajaaGreatDoor
namespace Go.Proofs.YtboejbjobjhajaaGreatDoor
open Go.RowKit Go.Sort
section
variable {w : World} {q m : Nat} {t : Tq.Tr} {G : Nat → Prop} {D : DataW Nat} {P : ByteArray → Nat} {V : ByteArray → Value}
set_option maxRecDepth 20000 in
set_option maxHeartbeats 4000000 in
theorem of_own12 (s : Int) (h : TkU w q t G m D P V) (hf : Fine11 t) :
    Calls Tryz.prog 59 #[dptr q, .int .i64 s] w fun e w' => ∃ v, e = .returned v ∧ w'.ownsRow w.heap.size 9 1 v (Tq.ofs t s).length (sc (Tq.ofs t s)) ∧ TkU w' q t G m D P V ∧ Below w.heap.size w w' := by
  have HD : Hid (TkU w q t G m D P V ∧ Fine11 t) := ⟨h, hf⟩
  have c0 : w.cell? ⟨q, 0, none⟩ = some (.map (some m)) := h.blk.cell 0
  clear h hf
  by_cases hs1 : s < 1
  · have HE : Hid (Tq.ofs t s = []) := by
      have e : Tq.ofs t s = [] := by unfold Tq.ofs; rw [if_neg (by omega)]
      exact e
    go_enter Tryz.func59, Tryz.ntmps59
    go_wp2
    go_ret
    exact ⟨_, rfl, by rw [HE.out]; exact World.ownsRow_nil _ _ _ _, HD.out.1, Below.refl _ _⟩
  have HE : Hid (Tq.ofs t s = (t.l.filter fun e => decide (e.2.owner = s)).map (·.1)) := by
    have e : Tq.ofs t s = (t.l.filter fun e => decide (e.2.owner = s)).map (·.1) := by unfold Tq.ofs; rw [if_pos (by omega)]
    exact e
  go_enter Tryz.func59, Tryz.ntmps59
  go_wp2_with (at_range; refine wpList_range_own _ rfl _ 111 rfl 9 151 keyed11 Tryz.underlying111 fElem m t.l.length D rfl HD.out.1.own ?_)
  intro w1 hrg0 hg0 hs0
  obtain ⟨r, hr⟩ : ∃ r, r = w.heap.size := ⟨_, rfl⟩
  have HS0 : Hid (OfS w w1 q r m t s G D P V (Maps.has D) (Maps.size D) [] (.slice none 0 0)) := by
    have hb : Below w.heap.size w w1 := ⟨hg0.os, hg0.tape, hg0.output, hg0.size, fun k hk => hg0.block k hk (by simp)⟩
    refine ⟨by rw [hr]; exact hrg0, HD.out.1.below hb, World.ownsRow_nil _ _ _ _, ?_, hb, by omega, by omega⟩
    rw [List.filter_eq_nil_iff.2 (fun e he => by rw [(HD.out.1.has _).2 ⟨e, he, rfl⟩]; simp)]
    exact List.Perm.nil
  rw [← hr]
  clear hr hrg0 hg0 hs0 c0
  go_wp2
  go_loopw [5] (fun v wr => ∃ left cnt ls, OfS w wr q r m t s G D P V left cnt ls v) (fun _ wr => wr.rangeLeft m r)
  case atStart => exact ⟨_, _, _, HS0.out⟩
  case round =>
    obtain ⟨left, cnt, ls, hS⟩ := hrel
    have HS : Hid (OfS w wr q r m t s G D P V left cnt ls u5) := hS
    clear HS0
    go_wp2_with (at_next; refine wpList_next_ranges _ rfl _ rfl 9 keyed11 fElem Value.string (fun o : Option Nat => .pointer (o.map fun p => ⟨p, 0, none⟩)) (fun key kl hk => by obtain ⟨x, rfl, _⟩ := Maps.keyOf_str Tryz.underlying9 hk; exact ⟨_, rfl⟩) (fun v y hv => fElem_inv hv) m r t.l.length D left cnt rfl hS.rg ?_ ?_)
    · intro _ hl0
      have HP : Hid (ls.Perm (Tq.ofs t s) ∧ ls.length ≤ 500) := by
        have h1 := HS.out.perm
        have e : (t.l.filter fun e => decide (e.2.owner = s) && !left (fkey e.1)) = t.l.filter fun e => decide (e.2.owner = s) := List.filter_congr (fun e _ => by rw [hl0]; simp)
        rw [e, ← HE.out] at h1
        refine ⟨h1, ?_⟩
        have h2 := h1.length_eq
        have h3 := HD.out.2.len
        have h4 := HD.out.2.room
        rw [HE.out, List.length_map] at h2
        have h5 := List.length_filter_le (fun e : Tq.En => decide (e.2.owner = s)) t.l
        omega
      obtain ⟨va, vc, rfl, _, hj⟩ := row_form hS.row
      clear hj hl0 hS
      obtain ⟨N, hN⟩ : ∃ N, N = ls.length := ⟨_, rfl⟩
      rw [← hN] at HS
      rw [← hN]
      have HN : Hid (N = ls.length) := hN
      clear hN
      have HRW : Hid (wr.ownsRow w.heap.size 9 1 (.slice va N vc) N ((dl11 ls).map encStr)) := by
        have e : wr.ownsRow w.heap.size 9 1 (.slice va N vc) N ((dl11 ls).map encStr) := by
          rw [enc11]
          have h := HS.out.row
          rw [← HN.out] at h
          exact h
        exact e
      by_cases hn0 : N = 0
      · have HZ : Hid (Tq.ofs t s = []) := by
          have e : Tq.ofs t s = [] := by
            have h := HP.out.1.length_eq
            rw [← HN.out, hn0] at h
            exact List.length_eq_zero_iff.1 h.symm
          exact e
        subst hn0
        go_wp2_with fail
        refine (AnyM.slices_Sort_string_none Tryz.sort va vc wr).mono ?_
        rintro e w2 ⟨rfl, hw2⟩
        rw [hw2]
        clear hw2
        go_wp2
        go_ret
        exact ⟨_, rfl, by (rw [HZ.out]; have h := HS.out.row; have e : ls = [] := List.length_eq_zero_iff.1 HN.out.symm; rw [e] at h; exact h), HS.out.tk, HS.out.below⟩
      · obtain ⟨g, cap, hu3, hbg, hgl, hncap, hcm, hlen, hH⟩ := Lib.holds_of_ownsRow HRW.out (fun e => by
          have h := HRW.out.2
          rw [e] at h
          rcases h with ⟨_, h⟩ | ⟨_, _, _, h, _⟩
          · exact hn0 h
          · cases h)
        simp only [Value.slice.injEq] at hu3
        obtain ⟨rfl, _, rfl⟩ := hu3
        have HX : Hid (w.heap.size ≤ g ∧ g < wr.heap.size ∧ N ≤ vc ∧ (dl11 ls).length = N ∧ Holds encStr wr g 0 (dl11 ls).toArray) := ⟨hbg, hgl, hncap, hlen, hH⟩
        clear hbg hgl hncap hcm hlen hH
        have hsort := AnyM.slices_Sort_string Tryz.sort g 0 vc (dl11 ls) wr HX.out.2.2.2.2 HX.out.2.1 (by rw [HX.out.2.2.2.1]; have := HP.out.2; have := HN.out; omega)
        rw [HX.out.2.2.2.1] at hsort
        have HSORT : Hid (Calls Tryz.prog 106 #[.slice (some ⟨g, 0, none⟩) N vc] wr fun e w' => e = .returned (.tuple #[]) ∧ ∃ n os, w' = grow (putRow encStr (Sort.ahead wr n) g 0 (List.mergeSort (dl11 ls) fun x y => decide (x ≤ y)).toArray) os) := hsort
        clear hsort
        go_wp2_with fail
        refine HSORT.out.mono ?_
        rintro e w2 ⟨rfl, nn, ob, hw2⟩
        have HFIN : Hid (w2.ownsRow w.heap.size 9 1 (.slice (some ⟨g, 0, none⟩) N vc) (Tq.ofs t s).length (sc (Tq.ofs t s)) ∧ Below w.heap.size w w2 ∧ TkU w2 q t G m D P V) := by
          rcases HRW.out.2 with ⟨h0, _⟩ | ⟨g', cap', cur, hv, hbase, hb, h1, h2, h3, h4⟩
          · cases h0
          cases hv
          have hg := grownBy_sorted (w := wr) (g := g) (n := nn) (os := ob) (List.mergeSort (dl11 ls) leB).toArray
          have hl2 : (List.mergeSort (dl11 ls) leB).length = (dl11 ls).length := List.length_mergeSort _
          have hs := ownsRow_sorted (n := nn) (os := ob) (ts := List.mergeSort (dl11 ls) leB) (ss := dl11 ls) hl2 hbase hb (by rw [HX.out.2.2.2.1]; exact h1) h2 h3
          have he : List.mergeSort (dl11 ls) leB = dl11 (Tq.ofs t s) := sort_eq11 (Tq.ofs_rises HD.out.2.rise s) (HP.out.1.map _)
          have hlo : N = (Tq.ofs t s).length := by rw [HN.out]; exact HP.out.1.length_eq
          rw [he, enc11, HX.out.2.2.2.1] at hs
          rw [he] at hg
          have hw3 : w2 = grow (putRow encStr (Sort.ahead wr nn) g 0 (dl11 (Tq.ofs t s)).toArray) ob := by rw [hw2]; exact congrArg (fun l : List (List UInt8) => grow (putRow encStr (Sort.ahead wr nn) g 0 l.toArray) ob) he
          rw [← hw3] at hs hg
          refine ⟨by rw [← hlo]; exact hs, HS.out.below.grown hg HS.out.below.size (fun k hk => by simp at hk; have := HX.out.1; omega), HS.out.tk.keep (fun k hk => hg.block k (HS.out.tk.glt k hk) (by have := HD.out.1.glt k hk; have := HX.out.1; simp; omega))⟩
        clear hw2
        go_wp2
        go_ret
        exact ⟨_, rfl, HFIN.out.1, HFIN.out.2.2, HFIN.out.2.1⟩
    · intro x c kl y ys w1 cnt1 hkey hlk hv hat hrg1 hlt hg1 hs1 hen
      obtain ⟨e0, he0, hkl⟩ := (HS.out.tk.has kl).1 (Maps.has_true_of_atKey hat)
      have hyp : y = .held (P e0.1) := by rw [← hat .nil, hkl, HS.out.tk.at_ e0 he0]
      obtain ⟨pb, hpb⟩ : ∃ pb, pb = P e0.1 := ⟨_, rfl⟩
      have hc : (Value.pointer (c.map fun p => ⟨p, 0, none⟩)) = dptr pb := fElem_held (ps := ys) (by rw [hv, hyp, hpb])
      have hx : x = e0.1 := by
        obtain ⟨xs, h1, h2, _⟩ := Maps.keyOf_str Tryz.underlying9 hkey
        rw [hkl] at h2
        unfold fkey at h2
        simp only [Lit.string.injEq] at h2
        simp only [Value.string.injEq] at h1
        rw [h1, ← h2]
      subst hx
      rw [hc] at hen ⊢
      have HS1 : Hid (OfS w w1 q r m t s G D P V left cnt1 ls u5 ∨ True) := Or.inr trivial
      have hb1 : Below w.heap.size w w1 := HS.out.below.grown hg1 HS.out.below.size (fun k hk => by simp at hk; have := HS.out.hi; omega)
      have htk1 : TkU w1 q t G m D P V := HS.out.tk.keep (fun k hk => hg1.block k (HS.out.tk.glt k hk) (by have := HD.out.1.glt k hk; have := HS.out.hi; simp; omega))
      have hrow1 : w1.ownsRow w.heap.size 9 1 u5 ls.length (sc ls) := row_stays HS.out.row (fun k hk => hg1.block k (HS.out.row.lt k hk).2 (fun e => row_ne_iter HS.out.row HS.out.rg (by rw [hk, e])))
      have HF : Hid (e0 ∈ t.l ∧ pb = P e0.1 ∧ kl = fkey e0.1 ∧ left kl = true ∧ cnt1 < cnt ∧ wr.rangeLeft m r = cnt ∧ w1.ranges Tryz.prog 9 fElem m r t.l.length D (fun z => left z && !z.sameKey kl) cnt1 ∧ TkU w1 q t G m D P V ∧ Below w.heap.size w w1 ∧ w1.ownsRow w.heap.size 9 1 u5 ls.length (sc ls) ∧ r < w1.heap.size) := ⟨he0, hpb, hkl, hlk, hlt, HS.out.rg.left_eq, hrg1, htk1, hb1, hrow1, by rw [hs1]; exact HS.out.lt⟩
      have HO : Hid (Own11 w1 pb e0.2 (V e0.1)) := by
        have e : Own11 w1 pb e0.2 (V e0.1) := by rw [hpb]; exact htk1.node e0 he0
        exact e
      have HLT : Hid (∀ f : Tq.En, f ∈ t.l → f.1 ≠ e0.1 → (left (fkey f.1) && !(fkey f.1).sameKey kl) = left (fkey f.1)) := fun f _ hne => by
        rw [hkl, Maps.sameKey_ne (fun e3 => hne (fkey_inj e3))]
        simp
      have HL0 : Hid ((left (fkey e0.1) && !(fkey e0.1).sameKey kl) = false) := by
        have e : (left (fkey e0.1) && !(fkey e0.1).sameKey kl) = false := by
          rw [hkl, WideAt.sameKey_self (fkey_lit (good_max (HD.out.2.nodes e0 he0).1))]
          simp
        exact e
      have n4 : w1.cell? ⟨pb, 4, none⟩ = some (.int .i64 e0.2.owner) := HO.out.blk.cell 4
      have hLS : ls.length ≤ 500 := by
        have h1 := HS.out.perm.length_eq
        rw [List.length_map] at h1
        have h2 := List.length_filter_le (fun e : Tq.En => decide (e.2.owner = s) && !left (fkey e.1)) t.l
        have h3 := HD.out.2.len
        have h4 := HD.out.2.room
        omega
      have HLS : Hid (ls.length ≤ 500) := hLS
      clear hkey hlk hv hat hrg1 hlt hg1 hs1 he0 hyp hc hpb hkl hb1 htk1 hrow1 hS hLS HS1
      by_cases how : e0.2.owner = s
      · have hob : (e0.2.owner == s) = true := by simp [how]
        have HPM : Hid ((ls ++ [e0.1]).Perm ((t.l.filter fun e => decide (e.2.owner = s) && !(left (fkey e.1) && !(fkey e.1).sameKey kl)).map (·.1))) := by
          refine ((HS.out.perm.append_right [e0.1]).trans ?_)
          refine (Tq.filt_step _ _ HD.out.2.rise HF.out.1 ?_ ?_ ?_).symm
          · rw [← HF.out.2.2.1, HF.out.2.2.2.1]
            simp
          · rw [HL0.out]
            simp [how]
          · intro e he hne
            rw [HLT.out e he hne]
        clear how
        obtain ⟨va, vc, hu, _, hj⟩ := row_form HF.out.2.2.2.2.2.2.2.2.2.1
        clear hj
        subst hu
        go_wp2_with (at_builtin; refine append_strs2 rfl _ _ rfl w.heap.size (.slice va ls.length vc) (.slice (some ⟨w1.heap.size, 0, none⟩) 1 1) ls [e0.1] (w1.alloc (.cells #[.string e0.1] 9)) rfl rfl (HF.out.2.2.2.2.2.2.2.2.2.1.alloc _) (by rw [World.size_alloc]; have := HF.out.2.2.2.2.2.2.2.2.1.size; omega) (Src.one w1 e0.1 9) (by have := HLS.out; simp; omega) ?_)
        intro v2 w2 hrow2 hb2 hg2
        have hba := (Below.refl _ w1).alloc (Nat.le_refl _) (.cells #[.string e0.1] 9)
        have hne : ∀ k, (∃ z, w1.heap[k]? = some z ∧ ¬ ∃ cs t f, z = .cells cs t f) → some k ≠ (Value.slice va ls.length vc).ownBlock := fun k hk e => by
          obtain ⟨z, h1, h2⟩ := hk
          obtain ⟨cur, h3⟩ := row_in HF.out.2.2.2.2.2.2.2.2.2.1 e.symm
          rw [h1] at h3
          exact h2 ⟨_, _, _, Option.some.inj h3⟩
        have HNX : Hid (OfS w w2 q r m t s G D P V (fun z => left z && !z.sameKey kl) cnt1 (ls ++ [e0.1]) v2) := by
          have hrr := HF.out.2.2.2.2.2.2.1
          have hk2 : ∀ k, k < w1.heap.size → some k ≠ (Value.slice va ls.length vc).ownBlock → w2.heap[k]? = w1.heap[k]? := fun k hk hne => (hg2.block k (by rw [World.size_alloc]; omega) hne).trans (hba.block k hk)
          have hm : some m ≠ (Value.slice va ls.length vc).ownBlock := fun e => by have := (HF.out.2.2.2.2.2.2.2.2.2.1.lt m e.symm).1; have := HD.out.1.glt m HD.out.1.gm; omega
          refine ⟨ranges_keep hrr (hk2 m (HF.out.2.2.2.2.2.2.2.1.glt m HD.out.1.gm) hm) (hk2 r HF.out.2.2.2.2.2.2.2.2.2.2 (row_ne_iter HF.out.2.2.2.2.2.2.2.2.2.1 hrr)), HF.out.2.2.2.2.2.2.2.1.keep (fun k hk => hk2 k (HF.out.2.2.2.2.2.2.2.1.glt k hk) (fun e => by have := (HF.out.2.2.2.2.2.2.2.2.2.1.lt k e.symm).1; have := HD.out.1.glt k hk; omega)), by (rw [List.length_append]; exact hrow2), HPM.out, (HF.out.2.2.2.2.2.2.2.2.1.trans (hba.mono HF.out.2.2.2.2.2.2.2.2.1.size)).trans hb2, ?_, HS.out.hi⟩
          have h1 := hg2.size
          rw [World.size_alloc] at h1
          have := HF.out.2.2.2.2.2.2.2.2.2.2
          omega
        clear hrow2 hb2 hg2 hba hne
        have HME : Hid (w2.rangeLeft m r < wr.rangeLeft m r) := by
          have e : w2.rangeLeft m r < wr.rangeLeft m r := by
            rw [HNX.out.rg.left_eq, HF.out.2.2.2.2.2.1]
            exact HF.out.2.2.2.2.1
          exact e
        go_wp2
        go_roundw
        case rel => exact ⟨_, _, _, HNX.out⟩
        case measure => exact HME.out
      · have hob : (e0.2.owner == s) = false := by simp [how]
        have HNX : Hid (OfS w w1 q r m t s G D P V (fun z => left z && !z.sameKey kl) cnt1 ls u5) := by
          refine ⟨HF.out.2.2.2.2.2.2.1, HF.out.2.2.2.2.2.2.2.1, HF.out.2.2.2.2.2.2.2.2.2.1, ?_, HF.out.2.2.2.2.2.2.2.2.1, HF.out.2.2.2.2.2.2.2.2.2.2, HS.out.hi⟩
          have e : (t.l.filter fun e => decide (e.2.owner = s) && !(left (fkey e.1) && !(fkey e.1).sameKey kl)) = t.l.filter fun e => decide (e.2.owner = s) && !left (fkey e.1) := List.filter_congr (fun f hf => by
            by_cases hne : f.1 = e0.1
            · rw [Tq.en_uniq HD.out.2.rise hf HF.out.1 hne]
              simp [how]
            · rw [HLT.out f hf hne])
          rw [e]
          exact HS.out.perm
        have HME : Hid (w1.rangeLeft m r < wr.rangeLeft m r) := by
          have e : w1.rangeLeft m r < wr.rangeLeft m r := by
            rw [HNX.out.rg.left_eq, HF.out.2.2.2.2.2.1]
            exact HF.out.2.2.2.2.1
          exact e
        clear how
        go_wp2
        go_roundw
        case rel => exact ⟨_, _, _, HNX.out⟩
        case measure => exact HME.out
end
end Go.Proofs.YtboejbjobjhajaaGreatDoor
