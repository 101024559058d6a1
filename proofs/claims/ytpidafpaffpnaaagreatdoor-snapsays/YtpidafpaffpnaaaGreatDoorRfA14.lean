/- The reference's Same, of names and of nodes; the statements' nd. Texts that lie apart from a tree; what the statements' own has answers; the reference's Parent and Name in a tree's words. The reference's tree as it lies: a row of entries; SameTree of two that are alike. A tree of the reference's that a statement has made, beside a tree that changes. What Node and Paths answer, and that they change nothing that was there: more than Specs11 says. The statements' own: a tree as the reference's. The statements' own: its walk. The statements' own: a tree as the reference's. -/
import Derived.Test.YtpidafpaffpnaaaGreatDoorWnd
import Derived.Laws.StructEq
import Derived.Laws.ResultCell
import Derived.Deep.Cut
import Derived.Deep.QuietTactic
import Derived.BigQuiet
import Derived.BigRegion
import Derived.Test.YtpidafpaffpnaaaGreatDoorPln
import Derived.Test.YtpidafpaffpnaaaGreatDoorLibQ14
import Derived.Test.YtpidafpaffpnaaaGreatDoorSpecs11
import Derived.Test.YtpidafpaffpnaaaGreatDoorBas
namespace Go.Proofs.YtpidafpaffpnaaaGreatDoor.Pw
open Go.RowKit

set_option maxRecDepth 20000 in
set_option maxHeartbeats 1000000 in
theorem same_any (u v : Value) (ss tt : List ByteArray) (w : World) (hu : Ss w u ss) (hv : Ss w v tt) (h1 : ss.length ≤ 1000) (h2 : tt.length ≤ 1000) :
    Calls Tryz.prog 24 #[u, v] w fun e w' => e = .returned (.bool (decide (ss = tt))) ∧ Below w.heap.size w w' := by
  obtain ⟨r, hr⟩ : ∃ r, r = decide (ss = tt) := ⟨_, rfl⟩
  rw [← hr]
  have HR : Hid (r = decide (ss = tt)) := hr
  obtain ⟨av, n, c, rfl, hn, hcs⟩ := hu
  obtain ⟨bv, m, d, rfl, hm, hds⟩ := hv
  have HN : Hid (n = ss.length) := hn
  have HM : Hid (m = tt.length) := hm
  have HC : Hid (∀ (j : Nat) s, ss[j]? = some s → ∃ g o, av = some ⟨g, o, none⟩ ∧ w.cell? ⟨g, o + j, none⟩ = some (.string s)) := hcs
  have HD : Hid (∀ (j : Nat) s, tt[j]? = some s → ∃ g o, bv = some ⟨g, o, none⟩ ∧ w.cell? ⟨g, o + j, none⟩ = some (.string s)) := hds
  have hn1 : n ≤ 1000 := by omega
  have hm1 : m ≤ 1000 := by omega
  clear hn hm hcs hds h1 h2 hr
  cases hne : ((n : Int) != (m : Int)) with
  | true =>
    have hnm : ss ≠ tt := by
      intro e
      have h : (n : Int) = m := by rw [HN.out, HM.out, e]
      rw [h] at hne; simp at hne
    have HF : Hid (r = false) := by rw [HR.out]; exact decide_eq_false hnm
    clear hnm
    go_enter Tryz.func24, Tryz.ntmps24
    go_wp2
    go_ret
    exact ⟨ret_bool HF.out.symm, Below.refl _ _⟩
  | false =>
    obtain rfl : n = m := by have h : (n : Int) = m := by simpa using hne
                             omega
    clear hne
    have hne : ((n : Int) != (n : Int)) = false := by simp
    go_enter Tryz.func24, Tryz.ntmps24
    go_wp2
    go_loopw [5] (fun i wr => ∃ k : Nat, k ≤ n ∧ i = .int .i64 k ∧ ss.take k = tt.take k ∧ Below w.heap.size w wr) (fun i _ => n - (intOf i).toNat)
    case atStart => exact ⟨0, Nat.zero_le _, rfl, rfl, Below.refl _ _⟩
    case round =>
      obtain ⟨k, hk, rfl, htk, hb⟩ := hrel
      have HB : Hid (Below w.heap.size w wr) := hb
      have HT : Hid (ss.take k = tt.take k) := htk
      clear hb htk
      by_cases hlt : k < n
      · obtain ⟨x, hx⟩ : ∃ x, ss[k]? = some x := ⟨ss[k]'(by rw [← HN.out]; exact hlt), List.getElem?_eq_getElem _⟩
        obtain ⟨y, hy⟩ : ∃ y, tt[k]? = some y := ⟨tt[k]'(by rw [← HM.out]; exact hlt), List.getElem?_eq_getElem _⟩
        obtain ⟨g, o, rfl, c1⟩ := HC.out k x hx
        obtain ⟨g2, o2, rfl, c2⟩ := HD.out k y hy
        have d1 : wr.cell? ⟨g, o + k, none⟩ = some (.string x) := Below.kept HB.out c1
        have d2 : wr.cell? ⟨g2, o2 + k, none⟩ = some (.string y) := Below.kept HB.out c2
        have HX : Hid (ss[k]? = some x) := hx
        have HY : Hid (tt[k]? = some y) := hy
        clear hx hy c1 c2
        have hlt' : (k : Int) < n := by omega
        have hk0 : (0 : Int) ≤ k := by omega
        cases he : (x.toList == y.toList) with
        | true =>
          have HE : Hid (x = y) := bytes_eq he
          go_wp2
          go_region
          go_wp2
          go_roundw
          case rel => exact ⟨k + 1, by omega, by go_num, by rw [List.take_add_one, List.take_add_one, HX.out, HY.out, HT.out, HE.out], HB.out.drew⟩
          case measure => simp [intOf]; omega
        | false =>
          have HF : Hid (r = false) := by
            rw [HR.out]
            refine decide_eq_false (fun e => ?_)
            have h := HX.out
            rw [e, HY.out] at h
            rw [Option.some.inj h] at he
            simp at he
          go_wp2
          go_region
          go_wp2
          go_ret
          exact ⟨ret_bool HF.out.symm, HB.out.drew⟩
      · have HG : Hid (r = true) := by
          rw [HR.out]
          refine decide_eq_true ?_
          have h := HT.out
          rwa [List.take_of_length_le (by rw [← HN.out]; omega), List.take_of_length_le (by rw [← HM.out]; omega)] at h
        go_wp2
        go_ret
        exact ⟨ret_bool HG.out.symm, HB.out⟩

end Go.Proofs.YtpidafpaffpnaaaGreatDoor.Pw
namespace Go.Proofs.YtpidafpaffpnaaaGreatDoor
open Go.RowKit

set_option maxRecDepth 20000 in
set_option maxHeartbeats 4000000 in
theorem refSame_any10 (a b : Kq.Kn) (a1 a2 : Option Addr) (L1 c1 L2 c2 : Nat) (w : World) (h1 : Ss w (.slice a1 L1 c1) a.names) (h2 : Ss w (.slice a2 L2 c2) b.names) (hl1 : a.names.length ≤ 1000) (hl2 : b.names.length ≤ 1000) :
    Calls Tryz.prog 70 #[kv a (.slice a1 L1 c1), kv b (.slice a2 L2 c2)] w (BoolP (a = b) w) := by
  have hse := fun w => stat_eql a b w
  have hgu := stat_guard
  have HH : Hid (Ss w (.slice a1 L1 c1) a.names ∧ Ss w (.slice a2 L2 c2) b.names) := ⟨h1, h2⟩
  have HB2 : Hid (∀ o1 o2, Below w.heap.size w ((w.alloc o1).alloc o2)) := fun o1 o2 => ((Below.refl _ w).alloc (Nat.le_refl _) o1).alloc ((Below.refl _ w).alloc (Nat.le_refl _) o1).size o2
  have HEQ : Hid (a = b ↔ sameS a b = true ∧ a.data = b.data ∧ a.next = b.next ∧ a.names = b.names) := same_kn
  clear h1 h2
  obtain ⟨s, hs⟩ : ∃ s, s = sameS a b := ⟨_, rfl⟩
  rw [← hs] at HEQ
  simp only [← hs] at hse
  clear hs
  unfold kv
  go_enter Tryz.func70, Tryz.ntmps70
  cases s with
  | false =>
    go_wp2
    go_ret
    exact ⟨false, rfl, ⟨fun h => (by cases h), fun h => (by have := (HEQ.out.1 h).1; cases this)⟩, HB2.out _ _⟩
  | true =>
    by_cases hd : a.data.toList = b.data.toList
    · have hdb : (a.data.toList == b.data.toList) = true := by simp [hd]
      by_cases hn : a.next = b.next
      · have hnb : (a.next == b.next) = true := by simp [hn]
        go_wp2_with fail
        refine (Pw.same_any (.slice a1 L1 c1) (.slice a2 L2 c2) a.names b.names _ (HH.out.1.below (HB2.out _ _)) (HH.out.2.below (HB2.out _ _)) hl1 hl2).mono ?_
        rintro e w5 ⟨rfl, hb⟩
        have HB5 : Hid (Below w.heap.size w w5) := (HB2.out _ _).trans (hb.mono (HB2.out _ _).size)
        clear hb
        obtain ⟨r, hr⟩ : ∃ r, r = decide (a.names = b.names) := ⟨_, rfl⟩
        have HR : Hid (r = true ↔ a = b) := by
          have h : r = true ↔ a = b := by
            rw [hr, decide_eq_true_eq, HEQ.out]
            exact ⟨fun h => ⟨by simp, bytes_eq hdb, hn, h⟩, fun h => h.2.2.2⟩
          exact h
        rw [← hr]
        clear hr
        go_wp2
        go_ret
        exact ⟨r, rfl, HR.out, HB5.out⟩
      · have hnb : (a.next == b.next) = false := by simp [hn]
        go_wp2
        go_ret
        exact ⟨false, rfl, ⟨fun h => (by cases h), fun h => absurd (HEQ.out.1 h).2.2.1 hn⟩, HB2.out _ _⟩
    · have hdb : (a.data.toList == b.data.toList) = false := by simp [hd]
      go_wp2
      go_ret
      exact ⟨false, rfl, ⟨fun h => (by cases h), fun h => absurd (by rw [(HEQ.out.1 h).2.1]) hd⟩, HB2.out _ _⟩

end Go.Proofs.YtpidafpaffpnaaaGreatDoor
namespace Go.Proofs.YtpidafpaffpnaaaGreatDoor
open Go.RowKit

/-- Texts that lie apart from a tree's blocks. -/
structure Sm (w : World) (F : Nat → Prop) (v : Value) (l : List ByteArray) : Prop where
  ss : Ss w v l
  off : l ≠ [] → Off11 F v
theorem Sm.moved {w w' : World} {F F' : Nat → Prop} {v : Value} {l : List ByteArray} (h : Sm w F v l) (hm : Moved w w' F F') : Sm w' F' v l := by
  obtain ⟨av, k, c, rfl, hk, hc⟩ := h.ss
  have hblk : ∀ (j : Nat) s, l[j]? = some s → ∃ g o, av = some ⟨g, o, none⟩ ∧ w.cell? ⟨g, o + j, none⟩ = some (.string s) ∧ g < w.heap.size ∧ ¬ F g := fun j s hs => by
    obtain ⟨g, o, e, h1⟩ := hc j s hs
    have hne : l ≠ [] := fun e2 => by rw [e2] at hs; simp at hs
    exact ⟨g, o, e, h1, World.block_lt_of_cell? w _ h1, h.off hne g (by rw [e]; rfl)⟩
  refine ⟨⟨av, k, c, rfl, hk, fun j s hs => ?_⟩, fun hne b hb => ?_⟩
  · obtain ⟨g, o, e, h1, h2, h3⟩ := hblk j s hs
    exact ⟨g, o, e, (World.cell?_of_block (hm.block g h2 h3)).trans h1⟩
  · cases l with
    | nil => exact absurd rfl hne
    | cons s l =>
      obtain ⟨g, o, e, _, h2, h3⟩ := hblk 0 s rfl
      rw [e] at hb
      simp only [Value.ownBlock, Option.some.injEq] at hb
      rw [← hb]
      intro hF
      rcases hm.sub g hF with h4 | h4
      · exact h3 h4
      · omega
theorem Sm.later {w w' : World} {F : Nat → Prop} {v : Value} {l : List ByteArray} (h : Sm w F v l) (hb : Below w.heap.size w w') : Sm w' F v l := ⟨h.ss.below hb, h.off⟩


theorem tb_of {x : ByteArray} {l : List UInt8} (h : x.data.toList = l) : x = Tq.tb l := by rw [← h, Tq.tb_back]
theorem refUp11 (p : ByteArray) (w : World) (hg : Pl.goodB p.data.toList = true) :
    Calls Tryz.prog 101 #[.string p] w fun e w' => Below w.heap.size w w' ∧ (∀ u, Tq.up p = some u → e = .returned (.tuple #[.string u, .bool true])) ∧ (Tq.up p = none → e = .returned (.tuple #[.string ⟨#[]⟩, .bool false])) := by
  by_cases h2 : 2 ≤ (Pl.parts p.data.toList).length
  · refine (Pa.refParent_yes p w hg h2).mono ?_
    rintro e w' ⟨x, rfl, hx, hb⟩
    refine ⟨hb, fun u hu => ?_, fun hu => ?_⟩
    · unfold Tq.up at hu
      rw [if_pos h2] at hu
      rw [tb_of hx, ← Option.some.inj hu]
    · unfold Tq.up at hu
      rw [if_pos h2] at hu
      cases hu
  · have hp : p.size ≤ maxLen := by
      have h1 := (Pl.good_parts hg).2.2
      rw [Array.length_toList] at h1
      have h3 : p.size = p.data.size := rfl
      unfold maxLen
      omega
    refine (Pa.refParent_no p w hp (by omega)).mono ?_
    rintro e w' ⟨rfl, hb⟩
    refine ⟨hb, fun u hu => ?_, fun _ => rfl⟩
    unfold Tq.up at hu
    rw [if_neg h2] at hu
    cases hu
theorem refNm11 (p : ByteArray) (w : World) (hg : Pl.goodB p.data.toList = true) :
    Calls Tryz.prog 103 #[.string p] w fun e w' => e = .returned (.string (Tq.nm p)) ∧ Below w.heap.size w w' := by
  refine (Pa.refName_any p w hg).mono ?_
  rintro e w' ⟨x, rfl, hx, hb⟩
  rw [tb_of hx]
  exact ⟨rfl, hb⟩
end Go.Proofs.YtpidafpaffpnaaaGreatDoor
namespace Go.Proofs.YtpidafpaffpnaaaGreatDoor
open Go.RowKit

def e11 (e : Tq.En) (nv : Value) : List Value := .string e.1 :: k10 e.2 nv
/-- A tree of the reference's. -/
def Rt11 (w : World) (q : Nat) (room : Int) (l : List Tq.En) : Prop := ∃ a n c, Cb w q [.int .i64 room, .slice a n c] 31 ∧ n = l.length ∧ ∀ (j : Nat) e, l[j]? = some e → ∃ g o na nL nc, a = some ⟨g, o, none⟩ ∧ Ss w (.slice na nL nc) e.2.names ∧ e.2.names.length ≤ 1000 ∧ ∀ (i : Nat) u, (e11 e (.slice na nL nc))[i]? = some u → w.cell? ⟨g, o + j * 11 + i, none⟩ = some u
theorem Rt11.later {w w' : World} {q : Nat} {room : Int} {l : List Tq.En} (h : Rt11 w q room l) (hb : Below w.heap.size w w') : Rt11 w' q room l := by
  obtain ⟨a, n, c, h1, h2, h3⟩ := h
  refine ⟨a, n, c, h1.below hb, h2, fun j e he => ?_⟩
  obtain ⟨g, o, na, nL, nc, h4, h5, h6, h7⟩ := h3 j e he
  exact ⟨g, o, na, nL, nc, h4, h5.below hb, h6, fun i u hu => Below.kept hb (h7 i u hu)⟩

set_option maxRecDepth 20000 in
set_option maxHeartbeats 8000000 in
theorem sameTree_any11 (q1 q2 : Nat) (r1 r2 : Int) (l : List Tq.En) (W : World) (h1 : Rt11 W q1 r1 l) (h2 : Rt11 W q2 r2 l) (hl : l.length ≤ 100000) :
    Calls Tryz.prog 22 #[dptr q1, dptr q2] W fun e w' => e = .returned (.bool true) ∧ Below W.heap.size W w' := by
  obtain ⟨a1, N, c1, hb1, hN, hc1⟩ := h1
  obtain ⟨a2, n2, c2, hb2, hN2, hc2⟩ := h2
  obtain rfl : n2 = N := by omega
  have HX : Hid (∀ w', Below W.heap.size W w' → w'.cell? ⟨q1, 1, none⟩ = some (.slice a1 n2 c1) ∧ w'.cell? ⟨q2, 1, none⟩ = some (.slice a2 n2 c2)) := fun w' hb => ⟨Below.kept hb ((hb1.cell 1).trans rfl), Below.kept hb ((hb2.cell 1).trans rfl)⟩
  have HC : Hid ((∀ (j : Nat) e, l[j]? = some e → ∃ g o na nL nc, a1 = some ⟨g, o, none⟩ ∧ Ss W (.slice na nL nc) e.2.names ∧ e.2.names.length ≤ 1000 ∧ ∀ (i : Nat) u, (e11 e (.slice na nL nc))[i]? = some u → W.cell? ⟨g, o + j * 11 + i, none⟩ = some u) ∧ (∀ (j : Nat) e, l[j]? = some e → ∃ g o na nL nc, a2 = some ⟨g, o, none⟩ ∧ Ss W (.slice na nL nc) e.2.names ∧ e.2.names.length ≤ 1000 ∧ ∀ (i : Nat) u, (e11 e (.slice na nL nc))[i]? = some u → W.cell? ⟨g, o + j * 11 + i, none⟩ = some u) ∧ n2 = l.length) := ⟨hc1, hc2, hN⟩
  have hN1 : n2 ≤ 100000 := by omega
  clear hb1 hb2 hc1 hc2 hN hN2 hl
  obtain ⟨x1, x2⟩ := HX.out W (Below.refl _ _)
  unfold dptr
  go_enter Tryz.func22, Tryz.ntmps22
  go_wp2
  go_quiet (fail)
  clear x1 x2
  have HB : Hid (∀ k, Below W.heap.size W (W.drewN k)) := fun k => below_drewN (Below.refl _ _) k
  go_wp2
  go_loopw [5] (fun i wr => ∃ k : Nat, k ≤ n2 ∧ i = .int .i64 (k : Int) ∧ Below W.heap.size W wr) (fun i _ => n2 - (intOf i).toNat)
  case atStart => exact ⟨0, Nat.zero_le _, rfl, HB.out _⟩
  case round =>
    obtain ⟨k, hk, rfl, hb⟩ := hrel
    have B0 : Hid (Below W.heap.size W wr) := hb
    clear hb HB
    obtain ⟨x1, x2⟩ := HX.out wr B0.out
    by_cases hlt : k < n2
    · have hlt' : (k : Int) < (n2 : Int) := by omega
      have hk0 : (0 : Int) ≤ (k : Int) := by omega
      have hwk : IntKind.wrap .i64 ((k : Int) + 1) = (k : Int) + 1 := by rw [IntKind.wrap_i64]; omega
      obtain ⟨e, he⟩ : ∃ e, l[k]? = some e := ⟨_, List.getElem?_eq_getElem (by have := HC.out.2.2; omega)⟩
      obtain ⟨g, o, na, nL, nc, ha1, hs1, hm1, hcell1⟩ := HC.out.1 k e he
      obtain ⟨g2, o2, ma, mL, mc, ha2, hs2, hm2, hcell2⟩ := HC.out.2.1 k e he
      subst ha1 ha2
      have HE : Hid (∀ w', Below W.heap.size W w' → (w'.cell? ⟨g, o + k * 11, none⟩ = some (.string e.1) ∧ w'.cell? ⟨g, o + k * 11 + 1, none⟩ = some (.int .i64 e.2.made) ∧ w'.cell? ⟨g, o + k * 11 + 2, none⟩ = some (.int .i64 e.2.changed) ∧ w'.cell? ⟨g, o + k * 11 + 3, none⟩ = some (.int .i64 e.2.ver) ∧ w'.cell? ⟨g, o + k * 11 + 4, none⟩ = some (.int .i64 e.2.kids) ∧ w'.cell? ⟨g, o + k * 11 + 5, none⟩ = some (.int .i64 e.2.owner) ∧ w'.cell? ⟨g, o + k * 11 + 6, none⟩ = some (.int .i64 e.2.len) ∧ w'.cell? ⟨g, o + k * 11 + 7, none⟩ = some (.int .i64 e.2.cnt) ∧ w'.cell? ⟨g, o + k * 11 + 8, none⟩ = some (.string e.2.data) ∧ w'.cell? ⟨g, o + k * 11 + 9, none⟩ = some (.int .i64 e.2.next) ∧ w'.cell? ⟨g, o + k * 11 + 10, none⟩ = some (.slice na nL nc)) ∧ (w'.cell? ⟨g2, o2 + k * 11, none⟩ = some (.string e.1) ∧ w'.cell? ⟨g2, o2 + k * 11 + 1, none⟩ = some (.int .i64 e.2.made) ∧ w'.cell? ⟨g2, o2 + k * 11 + 2, none⟩ = some (.int .i64 e.2.changed) ∧ w'.cell? ⟨g2, o2 + k * 11 + 3, none⟩ = some (.int .i64 e.2.ver) ∧ w'.cell? ⟨g2, o2 + k * 11 + 4, none⟩ = some (.int .i64 e.2.kids) ∧ w'.cell? ⟨g2, o2 + k * 11 + 5, none⟩ = some (.int .i64 e.2.owner) ∧ w'.cell? ⟨g2, o2 + k * 11 + 6, none⟩ = some (.int .i64 e.2.len) ∧ w'.cell? ⟨g2, o2 + k * 11 + 7, none⟩ = some (.int .i64 e.2.cnt) ∧ w'.cell? ⟨g2, o2 + k * 11 + 8, none⟩ = some (.string e.2.data) ∧ w'.cell? ⟨g2, o2 + k * 11 + 9, none⟩ = some (.int .i64 e.2.next) ∧ w'.cell? ⟨g2, o2 + k * 11 + 10, none⟩ = some (.slice ma mL mc))) := fun w' hb => ⟨⟨Below.kept hb (hcell1 0 _ rfl), Below.kept hb (hcell1 1 _ rfl), Below.kept hb (hcell1 2 _ rfl), Below.kept hb (hcell1 3 _ rfl), Below.kept hb (hcell1 4 _ rfl), Below.kept hb (hcell1 5 _ rfl), Below.kept hb (hcell1 6 _ rfl), Below.kept hb (hcell1 7 _ rfl), Below.kept hb (hcell1 8 _ rfl), Below.kept hb (hcell1 9 _ rfl), Below.kept hb (hcell1 10 _ rfl)⟩, ⟨Below.kept hb (hcell2 0 _ rfl), Below.kept hb (hcell2 1 _ rfl), Below.kept hb (hcell2 2 _ rfl), Below.kept hb (hcell2 3 _ rfl), Below.kept hb (hcell2 4 _ rfl), Below.kept hb (hcell2 5 _ rfl), Below.kept hb (hcell2 6 _ rfl), Below.kept hb (hcell2 7 _ rfl), Below.kept hb (hcell2 8 _ rfl), Below.kept hb (hcell2 9 _ rfl), Below.kept hb (hcell2 10 _ rfl)⟩⟩
      have HN : Hid (Ss W (.slice na nL nc) e.2.names ∧ Ss W (.slice ma mL mc) e.2.names ∧ e.2.names.length ≤ 1000) := ⟨hs1, hs2, hm1⟩
      clear he hs1 hs2 hm1 hm2 hcell1 hcell2
      go_wp2_with fail
      clear x1 x2
      refine wp_region_held_drew (S := fun w' => Below W.heap.size W w') (by kernel_rfl) B0.out.drew (fun _ => ?_)
      have B1 : Hid (Below W.heap.size W wr.drew) := B0.out.drew
      generalize wr.drew = w1 at *
      clear B0
      refine' take_at (i := 0) (d := 26) (v := _) rfl rfl (by kernel_rfl) (by kernel_rfl) (by kernel_rfl) (fun _ _ _ h => h) (Or.inl ⟨by rfl, ?h0⟩) (B1.out) ?_
      case h0 =>
        intro w hSw
        go_simp
        with_reducible rfl
      simp only [List.setIfInBounds_toArray, List.set_cons_zero, List.set_cons_succ]
      refine' take_at (i := 1) (d := 27) (v := _) rfl rfl (by kernel_rfl) (by kernel_rfl) (by kernel_rfl) (fun _ _ _ h => h) (Or.inl ⟨by rfl, ?h1⟩) (B1.out) ?_
      case h1 =>
        intro w hSw
        go_simp
        with_reducible rfl
      simp only [List.setIfInBounds_toArray, List.set_cons_zero, List.set_cons_succ]
      refine' take_at (i := 2) (d := 28) (v := _) rfl rfl (by kernel_rfl) (by kernel_rfl) (by kernel_rfl) (fun _ _ _ h => h) (Or.inl ⟨by rfl, ?h2⟩) (B1.out) ?_
      case h2 =>
        intro w hSw
        go_simp
        with_reducible rfl
      simp only [List.setIfInBounds_toArray, List.set_cons_zero, List.set_cons_succ]
      refine' take_at (i := 3) (d := 29) (v := _) rfl rfl (by kernel_rfl) (by kernel_rfl) (by kernel_rfl) (fun _ _ _ h => h) (Or.inl ⟨by rfl, ?h3⟩) (B1.out) ?_
      case h3 =>
        intro w hSw
        obtain ⟨x1, x2⟩ := HX.out w hSw
        go_simp
        with_reducible rfl
      simp only [List.setIfInBounds_toArray, List.set_cons_zero, List.set_cons_succ]
      refine' take_at (i := 4) (d := 30) (v := _) rfl rfl (by kernel_rfl) (by kernel_rfl) (by kernel_rfl) (fun _ _ _ h => h) (Or.inl ⟨by rfl, ?h4⟩) (B1.out) ?_
      case h4 =>
        intro w hSw
        go_simp
        with_reducible rfl
      simp only [List.setIfInBounds_toArray, List.set_cons_zero, List.set_cons_succ]
      refine' take_at (i := 5) (d := 31) (v := _) rfl rfl (by kernel_rfl) (by kernel_rfl) (by kernel_rfl) (fun _ _ _ h => h) (Or.inl ⟨by rfl, ?h5⟩) (B1.out) ?_
      case h5 =>
        intro w hSw
        go_simp
        with_reducible rfl
      simp only [List.setIfInBounds_toArray, List.set_cons_zero, List.set_cons_succ]
      refine' take_at (i := 6) (d := 32) (v := _) rfl rfl (by kernel_rfl) (by kernel_rfl) (by kernel_rfl) (fun _ _ _ h => h) (Or.inl ⟨by rfl, ?h6⟩) (B1.out) ?_
      case h6 =>
        intro w hSw
        go_simp
        with_reducible rfl
      simp only [List.setIfInBounds_toArray, List.set_cons_zero, List.set_cons_succ]
      refine' take_at (i := 7) (d := 33) (v := _) rfl rfl (by kernel_rfl) (by kernel_rfl) (by kernel_rfl) (fun _ _ _ h => h) (Or.inl ⟨by rfl, ?h7⟩) (B1.out) ?_
      case h7 =>
        intro w hSw
        obtain ⟨⟨y0, y1, y2, y3, y4, y5, y6, y7, y8, y9, y10⟩, ⟨z0, z1, z2, z3, z4, z5, z6, z7, z8, z9, z10⟩⟩ := HE.out w hSw
        go_simp
        with_reducible rfl
      simp only [List.setIfInBounds_toArray, List.set_cons_zero, List.set_cons_succ]
      refine' take_at (i := 8) (d := 34) (v := _) rfl rfl (by kernel_rfl) (by kernel_rfl) (by kernel_rfl) (fun _ _ _ h => h) (Or.inl ⟨by rfl, ?h8⟩) (B1.out) ?_
      case h8 =>
        intro w hSw
        go_simp
        with_reducible rfl
      simp only [List.setIfInBounds_toArray, List.set_cons_zero, List.set_cons_succ]
      refine' take_at (i := 9) (d := 35) (v := _) rfl rfl (by kernel_rfl) (by kernel_rfl) (by kernel_rfl) (fun _ _ _ h => h) (Or.inl ⟨by rfl, ?h9⟩) (B1.out) ?_
      case h9 =>
        intro w hSw
        go_simp
        with_reducible rfl
      simp only [List.setIfInBounds_toArray, List.set_cons_zero, List.set_cons_succ]
      refine' take_at (i := 10) (d := 36) (v := _) rfl rfl (by kernel_rfl) (by kernel_rfl) (by kernel_rfl) (fun _ _ _ h => h) (Or.inl ⟨by rfl, ?h10⟩) (B1.out) ?_
      case h10 =>
        intro w hSw
        go_simp
        with_reducible rfl
      simp only [List.setIfInBounds_toArray, List.set_cons_zero, List.set_cons_succ]
      refine' take_at (i := 11) (d := 37) (v := _) rfl rfl (by kernel_rfl) (by kernel_rfl) (by kernel_rfl) (fun _ _ _ h => h) (Or.inl ⟨by rfl, ?h11⟩) (B1.out) ?_
      case h11 =>
        intro w hSw
        obtain ⟨x1, x2⟩ := HX.out w hSw
        go_simp
        with_reducible rfl
      simp only [List.setIfInBounds_toArray, List.set_cons_zero, List.set_cons_succ]
      refine' take_at (i := 12) (d := 38) (v := _) rfl rfl (by kernel_rfl) (by kernel_rfl) (by kernel_rfl) (fun _ _ _ h => h) (Or.inl ⟨by rfl, ?h12⟩) (B1.out) ?_
      case h12 =>
        intro w hSw
        go_simp
        with_reducible rfl
      simp only [List.setIfInBounds_toArray, List.set_cons_zero, List.set_cons_succ]
      refine' take_at (i := 13) (d := 39) (v := _) rfl rfl (by kernel_rfl) (by kernel_rfl) (by kernel_rfl) (fun _ _ _ h => h) (Or.inl ⟨by rfl, ?h13⟩) (B1.out) ?_
      case h13 =>
        intro w hSw
        go_simp
        with_reducible rfl
      simp only [List.setIfInBounds_toArray, List.set_cons_zero, List.set_cons_succ]
      refine' take_at (i := 14) (d := 40) (v := _) rfl rfl (by kernel_rfl) (by kernel_rfl) (by kernel_rfl) (fun _ _ _ h => h) (Or.inl ⟨by rfl, ?h14⟩) (B1.out) ?_
      case h14 =>
        intro w hSw
        go_simp
        with_reducible rfl
      simp only [List.setIfInBounds_toArray, List.set_cons_zero, List.set_cons_succ]
      refine' take_at (i := 15) (d := 41) (v := _) rfl rfl (by kernel_rfl) (by kernel_rfl) (by kernel_rfl) (fun _ _ _ h => h) (Or.inl ⟨by rfl, ?h15⟩) (B1.out) ?_
      case h15 =>
        intro w hSw
        obtain ⟨⟨y0, y1, y2, y3, y4, y5, y6, y7, y8, y9, y10⟩, ⟨z0, z1, z2, z3, z4, z5, z6, z7, z8, z9, z10⟩⟩ := HE.out w hSw
        go_simp
        with_reducible rfl
      simp only [List.setIfInBounds_toArray, List.set_cons_zero, List.set_cons_succ]
      refine' take_at (i := 16) (d := 42) (v := _) rfl rfl (by kernel_rfl) (by kernel_rfl) (by kernel_rfl) (fun _ _ _ h => h) (Or.inl ⟨by rfl, ?h16⟩) (B1.out) ?_
      case h16 =>
        intro w hSw
        go_simp
        with_reducible rfl
      simp only [List.setIfInBounds_toArray, List.set_cons_zero, List.set_cons_succ]
      refine' take_at (i := 17) (d := 43) (v := _) rfl rfl (by kernel_rfl) (by kernel_rfl) (by kernel_rfl) (fun _ _ _ h => h) (Or.inl ⟨by rfl, ?h17⟩) (B1.out) ?_
      case h17 =>
        intro w hSw
        go_simp
        with_reducible rfl
      simp only [List.setIfInBounds_toArray, List.set_cons_zero, List.set_cons_succ]
      refine' take_at (i := 18) (d := 44) (v := _) rfl rfl (by kernel_rfl) (by kernel_rfl) (by kernel_rfl) (fun _ _ _ h => h) (Or.inl ⟨by rfl, ?h18⟩) (B1.out) ?_
      case h18 =>
        intro w hSw
        go_simp
        with_reducible rfl
      simp only [List.setIfInBounds_toArray, List.set_cons_zero, List.set_cons_succ]
      refine' take_at (i := 19) (d := 45) (v := _) rfl rfl (by kernel_rfl) (by kernel_rfl) (by kernel_rfl) (fun _ _ _ h => h) (Or.inl ⟨by rfl, ?h19⟩) (B1.out) ?_
      case h19 =>
        intro w hSw
        go_simp
        with_reducible rfl
      simp only [List.setIfInBounds_toArray, List.set_cons_zero, List.set_cons_succ]
      refine' take_at (i := 20) (d := 46) (v := _) rfl rfl (by kernel_rfl) (by kernel_rfl) (by kernel_rfl) (fun _ _ _ h => h) (Or.inl ⟨by rfl, ?h20⟩) (B1.out) ?_
      case h20 =>
        intro w hSw
        go_simp
        with_reducible rfl
      simp only [List.setIfInBounds_toArray, List.set_cons_zero, List.set_cons_succ]
      refine' take_at (i := 21) (d := 47) (v := _) rfl rfl (by kernel_rfl) (by kernel_rfl) (by kernel_rfl) (fun _ _ _ h => h) (Or.inl ⟨by rfl, ?h21⟩) (B1.out) ?_
      case h21 =>
        intro w hSw
        obtain ⟨x1, x2⟩ := HX.out w hSw
        go_simp
        with_reducible rfl
      simp only [List.setIfInBounds_toArray, List.set_cons_zero, List.set_cons_succ]
      refine' take_at (i := 22) (d := 48) (v := _) rfl rfl (by kernel_rfl) (by kernel_rfl) (by kernel_rfl) (fun _ _ _ h => h) (Or.inl ⟨by rfl, ?h22⟩) (B1.out) ?_
      case h22 =>
        intro w hSw
        go_simp
        with_reducible rfl
      simp only [List.setIfInBounds_toArray, List.set_cons_zero, List.set_cons_succ]
      refine' take_at (i := 23) (d := 49) (v := _) rfl rfl (by kernel_rfl) (by kernel_rfl) (by kernel_rfl) (fun _ _ _ h => h) (Or.inl ⟨by rfl, ?h23⟩) (B1.out) ?_
      case h23 =>
        intro w hSw
        go_simp
        with_reducible rfl
      simp only [List.setIfInBounds_toArray, List.set_cons_zero, List.set_cons_succ]
      refine' take_at (i := 24) (d := 50) (v := _) rfl rfl (by kernel_rfl) (by kernel_rfl) (by kernel_rfl) (fun _ _ _ h => h) (Or.inl ⟨by rfl, ?h24⟩) (B1.out) ?_
      case h24 =>
        intro w hSw
        go_simp
        with_reducible rfl
      simp only [List.setIfInBounds_toArray, List.set_cons_zero, List.set_cons_succ]
      refine' take_at (i := 25) (d := 51) (v := _) rfl rfl (by kernel_rfl) (by kernel_rfl) (by kernel_rfl) (fun _ _ _ h => h) (Or.inl ⟨by rfl, ?h25⟩) (B1.out) ?_
      case h25 =>
        intro w hSw
        obtain ⟨⟨y0, y1, y2, y3, y4, y5, y6, y7, y8, y9, y10⟩, ⟨z0, z1, z2, z3, z4, z5, z6, z7, z8, z9, z10⟩⟩ := HE.out w hSw
        go_simp
        with_reducible rfl
      simp only [List.setIfInBounds_toArray, List.set_cons_zero, List.set_cons_succ]
      refine' take_at (i := 26) (d := 52) (v := _) rfl rfl (by kernel_rfl) (by kernel_rfl) (by kernel_rfl) (fun _ _ _ h => h) (Or.inl ⟨by rfl, ?h26⟩) (B1.out) ?_
      case h26 =>
        intro w hSw
        go_simp
        with_reducible rfl
      simp only [List.setIfInBounds_toArray, List.set_cons_zero, List.set_cons_succ]
      refine' take_at (i := 27) (d := 53) (v := _) rfl rfl (by kernel_rfl) (by kernel_rfl) (by kernel_rfl) (fun _ _ _ h => h) (Or.inl ⟨by rfl, ?h27⟩) (B1.out) ?_
      case h27 =>
        intro w hSw
        go_simp
        with_reducible rfl
      simp only [List.setIfInBounds_toArray, List.set_cons_zero, List.set_cons_succ]
      refine' take_at (i := 28) (d := 54) (v := _) rfl rfl (by kernel_rfl) (by kernel_rfl) (by kernel_rfl) (fun _ _ _ h => h) (Or.inl ⟨by rfl, ?h28⟩) (B1.out) ?_
      case h28 =>
        intro w hSw
        go_simp
        with_reducible rfl
      simp only [List.setIfInBounds_toArray, List.set_cons_zero, List.set_cons_succ]
      refine' take_at (i := 29) (d := 55) (v := _) rfl rfl (by kernel_rfl) (by kernel_rfl) (by kernel_rfl) (fun _ _ _ h => h) (Or.inl ⟨by rfl, ?h29⟩) (B1.out) ?_
      case h29 =>
        intro w hSw
        obtain ⟨x1, x2⟩ := HX.out w hSw
        go_simp
        with_reducible rfl
      simp only [List.setIfInBounds_toArray, List.set_cons_zero, List.set_cons_succ]
      refine' take_at (i := 30) (d := 56) (v := _) rfl rfl (by kernel_rfl) (by kernel_rfl) (by kernel_rfl) (fun _ _ _ h => h) (Or.inl ⟨by rfl, ?h30⟩) (B1.out) ?_
      case h30 =>
        intro w hSw
        go_simp
        with_reducible rfl
      simp only [List.setIfInBounds_toArray, List.set_cons_zero, List.set_cons_succ]
      refine' take_at (i := 31) (d := 57) (v := _) rfl rfl (by kernel_rfl) (by kernel_rfl) (by kernel_rfl) (fun _ _ _ h => h) (Or.inl ⟨by rfl, ?h31⟩) (B1.out) ?_
      case h31 =>
        intro w hSw
        go_simp
        with_reducible rfl
      simp only [List.setIfInBounds_toArray, List.set_cons_zero, List.set_cons_succ]
      refine' take_at (i := 32) (d := 58) (v := _) rfl rfl (by kernel_rfl) (by kernel_rfl) (by kernel_rfl) (fun _ _ _ h => h) (Or.inl ⟨by rfl, ?h32⟩) (B1.out) ?_
      case h32 =>
        intro w hSw
        go_simp
        with_reducible rfl
      simp only [List.setIfInBounds_toArray, List.set_cons_zero, List.set_cons_succ]
      refine' take_at (i := 33) (d := 59) (v := _) rfl rfl (by kernel_rfl) (by kernel_rfl) (by kernel_rfl) (fun _ _ _ h => h) (Or.inl ⟨by rfl, ?h33⟩) (B1.out) ?_
      case h33 =>
        intro w hSw
        obtain ⟨⟨y0, y1, y2, y3, y4, y5, y6, y7, y8, y9, y10⟩, ⟨z0, z1, z2, z3, z4, z5, z6, z7, z8, z9, z10⟩⟩ := HE.out w hSw
        go_simp
        with_reducible rfl
      simp only [List.setIfInBounds_toArray, List.set_cons_zero, List.set_cons_succ]
      refine wpAnyH_ready (rs := [34]) (by kernel_rfl) (by simp) ?_
      refine AllReadyH.cons (o := _) rfl (fun KQ hKQ => ?_) AllReadyH.nil
      go_simp
      refine (refSame_any10 e.2 e.2 na ma nL nc mL mc w1 (HN.out.1.below B1.out) (HN.out.2.1.below B1.out) HN.out.2.2 HN.out.2.2).mono ?_
      rintro e5 w5 ⟨R, rfl, hR, hb⟩
      obtain rfl : R = true := hR.2 rfl
      have B5 : Hid (Below W.heap.size W w5) := B1.out.trans (hb.mono B1.out.size)
      clear hb hR
      simp only []
      refine hKQ.out _ _ B5.out (fun _ => ?_)
      clear hKQ KQ
      refine' take_at (i := 35) (d := 61) (v := _) rfl rfl (by kernel_rfl) (by kernel_rfl) (by kernel_rfl) (fun _ _ _ h => h) (Or.inl ⟨by rfl, ?h35⟩) (B5.out) ?_
      case h35 =>
        intro w hSw
        go_simp
        with_reducible rfl
      simp only [List.setIfInBounds_toArray, List.set_cons_zero, List.set_cons_succ]
      refine' take_at (i := 36) (d := 62) (v := _) rfl rfl (by kernel_rfl) (by kernel_rfl) (by kernel_rfl) (fun _ _ _ h => h) (Or.inl ⟨by rfl, ?h36⟩) (B5.out) ?_
      case h36 =>
        intro w hSw
        go_simp
        with_reducible rfl
      simp only [List.setIfInBounds_toArray, List.set_cons_zero, List.set_cons_succ]
      refine wpAnyH_done (by kernel_rfl) ?_ _
      go_wp2
      go_roundw
      case rel => exact ⟨k + 1, by omega, by go_num, B5.out⟩
      case measure => simp [intOf]; omega
    · have hlt' : ¬ (k : Int) < (n2 : Int) := by omega
      go_wp2
      go_ret
      exact ⟨rfl, B0.out⟩
end Go.Proofs.YtpidafpaffpnaaaGreatDoor
namespace Go.Proofs.YtpidafpaffpnaaaGreatDoor
open Go.RowKit

def es11 (es : List (Tq.En × Value)) : List Value := es.flatMap fun x => e11 x.1 x.2
theorem e11_len (e : Tq.En) (v : Value) : (e11 e v).length = 11 := rfl
theorem es11_len (es : List (Tq.En × Value)) : (es11 es).length = es.length * 11 := by
  unfold es11
  induction es with
  | nil => rfl
  | cons x es ih => rw [List.flatMap_cons, List.length_append, ih, e11_len, List.length_cons]; omega
theorem es11_at : ∀ (es : List (Tq.En × Value)) (j : Nat) {x : Tq.En × Value} {i : Nat} {u : Value}, es[j]? = some x → (e11 x.1 x.2)[i]? = some u → (es11 es)[j * 11 + i]? = some u
  | [], j, x, i, u, h, _ => by simp at h
  | y :: es, 0, x, i, u, h, hu => by
    simp only [List.getElem?_cons_zero, Option.some.injEq] at h
    subst h
    have hi := (List.getElem?_eq_some_iff.1 hu).1
    unfold es11
    rw [List.flatMap_cons, List.getElem?_append_left (by simpa using hi), Nat.zero_mul, Nat.zero_add]
    exact hu
  | y :: es, j + 1, x, i, u, h, hu => by
    simp only [List.getElem?_cons_succ] at h
    have ih := es11_at es j h hu
    unfold es11 at ih ⊢
    rw [List.flatMap_cons, List.getElem?_append_right (by rw [e11_len]; omega), e11_len, show (j + 1) * 11 + i - 11 = j * 11 + i by omega]
    exact ih
theorem es11_snoc (es : List (Tq.En × Value)) (x : Tq.En × Value) : es11 (es ++ [x]) = es11 es ++ e11 x.1 x.2 := by unfold es11; simp

/-- The reference's tree at q, its row v, off the blocks F of another. -/
structure Ro11 (W w : World) (F : Nat → Prop) (q : Nat) (room : Int) (v : Value) (es : List (Tq.En × Value)) : Prop where
  blk : Kept11 w F q [.int .i64 room, v] 31
  hi : W.heap.size ≤ q
  row : w.ownsRow W.heap.size 105 11 v es.length (es11 es)
  off : ∀ k, v.ownBlock = some k → ¬ F k
  names : ∀ x ∈ es, (∃ a L c, x.2 = .slice a L c) ∧ Sm w F x.2 x.1.2.names
section
variable {W w w' : World} {F F' : Nat → Prop} {q : Nat} {room : Int} {v : Value} {es : List (Tq.En × Value)}
theorem Ro11.moved (h : Ro11 W w F q room v es) (hm : Moved w w' F F') : Ro11 W w' F' q room v es :=
  ⟨h.blk.moved hm, h.hi, row_stays h.row (fun k e => hm.block k (h.row.lt k e).2 (h.off k e)), fun k hk e => by
    rcases hm.sub k e with e | e
    · exact h.off k hk e
    · have := (h.row.lt k hk).2
      omega, fun x hx => ⟨(h.names x hx).1, (h.names x hx).2.moved hm⟩⟩
theorem Ro11.later (h : Ro11 W w F q room v es) (hb : Below w.heap.size w w') : Ro11 W w' F q room v es := h.moved (Moved.of_below F hb)
theorem Ro11.rt (h : Ro11 W w F q room v es) (hl : ∀ x ∈ es, x.1.2.names.length ≤ 1000) : Rt11 w q room (es.map (·.1)) := by
  obtain ⟨a, c, rfl, _, hg⟩ := row_form h.row
  refine ⟨a, es.length, c, h.blk.cb, by rw [List.length_map], fun j e he => ?_⟩
  rw [List.getElem?_map] at he
  cases hx : es[j]? with
  | none => rw [hx] at he; cases he
  | some x =>
    rw [hx] at he
    simp only [Option.map_some, Option.some.injEq] at he
    subst he
    have hj := (List.getElem?_eq_some_iff.1 hx).1
    have hm := List.mem_of_getElem? hx
    obtain ⟨g, rfl⟩ := hg (by omega)
    obtain ⟨⟨na, nL, nc, e2⟩, hs⟩ := h.names x hm
    refine ⟨g, 0, na, nL, nc, rfl, by rw [← e2]; exact hs.ss, hl x hm, fun i u hu => ?_⟩
    rw [← e2] at hu
    have hi := (List.getElem?_eq_some_iff.1 hu).1
    rw [e11_len] at hi
    rw [Nat.zero_add, h.row.cellAt (j * 11 + i) (by omega)]
    exact es11_at es j hx hu
/-- Two that hold the same entries are alike. -/
theorem Ro11.same {F2 : Nat → Prop} {q2 : Nat} {r2 : Int} {v2 : Value} {es2 : List (Tq.En × Value)} (h : Ro11 W w F q room v es) (h2 : Ro11 W w F2 q2 r2 v2 es2) (he : es2.map (·.1) = es.map (·.1)) (hl : ∀ e ∈ es.map (·.1), e.2.names.length ≤ 1000) (hn : es.length ≤ 100000) :
    Calls Tryz.prog 22 #[dptr q, dptr q2] w fun e w' => e = .returned (.bool true) ∧ Below w.heap.size w w' := by
  refine sameTree_any11 q q2 room r2 (es.map (·.1)) w (h.rt fun x hx => hl _ (List.mem_map_of_mem hx)) ?_ (by rw [List.length_map]; exact hn)
  have h3 := h2.rt fun x hx => hl _ (by rw [← he]; exact List.mem_map_of_mem hx)
  rw [he] at h3
  exact h3
end
end Go.Proofs.YtpidafpaffpnaaaGreatDoor
namespace Go.Proofs.YtpidafpaffpnaaaGreatDoor
open Go.RowKit

structure SpecR11 (LT : Rep11) : Prop where
  node : ∀ (q : Nat) (t : Tq.Tr) (F : Nat → Prop) (p : ByteArray) (w : World), LT w q t F → Fine11 t → p.size ≤ maxLen →
    Calls Tryz.prog 45 #[dptr q, .string p] w fun e w' => NodeP t p (fun k => k < w.heap.size) e w' ∧ Below w.heap.size w w'
  paths : ∀ (q : Nat) (t : Tq.Tr) (F : Nat → Prop) (w : World), LT w q t F → Fine11 t →
    Calls Tryz.prog 71 #[dptr q] w fun e w' => ∃ v, e = .returned v ∧ Sq w' v (Tq.keys t.l) ∧ Off11 (fun k => k < w.heap.size) v ∧ Below w.heap.size w w'
end Go.Proofs.YtpidafpaffpnaaaGreatDoor
namespace Go.Proofs.YtpidafpaffpnaaaGreatDoor
open Go.RowKit

theorem infoEntry11 : (Tryz.prog.info? 105).map (fun i => (i.zero, i.size, i.bytes)) = some (some (.agg #[.string ⟨#[]⟩, .int .i64 0, .int .i64 0, .int .i64 0, .int .i64 0, .int .i64 0, .int .i64 0, .int .i64 0, .string ⟨#[]⟩, .int .i64 0, .slice none 0 0]), 11, 120) := by kernel_rfl
def Fo11 (v : Value) (q : Nat) : Nat → Prop := fun k => v.ownBlock = some k ∨ k = q
/-- What own knows on its way. -/
structure Ow11 (w0 w : World) (q : Nat) (room : Int) (v : Value) (es : List (Tq.En × Value)) (pv : Value) (ks : List ByteArray) : Prop where
  below : Below w0.heap.size w0 w
  blk : Cb w q [.int .i64 room, v] 31
  hi : w0.heap.size ≤ q
  row : w.ownsRow w0.heap.size 105 11 v es.length (es11 es)
  names : ∀ x ∈ es, (∃ a L c, x.2 = .slice a L c) ∧ Sm w (Fo11 v q) x.2 x.1.2.names ∧ (x.1.2.names ≠ [] → Off11 (fun k => k < w0.heap.size) x.2)
  paths : Sm w (Fo11 v q) pv ks
section
variable {w0 w w' w6 : World} {q : Nat} {room : Int} {v v' pv : Value} {es : List (Tq.En × Value)} {ks : List ByteArray}
theorem Ow11.later (h : Ow11 w0 w q room v es pv ks) (hb : Below w.heap.size w w') : Ow11 w0 w' q room v es pv ks :=
  ⟨h.below.trans (hb.mono h.below.size), h.blk.below hb, h.hi, row_stays h.row (fun k e => hb.block k (h.row.lt k e).2), fun x hx => ⟨(h.names x hx).1, (h.names x hx).2.1.later hb, (h.names x hx).2.2⟩, h.paths.later hb⟩
theorem Ow11.more (h : Ow11 w0 w q room v es pv ks) {x : Tq.En × Value} (hg : w.grownBy w6 v.ownBlock) (hr : w6.ownsRow w0.heap.size 105 11 v' (es ++ [x]).length (es11 (es ++ [x]))) (hv : v'.ownBlock = v.ownBlock ∨ v'.ownBlock = some w.heap.size)
    (hx : (∃ a L c, x.2 = .slice a L c) ∧ Sm w (Fo11 v q) x.2 x.1.2.names ∧ (x.1.2.names ≠ [] → Off11 (fun k => k < w0.heap.size) x.2)) : Ow11 w0 (w6.setCell ⟨q, 1, none⟩ v') q room v' (es ++ [x]) pv ks := by
  have hqne := h.blk.apart h.row (by decide)
  have hb6 : Cb w6 q [.int .i64 room, v] 31 := h.blk.keep (hg.block q h.blk.lt (fun e => hqne e.symm))
  have hg2 := grownBy_setCell w6 ⟨q, 1, none⟩ v'
  have hhi := h.hi
  have hmv : Moved w (w6.setCell ⟨q, 1, none⟩ v') (Fo11 v q) (Fo11 v' q) := by
    refine ⟨hg2.os.trans hg.os, hg2.tape.trans hg.tape, hg2.output.trans hg.output, Nat.le_trans hg.size hg2.size, fun k hk hn => ?_, fun k hk => ?_⟩
    · have h1 : k ≠ q := fun e => hn (Or.inr e)
      rw [hg2.block k (Nat.lt_of_lt_of_le hk hg.size) (fun e => h1 (by simpa using e)), hg.block k hk (fun e => hn (Or.inl e.symm))]
    · rcases hk with hk | hk
      · rcases hv with hv | hv
        · exact Or.inl (Or.inl (hv ▸ hk))
        · rw [hv] at hk
          simp only [Option.some.injEq] at hk
          exact Or.inr (by omega)
      · exact Or.inl (Or.inr hk)
  refine ⟨?_, hb6.set 1 v', h.hi, row_stays hr (fun k e => hg2.block k (hr.lt k e).2 (fun e2 => hb6.apart hr (by decide) (by rw [e, e2]))), fun y hy => ?_, h.paths.moved hmv⟩
  · have h1 := h.below.grown hg h.below.size (fun k hk => (h.row.lt k hk).1)
    exact h1.grown hg2 h1.size (fun k hk => by simp at hk; omega)
  · rcases List.mem_append.1 hy with hy | hy
    · exact ⟨(h.names y hy).1, (h.names y hy).2.1.moved hmv, (h.names y hy).2.2⟩
    · obtain rfl := List.mem_singleton.1 hy
      exact ⟨hx.1, hx.2.1.moved hmv, hx.2.2⟩
/-- Off the blocks of what was there. -/
theorem Ow11.ro (h : Ow11 w0 w q room v es pv ks) {W : World} {F : Nat → Prop} (hF : ∀ k, F k → k < w0.heap.size) (hW : W.heap.size ≤ w0.heap.size) : Ro11 W w F q room v es := by
  have hhi := h.hi
  refine ⟨⟨h.blk, fun e => by have := hF q e; omega⟩, by omega, h.row.mono hW, fun k hk e => by have := hF k e; have := (h.row.lt k hk).1; omega, fun x hx => ⟨(h.names x hx).1, (h.names x hx).2.1.ss, fun hne k hk e => (h.names x hx).2.2 hne k hk (hF k e)⟩⟩
end

theorem Tq.key_at3 {t : Tq.Tr} (hf : Fine11 t) {j : Nat} (hj : j < t.l.length) : ∃ p n, t.l[j]? = some (p, n) ∧ (Tq.keys t.l)[j]? = some p ∧ Tq.find t.l p = some n ∧ p.size ≤ maxLen := by
  obtain ⟨e, he⟩ : ∃ e, t.l[j]? = some e := ⟨_, List.getElem?_eq_getElem hj⟩
  have hm := List.mem_of_getElem? he
  refine ⟨e.1, e.2, he, ?_, Tq.find_of hf.rise hm, ?_⟩
  · unfold Tq.keys
    rw [List.getElem?_map, he]
    rfl
  · have h1 := (Pl.good_parts (hf.nodes e hm).1).2.2
    rw [Array.length_toList] at h1
    have h3 : e.1.size = e.1.data.size := rfl
    unfold maxLen
    omega
/-- What holds within the region that appends: all but the row is as it was. -/
def Sx11 (wc : World) (v : Value) (w' : World) : Prop := ∀ k, k < wc.heap.size → v.ownBlock ≠ some k → w'.heap[k]? = wc.heap[k]?
theorem Sx11.cell {wc w' : World} {v : Value} (h : Sx11 wc v w') {g o : Nat} {u : Value} (hc : wc.cell? ⟨g, o, none⟩ = some u) (hn : v.ownBlock ≠ some g) : w'.cell? ⟨g, o, none⟩ = some u :=
  (World.cell?_of_block (h g (World.block_lt_of_cell? _ _ hc) hn)).trans hc

end Go.Proofs.YtpidafpaffpnaaaGreatDoor
namespace Go.Proofs.YtpidafpaffpnaaaGreatDoor
open Go.RowKit

theorem wp_entry11 {o : Oper} {a : Act} {K : Act → World → Prop} {Q : Exit → Act → World → Prop} (s x : Operand)
    (ho : o.op = .call { callee := .builtin .append, args := #[s, x], argTypes := #[29, 29] })
    (B : Nat) (v : Value) (es : List (Tq.En × Value)) (x1 : Tq.En × Value) (sb : Nat) (w : World) (hs : a.eval s = v) (hx : a.eval x = .slice (some ⟨sb, 0, none⟩) 1 1) (hown : w.ownsRow B 105 11 v es.length (es11 es)) (hB : B ≤ w.heap.size) (hc : Cb w sb (e11 x1.1 x1.2) 105) (hN : es.length ≤ 3000) (h1 : ∀ u ∈ e11 x1.1 x1.2, u.oneCell' = true)
    (h : ∀ v' w', w'.ownsRow B 105 11 v' (es ++ [x1]).length (es11 (es ++ [x1])) → w.grownBy w' v.ownBlock → (v'.ownBlock = v.ownBlock ∨ v'.ownBlock = some w.heap.size) → K (a.put o.dst v') w') : o.wp Tryz.prog a w K Q := by
  obtain ⟨i0, hi, hz0, hz1, hz2⟩ := info_parts infoEntry11
  have hcell : ∀ j y, (e11 x1.1 x1.2)[j]? = some y → w.cell? ((⟨sb, 0, none⟩ : Addr).add j) = some y := fun j y hy => by
    rw [Addr.add_lit, Nat.zero_add, hc.cell j]
    exact hy
  obtain ⟨v', w', hr, h2, h3, h4, h5⟩ := run_append_own_at (P := Tryz.prog) w B 29 o.type 105 i0 _ 11 120 Tryz.underlying29 hi hz0 hz1 hz2 rfl (by decide) v es.length (es11 es) hown ⟨sb, 0, none⟩ 1 1 (e11 x1.1 x1.2) rfl hcell h1 (by unfold maxLen; omega) (by omega) hB
  unfold Oper.wp execOp
  simp only [ho, resolve, invoke, builtin, Sem.run_bind, Sem.run_pure, Result.andThen_ok, List.map_toArray, List.map_cons, List.map_nil, hs, hx, hr]
  exact h v' w' (by rw [es11_snoc, List.length_append]; exact h2) h3 h5

end Go.Proofs.YtpidafpaffpnaaaGreatDoor
namespace Go.Proofs.YtpidafpaffpnaaaGreatDoor
open Go.RowKit
set_option maxRecDepth 20000 in
set_option maxHeartbeats 4000000 in
theorem nd_any14 (n : Kq.Kn) (a : Option Addr) (L c : Nat) (w : World) :
    Calls Tryz.prog 96 #[kv n (.slice a L c)] w fun e w' => e = .returned (kv n (.slice a L c)) ∧ Below w.heap.size w w' := by
  unfold kv
  go_enter Tryz.func96, Tryz.ntmps96
  go_wp2
  refine bodyPost_ret (v := .agg #[.int .i64 n.made, .int .i64 n.changed, .int .i64 n.ver, .int .i64 n.kids, .int .i64 n.owner, .int .i64 n.len, .int .i64 n.cnt, .string n.data, .int .i64 n.next, .slice a L c]) ?_ rfl ⟨rfl, ?_⟩
  · rw [results_one10 rfl]
    go_simp
  · exact ((Below.refl _ w).alloc (Nat.le_refl _) _).alloc ((Below.refl _ w).alloc (Nat.le_refl _) _).size _


set_option maxRecDepth 20000 in
set_option maxHeartbeats 8000000 in
theorem own_any14 {LT : Rep11} (S : Specs11 LT) (R : SpecR11 LT) (q : Nat) (t : Tq.Tr) (F : Nat → Prop) (room : Int) (w : World) (hL : LT w q t F) (hf : Fine11 t) :
    Calls Tryz.prog 47 #[dptr q, .int .i64 room] w fun e w' => ∃ q' v es pv, e = .returned (dptr q') ∧ Ow11 w w' q' room v es pv (Tq.keys t.l) ∧ es.map (·.1) = t.l := by
  have HS : Hid (Specs11 LT ∧ SpecR11 LT ∧ LT w q t F ∧ Fine11 t) := ⟨S, R, hL, hf⟩
  obtain ⟨qb, hqb⟩ : ∃ z, z = w.heap.size := ⟨_, rfl⟩
  have H1 : Hid (Below w.heap.size w (w.alloc (.cells #[.int .i64 room, .slice none 0 0] 31)) ∧ Cb (w.alloc (.cells #[.int .i64 room, .slice none 0 0] 31)) qb [.int .i64 room, .slice none 0 0] 31 ∧ w.heap.size ≤ qb) := ⟨(Below.refl _ w).alloc (Nat.le_refl _) _, by rw [hqb]; exact Cb.made w _ _, by omega⟩
  clear S R hL hf
  unfold dptr
  go_enter Tryz.func47, Tryz.ntmps47
  go_upto_region 2 with fail
  rw [← hqb]
  clear hqb
  generalize w.alloc (.cells #[.int .i64 room, .slice none 0 0] 31) = w1 at *
  go_wp2_with fail
  refine (HS.out.2.1.paths q t F w1 (HS.out.1.keep HS.out.2.2.1 (fun k hk => H1.out.1.block k (HS.out.1.lt HS.out.2.2.1 hk))) HS.out.2.2.2).mono ?_
  rintro e w5 ⟨v5, rfl, hsq, hof, hb⟩
  have H5 : Hid (Ow11 w w5 qb room (.slice none 0 0) [] v5 (Tq.keys t.l)) := by
    refine ⟨H1.out.1.trans (hb.mono H1.out.1.size), H1.out.2.1.below hb, H1.out.2.2, World.ownsRow_nil _ _ _ _, fun x hx => (by cases hx), ⟨hsq.ss, fun _ k hk e => ?_⟩⟩
    rcases e with e | e
    · cases e
    · have h1 := hof k hk
      have h2 := H1.out.2.1.lt
      simp only [] at h1
      omega
  obtain ⟨pa, pL, pc, rfl, hpL, hjj⟩ := hsq
  have HPL : Hid (pL = t.l.length) := by
    have e : pL = t.l.length := by rw [hpL]; unfold Tq.keys; simp
    exact e
  have hpL5 : pL ≤ 500 := by have h1 := HPL.out; have h2 := HS.out.2.2.2.len; have h3 := HS.out.2.2.2.room; omega
  clear hof hb hjj hpL H1
  go_wp2
  go_loopw [7] (fun i wr => ∃ (k : Nat) (v : Value) (es : List (Tq.En × Value)), k ≤ pL ∧ i = .int .i64 (k : Int) ∧ Ow11 w wr qb room v es (.slice pa pL pc) (Tq.keys t.l) ∧ es.map (·.1) = t.l.take k) (fun i _ => pL - (intOf i).toNat)
  case atStart => exact ⟨0, _, [], Nat.zero_le _, rfl, H5.out, by simp⟩
  case round =>
    obtain ⟨k, v, es, hk, rfl, hO, hes⟩ := hrel
    have H6 : Hid (Ow11 w wr qb room v es (.slice pa pL pc) (Tq.keys t.l) ∧ es.map (·.1) = t.l.take k) := ⟨hO, hes⟩
    clear hO hes H5
    by_cases hlt : k < pL
    · have hlt' : (k : Int) < (pL : Int) := by omega
      have hk0 : (0 : Int) ≤ (k : Int) := by omega
      have hwk : IntKind.wrap .i64 ((k : Int) + 1) = (k : Int) + 1 := by rw [IntKind.wrap_i64]; omega
      obtain ⟨p, m, hp0, hp1, hp2, hp3⟩ := Tq.key_at3 HS.out.2.2.2 (j := k) (by have := HPL.out; omega)
      have HP : Hid (t.l[k]? = some (p, m) ∧ (Tq.keys t.l)[k]? = some p ∧ Tq.find t.l p = some m ∧ p.size ≤ maxLen) := ⟨hp0, hp1, hp2, hp3⟩
      obtain ⟨av, n0, c0, e0, hj0, hcs⟩ := H6.out.1.paths.ss
      obtain ⟨pg, po, hpa, lx⟩ := hcs k p hp1
      simp only [Value.slice.injEq] at e0
      obtain ⟨e1, e2, e3⟩ := e0
      subst hpa e1
      clear hcs e2 e3 hj0 hp0 hp1 hp2 hp3
      have HPG : Hid (v.ownBlock ≠ some pg ∧ wr.cell? ⟨pg, po + k, none⟩ = some (.string p)) := ⟨fun e => H6.out.1.paths.off (fun e2 => by have h := HP.out.2.1; rw [e2] at h; simp at h) pg rfl (Or.inl e), lx⟩
      go_wp2_with fail
      clear lx
      refine (HS.out.2.1.node q t F p wr (HS.out.1.keep HS.out.2.2.1 (fun k hk => H6.out.1.below.block k (HS.out.1.lt HS.out.2.2.1 hk))) HS.out.2.2.2 HP.out.2.2.2).mono ?_
      rintro e w7 ⟨hN, hb⟩
      obtain ⟨u, rfl, hsq, hof⟩ := hN.1 m HP.out.2.2.1
      have hss := hsq.ss
      obtain ⟨ma, mL, mc, rfl, hj1, hj2⟩ := hsq
      obtain ⟨qn, hqn⟩ : ∃ z, z = w7.heap.size := ⟨_, rfl⟩
      obtain ⟨va, vc, ev, hj3, hj4⟩ := row_form H6.out.1.row
      obtain ⟨E, hE⟩ : ∃ E, E = es.length := ⟨_, rfl⟩
      rw [← hE] at ev
      have HE : Hid (E = es.length) := hE
      subst ev
      have H8 : Hid (Ow11 w (w7.alloc (.cells #[.int .i64 m.made, .int .i64 m.changed, .int .i64 m.ver, .int .i64 m.kids, .int .i64 m.owner, .int .i64 m.len, .int .i64 m.cnt, .string m.data, .int .i64 m.next, .slice ma mL mc] 38)) qb room (.slice va E vc) es (.slice (some ⟨pg, po, none⟩) pL pc) (Tq.keys t.l) ∧ Cb (w7.alloc (.cells #[.int .i64 m.made, .int .i64 m.changed, .int .i64 m.ver, .int .i64 m.kids, .int .i64 m.owner, .int .i64 m.len, .int .i64 m.cnt, .string m.data, .int .i64 m.next, .slice ma mL mc] 38)) qn (k10 m (.slice ma mL mc)) 38 ∧ Ss (w7.alloc (.cells #[.int .i64 m.made, .int .i64 m.changed, .int .i64 m.ver, .int .i64 m.kids, .int .i64 m.owner, .int .i64 m.len, .int .i64 m.cnt, .string m.data, .int .i64 m.next, .slice ma mL mc] 38)) (.slice ma mL mc) m.names ∧ (m.names ≠ [] → Off11 (fun k => k < wr.heap.size) (.slice ma mL mc)) ∧ (w7.alloc (.cells #[.int .i64 m.made, .int .i64 m.changed, .int .i64 m.ver, .int .i64 m.kids, .int .i64 m.owner, .int .i64 m.len, .int .i64 m.cnt, .string m.data, .int .i64 m.next, .slice ma mL mc] 38)).cell? ⟨pg, po + k, none⟩ = some (.string p) ∧ (Value.slice va E vc).ownBlock ≠ some qn) := by
        have hba := (Below.refl _ w7).alloc (Nat.le_refl _) (.cells #[.int .i64 m.made, .int .i64 m.changed, .int .i64 m.ver, .int .i64 m.kids, .int .i64 m.owner, .int .i64 m.len, .int .i64 m.cnt, .string m.data, .int .i64 m.next, .slice ma mL mc] 38)
        refine ⟨(H6.out.1.later hb).later hba, by rw [hqn]; exact Cb.made w7 (k10 m (.slice ma mL mc)) _, hss.below hba, hof, Below.kept hba (Below.kept hb HPG.out.2), fun e => ?_⟩
        have h1 := (H6.out.1.row.lt qn e).2
        have h2 := hb.size
        omega
      have HW : Hid (w.heap.size ≤ wr.heap.size ∧ ∀ k, (Value.slice va E vc).ownBlock = some k → k < wr.heap.size) := ⟨H6.out.1.below.size, fun k hk => (H6.out.1.row.lt k hk).2⟩
      have HES : Hid (es.map (·.1) = t.l.take k ∧ qb < wr.heap.size) := ⟨H6.out.2, H6.out.1.blk.lt⟩
      clear hN hb hof hss hj1 hj2 hj3 hj4 hE H6
      unfold kv
      go_upto_region 7 with fail
      rw [← hqn]
      clear hqn
      generalize w7.alloc (.cells #[.int .i64 m.made, .int .i64 m.changed, .int .i64 m.ver, .int .i64 m.kids, .int .i64 m.owner, .int .i64 m.len, .int .i64 m.cnt, .string m.data, .int .i64 m.next, .slice ma mL mc] 38) = w8 at *
      refine wp_region_T (Sx11 w8.drew (.slice va E vc)) 16 (by kernel_rfl) ?_
      have H9 : Hid (Ow11 w w8.drew qb room (.slice va E vc) es (.slice (some ⟨pg, po, none⟩) pL pc) (Tq.keys t.l) ∧ Cb w8.drew qn (k10 m (.slice ma mL mc)) 38 ∧ Ss w8.drew (.slice ma mL mc) m.names ∧ w8.drew.cell? ⟨pg, po + k, none⟩ = some (.string p)) := ⟨H8.out.1.later (Below.refl _ _).drew, H8.out.2.1.below (Below.refl _ _).drew, H8.out.2.2.1.below (Below.refl _ _).drew, Below.kept (Below.refl _ _).drew H8.out.2.2.2.2.1⟩
      have HO : Hid ((m.names ≠ [] → Off11 (fun k => k < wr.heap.size) (.slice ma mL mc)) ∧ (Value.slice va E vc).ownBlock ≠ some qn) := ⟨H8.out.2.2.2.1, H8.out.2.2.2.2.2⟩
      clear H8
      generalize w8.drew = wc at *
      have HSX : Hid (Sx11 wc (.slice va E vc) wc) := fun _ _ _ => rfl
      have HQ1 : Hid (∀ w, Sx11 wc (.slice va E vc) w → w.cell? ⟨qb, 1, none⟩ = some (.slice va E vc) ∧ w.cell? ⟨pg, po + k, none⟩ = some (.string p) ∧ w.heap[qn]? = some (.cells #[.int .i64 m.made, .int .i64 m.changed, .int .i64 m.ver, .int .i64 m.kids, .int .i64 m.owner, .int .i64 m.len, .int .i64 m.cnt, .string m.data, .int .i64 m.next, .slice ma mL mc] 38)) := fun w' hs => ⟨hs.cell (H9.out.1.blk.cell 1) (H9.out.1.blk.apart H9.out.1.row (by decide)), hs.cell H9.out.2.2.2 HPG.out.1, (hs qn H9.out.2.1.lt HO.out.2).trans H9.out.2.1⟩
      refine' take_T (i := 0) (d := 30) (v := _) rfl rfl (by kernel_rfl) (by kernel_rfl) (by kernel_rfl) (by kernel_rfl) (by kernel_rfl) (fun _ _ _ h => h) (Or.inl ⟨by rfl, ?h0⟩) (HSX.out) ?_
      case h0 =>
        intro w hSw
        obtain ⟨c1, lx, _⟩ := HQ1.out w hSw
        go_simp
        with_reducible rfl
      simp only [List.setIfInBounds_toArray, List.set_cons_zero, List.set_cons_succ]
      refine' take_T (i := 1) (d := 31) (v := _) rfl rfl (by kernel_rfl) (by kernel_rfl) (by kernel_rfl) (by kernel_rfl) (by kernel_rfl) (fun _ _ _ h => h) (Or.inl ⟨by rfl, ?h1⟩) (HSX.out) ?_
      case h1 =>
        intro w hSw
        obtain ⟨c1, lx, _⟩ := HQ1.out w hSw
        go_simp
        with_reducible rfl
      simp only [List.setIfInBounds_toArray, List.set_cons_zero, List.set_cons_succ]
      refine' take_T (i := 2) (d := 32) (v := _) rfl rfl (by kernel_rfl) (by kernel_rfl) (by kernel_rfl) (by kernel_rfl) (by kernel_rfl) (fun _ _ _ h => h) (Or.inl ⟨by rfl, ?h2⟩) (HSX.out) ?_
      case h2 =>
        intro w hSw
        obtain ⟨c1, lx, _⟩ := HQ1.out w hSw
        go_simp
        with_reducible rfl
      simp only [List.setIfInBounds_toArray, List.set_cons_zero, List.set_cons_succ]
      refine' take_T (i := 3) (d := 33) (v := _) rfl rfl (by kernel_rfl) (by kernel_rfl) (by kernel_rfl) (by kernel_rfl) (by kernel_rfl) (fun _ _ _ h => h) (Or.inl ⟨by rfl, ?h3⟩) (HSX.out) ?_
      case h3 =>
        intro w hSw
        obtain ⟨c1, lx, _⟩ := HQ1.out w hSw
        go_simp
        with_reducible rfl
      simp only [List.setIfInBounds_toArray, List.set_cons_zero, List.set_cons_succ]
      refine' take_T (i := 4) (d := 34) (v := _) rfl rfl (by kernel_rfl) (by kernel_rfl) (by kernel_rfl) (by kernel_rfl) (by kernel_rfl) (fun _ _ _ h => h) (Or.inl ⟨by rfl, ?h4⟩) (HSX.out) ?_
      case h4 =>
        intro w hSw
        obtain ⟨c1, lx, _⟩ := HQ1.out w hSw
        go_simp
        with_reducible rfl
      simp only [List.setIfInBounds_toArray, List.set_cons_zero, List.set_cons_succ]
      refine' take_T (i := 5) (d := 35) (v := _) rfl rfl (by kernel_rfl) (by kernel_rfl) (by kernel_rfl) (by kernel_rfl) (by kernel_rfl) (fun _ _ _ h => h) (Or.inl ⟨by rfl, ?h5⟩) (HSX.out) ?_
      case h5 =>
        intro w hSw
        obtain ⟨c1, lx, _⟩ := HQ1.out w hSw
        go_simp
        with_reducible rfl
      simp only [List.setIfInBounds_toArray, List.set_cons_zero, List.set_cons_succ]
      refine' take_T (i := 6) (d := 36) (v := _) rfl rfl (by kernel_rfl) (by kernel_rfl) (by kernel_rfl) (by kernel_rfl) (by kernel_rfl) (fun _ _ _ h => h) (Or.inl ⟨by rfl, ?h6⟩) (HSX.out) ?_
      case h6 =>
        intro w hSw
        obtain ⟨c1, lx, _⟩ := HQ1.out w hSw
        go_simp
        with_reducible rfl
      simp only [List.setIfInBounds_toArray, List.set_cons_zero, List.set_cons_succ]
      refine' take_T (i := 7) (d := 37) (v := _) rfl rfl (by kernel_rfl) (by kernel_rfl) (by kernel_rfl) (by kernel_rfl) (by kernel_rfl) (fun _ _ _ h => h) (Or.inl ⟨by rfl, ?h7⟩) (HSX.out) ?_
      case h7 =>
        intro w hSw
        obtain ⟨c1, lx, _⟩ := HQ1.out w hSw
        go_simp
        with_reducible rfl
      simp only [List.setIfInBounds_toArray, List.set_cons_zero, List.set_cons_succ]
      refine' take_T (i := 8) (d := 38) (v := _) rfl rfl (by kernel_rfl) (by kernel_rfl) (by kernel_rfl) (by kernel_rfl) (by kernel_rfl) (fun _ _ _ h => h) (Or.inl ⟨by rfl, ?h8⟩) (HSX.out) ?_
      case h8 =>
        intro w hSw
        obtain ⟨c1, lx, _⟩ := HQ1.out w hSw
        go_simp
        with_reducible rfl
      simp only [List.setIfInBounds_toArray, List.set_cons_zero, List.set_cons_succ]
      refine' take_T (i := 9) (d := 39) (v := _) rfl rfl (by kernel_rfl) (by kernel_rfl) (by kernel_rfl) (by kernel_rfl) (by kernel_rfl) (fun _ _ _ h => h) (Or.inl ⟨by rfl, ?h9⟩) (HSX.out) ?_
      case h9 =>
        intro w hSw
        obtain ⟨_, _, hbk⟩ := HQ1.out w hSw
        have hcb : Cb w qn (k10 m (.slice ma mL mc)) 38 := hbk
        have d0 : w.cell? ⟨qn, 0, none⟩ = some (.int .i64 m.made) := (hcb.cell 0).trans rfl
        have d1 : w.cell? ⟨qn, 1, none⟩ = some (.int .i64 m.changed) := (hcb.cell 1).trans rfl
        have d2 : w.cell? ⟨qn, 2, none⟩ = some (.int .i64 m.ver) := (hcb.cell 2).trans rfl
        have d3 : w.cell? ⟨qn, 3, none⟩ = some (.int .i64 m.kids) := (hcb.cell 3).trans rfl
        have d4 : w.cell? ⟨qn, 4, none⟩ = some (.int .i64 m.owner) := (hcb.cell 4).trans rfl
        have d5 : w.cell? ⟨qn, 5, none⟩ = some (.int .i64 m.len) := (hcb.cell 5).trans rfl
        have d6 : w.cell? ⟨qn, 6, none⟩ = some (.int .i64 m.cnt) := (hcb.cell 6).trans rfl
        have d7 : w.cell? ⟨qn, 7, none⟩ = some (.string m.data) := (hcb.cell 7).trans rfl
        have d8 : w.cell? ⟨qn, 8, none⟩ = some (.int .i64 m.next) := (hcb.cell 8).trans rfl
        have d9 : w.cell? ⟨qn, 9, none⟩ = some (.slice ma mL mc) := (hcb.cell 9).trans rfl
        go_simp
        with_reducible rfl
      simp only [List.setIfInBounds_toArray, List.set_cons_zero, List.set_cons_succ]
      refine wpAnyT_ready (rs := [10]) (by kernel_rfl) (by simp) ?_
      refine AllReadyT.cons (o := _) rfl (fun KQ hKQ => ?_) AllReadyT.nil
      go_simp
      refine (nd_any14 m ma mL mc wc).mono ?_
      rintro e w10 ⟨rfl, hb10⟩
      have H10 : Hid (Sx11 wc (.slice va E vc) w10 ∧ Ow11 w w10 qb room (.slice va E vc) es (.slice (some ⟨pg, po, none⟩) pL pc) (Tq.keys t.l) ∧ Ss w10 (.slice ma mL mc) m.names ∧ Below wc.heap.size wc w10) := ⟨fun k hk _ => hb10.block k hk, H9.out.1.later hb10, H9.out.2.2.1.below hb10, hb10⟩
      clear hb10
      unfold kv
      simp only []
      refine hKQ.out _ _ (fun _ => H10.out.1) ?_
      clear hKQ KQ
      refine' take_T (i := 11) (d := 41) (v := _) rfl rfl (by kernel_rfl) (by kernel_rfl) (by kernel_rfl) (by kernel_rfl) (by kernel_rfl) (fun _ _ _ h => h) (Or.inl ⟨by rfl, ?h11⟩) (H10.out.1) ?_
      case h11 =>
        intro w hSw
        go_simp
        with_reducible rfl
      simp only [List.setIfInBounds_toArray, List.set_cons_zero, List.set_cons_succ]
      refine wpAnyT_ready (rs := [12]) (by kernel_rfl) (by simp) ?_
      refine AllReadyT.cons (o := _) rfl (fun KQ hKQ => ?_) AllReadyT.nil
      go_simp
      obtain ⟨sb, hsb⟩ : ∃ z, z = w10.heap.size := ⟨_, rfl⟩
      rw [← hsb]
      have H11 : Hid (Sx11 wc (.slice va E vc) (w10.alloc (.cells #[.string p, .int .i64 m.made, .int .i64 m.changed, .int .i64 m.ver, .int .i64 m.kids, .int .i64 m.owner, .int .i64 m.len, .int .i64 m.cnt, .string m.data, .int .i64 m.next, .slice ma mL mc] 105)) ∧ Ow11 w (w10.alloc (.cells #[.string p, .int .i64 m.made, .int .i64 m.changed, .int .i64 m.ver, .int .i64 m.kids, .int .i64 m.owner, .int .i64 m.len, .int .i64 m.cnt, .string m.data, .int .i64 m.next, .slice ma mL mc] 105)) qb room (.slice va E vc) es (.slice (some ⟨pg, po, none⟩) pL pc) (Tq.keys t.l) ∧ Ss (w10.alloc (.cells #[.string p, .int .i64 m.made, .int .i64 m.changed, .int .i64 m.ver, .int .i64 m.kids, .int .i64 m.owner, .int .i64 m.len, .int .i64 m.cnt, .string m.data, .int .i64 m.next, .slice ma mL mc] 105)) (.slice ma mL mc) m.names ∧ Cb (w10.alloc (.cells #[.string p, .int .i64 m.made, .int .i64 m.changed, .int .i64 m.ver, .int .i64 m.kids, .int .i64 m.owner, .int .i64 m.len, .int .i64 m.cnt, .string m.data, .int .i64 m.next, .slice ma mL mc] 105)) sb (e11 (p, m) (.slice ma mL mc)) 105 ∧ wc.heap.size ≤ (w10.alloc (.cells #[.string p, .int .i64 m.made, .int .i64 m.changed, .int .i64 m.ver, .int .i64 m.kids, .int .i64 m.owner, .int .i64 m.len, .int .i64 m.cnt, .string m.data, .int .i64 m.next, .slice ma mL mc] 105)).heap.size) := by
        have hba := (Below.refl _ w10).alloc (Nat.le_refl _) (.cells #[.string p, .int .i64 m.made, .int .i64 m.changed, .int .i64 m.ver, .int .i64 m.kids, .int .i64 m.owner, .int .i64 m.len, .int .i64 m.cnt, .string m.data, .int .i64 m.next, .slice ma mL mc] 105)
        exact ⟨fun k hk hn => (hba.block k (Nat.lt_of_lt_of_le hk H10.out.2.2.2.size)).trans (H10.out.1 k hk hn), H10.out.2.1.later hba, H10.out.2.2.1.below hba, by rw [hsb]; exact Cb.made w10 (e11 (p, m) (.slice ma mL mc)) _, Nat.le_trans H10.out.2.2.2.size hba.size⟩
      clear H10 H9 hsb
      generalize (w10.alloc (.cells #[.string p, .int .i64 m.made, .int .i64 m.changed, .int .i64 m.ver, .int .i64 m.kids, .int .i64 m.owner, .int .i64 m.len, .int .i64 m.cnt, .string m.data, .int .i64 m.next, .slice ma mL mc] 105)) = w11 at *
      refine hKQ.out _ _ (fun _ => H11.out.1) ?_
      clear hKQ KQ
      refine wpAnyT_ready (rs := [13]) (by kernel_rfl) (by simp) ?_
      refine AllReadyT.cons (o := _) rfl (fun KQ hKQ => ?_) AllReadyT.nil
      refine wp_entry11 _ _ rfl w.heap.size (.slice va E vc) es ((p, m), .slice ma mL mc) sb w11 rfl rfl H11.out.2.1.row H11.out.2.1.below.size H11.out.2.2.2.1 (by have := HE.out; have h2 := congrArg List.length HES.out.1; simp only [List.length_map, List.length_take] at h2; omega) (fun u hu => by simp only [e11, k10, List.mem_cons, List.not_mem_nil, or_false] at hu; rcases hu with rfl | rfl | rfl | rfl | rfl | rfl | rfl | rfl | rfl | rfl | rfl <;> rfl) ?_
      intro v12 w12 hr12 hg12 hv12
      have H12 : Hid (Sx11 wc (.slice va E vc) w12 ∧ Cb w12 qb [.int .i64 room, .slice va E vc] 31 ∧ Ow11 w (w12.setCell ⟨qb, 1, none⟩ v12) qb room v12 (es ++ [((p, m), .slice ma mL mc)]) (.slice (some ⟨pg, po, none⟩) pL pc) (Tq.keys t.l)) := by
        have hq := H11.out.2.1.blk.apart H11.out.2.1.row (by decide)
        refine ⟨fun k hk hn => (hg12.block k (Nat.lt_of_lt_of_le hk H11.out.2.2.2.2) (fun e => hn e.symm)).trans (H11.out.1 k hk hn), H11.out.2.1.blk.keep (hg12.block qb H11.out.2.1.blk.lt (fun e => hq e.symm)), H11.out.2.1.more hg12 hr12 hv12 ⟨⟨_, _, _, rfl⟩, ⟨H11.out.2.2.1, fun hne k hk e => ?_⟩, fun hne k hk e => ?_⟩⟩
        · have h1 := HO.out.1 hne k hk
          rcases e with e | e
          · exact h1 (HW.out.2 k e)
          · exact h1 (by rw [e]; exact HES.out.2)
        · exact HO.out.1 hne k hk (Nat.lt_of_lt_of_le e HW.out.1)
      obtain ⟨va2, vc2, ev2, hj5, hj6⟩ := row_form hr12
      obtain ⟨E2, hE2⟩ : ∃ z, z = (es ++ [((p, m), Value.slice ma mL mc)]).length := ⟨_, rfl⟩
      rw [← hE2] at ev2
      subst ev2
      clear hr12 hg12 hv12 hj5 hj6 hE2 H11
      refine hKQ.out _ _ (fun _ => H12.out.1) ?_
      clear hKQ KQ
      refine' take_T (i := 14) (d := 44) (v := _) rfl rfl (by kernel_rfl) (by kernel_rfl) (by kernel_rfl) (by kernel_rfl) (by kernel_rfl) (fun _ _ _ h => h) (Or.inl ⟨by rfl, ?h14⟩) (H12.out.1) ?_
      case h14 =>
        intro w hSw
        go_simp
        with_reducible rfl
      simp only [List.setIfInBounds_toArray, List.set_cons_zero, List.set_cons_succ]
      refine' take_T (i := 15) (d := 45) (v := _) rfl rfl (by kernel_rfl) (by kernel_rfl) (by kernel_rfl) (by kernel_rfl) (by kernel_rfl) (fun _ _ _ h => h) (Or.inl ⟨by rfl, ?h15⟩) (H12.out.1) ?_
      case h15 =>
        intro w hSw
        go_simp
        with_reducible rfl
      simp only [List.setIfInBounds_toArray, List.set_cons_zero, List.set_cons_succ]
      refine wpAnyT_ready (rs := [16]) (by kernel_rfl) (by simp) ?_
      refine AllReadyT.cons (o := _) rfl (fun KQ hKQ => ?_) AllReadyT.nil
      have d1 : w12.cell? ⟨qb, 1, none⟩ = some (.slice va E vc) := (H12.out.2.1.cell 1).trans rfl
      have f1 := H12.out.2.1.free 1
      go_simp
      clear d1 f1
      have H13 : Hid (Ow11 w (w12.setCell ⟨qb, 1, none⟩ (.slice va2 E2 vc2)) qb room (.slice va2 E2 vc2) (es ++ [((p, m), .slice ma mL mc)]) (.slice (some ⟨pg, po, none⟩) pL pc) (Tq.keys t.l)) := H12.out.2.2
      clear H12
      generalize w12.setCell ⟨qb, 1, none⟩ (.slice va2 E2 vc2) = w13 at *
      refine hKQ.out _ _ (fun h => absurd rfl h) ?_
      clear hKQ KQ
      refine wpAnyT_done (by kernel_rfl) ?_ _
      go_wp2
      go_roundw
      case rel => exact ⟨k + 1, _, _, by omega, by go_num, H13.out, by rw [List.map_append, HES.out.1, List.take_add_one, HP.out.1]; rfl⟩
      case measure => simp [intOf]; omega
    · have hlt' : ¬ (k : Int) < (pL : Int) := by omega
      have HF : Hid (es.map (·.1) = t.l) := by
        have e : es.map (·.1) = t.l := by rw [H6.out.2, List.take_of_length_le (by have := HPL.out; omega)]
        exact e
      go_wp2
      go_ret
      exact ⟨qb, rfl, v, es, ⟨_, H6.out.1⟩, HF.out⟩
end Go.Proofs.YtpidafpaffpnaaaGreatDoor
