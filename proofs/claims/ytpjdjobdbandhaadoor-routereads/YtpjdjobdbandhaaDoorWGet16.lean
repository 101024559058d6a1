/- What Get does; the contracts of the landed route. -/
import Derived.Test.YtpjdjobdbandhaaDoorWRd16
import Derived.Test.YtpjdjobdbandhaaDoorWSplit16
import Derived.Test.YtpjdjobdbandhaaDoorWPut16
namespace Go.Proofs.YtpjdjobdbandhaaDoor
open Go.RowKit

def GtP (w : World) (o : Option Tb.St) (e : Ending) (w' : World) : Prop := Below w.heap.size w w' ∧ (o = none → e = .returned (.tuple #[.pointer none, .int .i64 3])) ∧ ∀ s, o = some s → ∃ q F, e = .returned (.tuple #[dptr q, .int .i64 0]) ∧ LTb w' q s F ∧ ∀ k, F k → w.heap.size ≤ k
theorem GtP.no {w w' : World} {o : Option Tb.St} (h : o = none) (hb : Below w.heap.size w w') : GtP w o (.returned (.tuple #[.pointer none, .int .i64 3])) w' := ⟨hb, fun _ => rfl, fun s e => by rw [h] at e; cases e⟩
theorem GtP.yes {w w' : World} {o : Option Tb.St} {s : Tb.St} {r q : Nat} {ys : List UInt8} {b : Bool} {v : Value} (h : o = some s) (hg : Gs16 w w' r ys b q s v) : GtP w o (.returned (.tuple #[dptr q, .int .i64 0])) w' := by
  refine ⟨hg.below, fun e => (by rw [h] at e; cases e), fun s' e => ?_⟩
  rw [h] at e
  obtain rfl := Option.some.inj e
  exact ⟨q, _, rfl, ⟨v, hg.se, rfl⟩, fun k hk => by have := hg.hi k hk; have := hg.lo; omega⟩
set_option maxRecDepth 20000 in
set_option maxHeartbeats 8000000 in
theorem get_walk16 (vb : Value) (b : List UInt8) (w : World) (hb : Bs w vb b) (hl : b.length ≤ 4000) (hS : Pa.Std w) :
    Calls Tryd.prog 13 #[vb] w fun e w' => GtP w (Tb.get b) e w' := by
  have H0 : Hid (Bs w vb b ∧ Pa.Std w) := ⟨hb, hS⟩
  obtain ⟨ao, n, cc, rfl, hn9, hs9⟩ := hb
  clear hn9 hs9 hS
  go_enter Tryd.func13, Tryd.ntmps13
  go_wp2_with fail
  refine (Pw.read_bs _ b w H0.out.1 (by omega)).mono ?_
  rintro e w1 ⟨r, rfl, hlo, hrd, hb1⟩
  have H1 : Hid (w.heap.size ≤ r ∧ Pw.Rd w.heap.size w1 r b false ∧ Below w.heap.size w w1) := ⟨hlo, hrd, hb1⟩
  clear hlo hrd hb1
  go_wp2_with fail
  refine (Pw.rCount_any r 4 b false w1 H1.out.2.1).mono ?_
  rintro e w2 ⟨rfl, hrd, hg⟩
  obtain ⟨c, hc⟩ : ∃ c, c = Pk.rC 4 b false := ⟨_, rfl⟩
  rw [← hc] at hrd ⊢
  have H2 : Hid (w.heap.size ≤ r ∧ Pw.Rd w.heap.size w2 r c.2.1 c.2.2 ∧ Below w.heap.size w w2 ∧ c = Pk.rC 4 b false) := ⟨H1.out.1, hrd, Below.reader H1.out.2.2 hg (Nat.le_refl _) H1.out.1, hc⟩
  obtain ⟨z, hz⟩ : ∃ z, z = c.1 := ⟨_, rfl⟩
  rw [← hz]
  have hz64 : z ≤ 4 := by
    rw [hz, hc]
    exact Tb.rC_up4 (by omega)
  have HZ : Hid (z = c.1) := hz
  clear hrd hg hc hz H1
  by_cases hz1 : z < 1
  · have HNO : Hid (Tb.get b = none) := (show Tb.get b = none by
      unfold Tb.get
      rw [← H2.out.2.2.2, ← HZ.out, if_pos hz1])
    go_wp2_with fail
    refine (new_no16 z w2 (Or.inl hz1)).mono ?_
    rintro e w3 ⟨rfl, hb3⟩
    have H3 : Hid (Below w.heap.size w w3) := H2.out.2.2.1.trans (hb3.mono H2.out.2.2.1.size)
    clear hb3
    go_wp2
    go_ret2
    exact GtP.no HNO.out H3.out
  have hz2 : ¬ 4 < z := by omega
  obtain ⟨nn, hnn⟩ : ∃ n, n = Pk.rI c.2.1 c.2.2 := ⟨_, rfl⟩
  obtain ⟨cl, hcl⟩ : ∃ n, n = Pk.rC 50 nn.2.1 nn.2.2 := ⟨_, rfl⟩
  have HN : Hid (nn = Pk.rI c.2.1 c.2.2 ∧ cl = Pk.rC 50 nn.2.1 nn.2.2) := ⟨hnn, hcl⟩
  obtain ⟨oo, hoo⟩ : ∃ o, o = Tb.rdL (z - 1) cl.1.toNat [] ⟨#[]⟩ cl.2.1 cl.2.2 := ⟨_, rfl⟩
  have HG : Hid (Tb.get b = Tb.fin z nn.1 oo ∧ oo = Tb.rdL (z - 1) cl.1.toNat [] ⟨#[]⟩ cl.2.1 cl.2.2) := ⟨by
    unfold Tb.get
    rw [← H2.out.2.2.2, ← HZ.out, if_neg hz1, ← hnn, Tb.get3, ← hcl, hoo], hoo⟩
  clear hnn hcl hoo
  go_wp2_with fail
  refine (new_yes16 z w2 (by omega) (by omega)).mono ?_
  rintro e w3 ⟨rfl, hw3⟩
  obtain ⟨q, hq⟩ : ∃ q, q = w2.heap.size := ⟨_, rfl⟩
  rw [← hq]
  have H3 : Hid (Gs16 w w3 r c.2.1 c.2.2 q ⟨z, 1, []⟩ (.slice none 0 0)) := by
    have hb3 : Below w2.heap.size w2 w3 := by
      rw [hw3]
      exact (Below.refl _ w2).alloc (Nat.le_refl _) _
    have hrl := H2.out.2.1.lt
    refine ⟨H2.out.2.1.below hb3, H2.out.1, ⟨?_, World.ownsRow_nil _ _ _ _⟩, fun k hk => ?_, H2.out.2.2.1.trans (hb3.mono H2.out.2.2.1.size)⟩
    · rw [hw3, hq]
      exact Cb.made w2 [.int .i64 z, .int .i64 1, .slice none 0 0] _
    · rcases hk with hk | rfl
      · cases hk
      · omega
  clear hq hw3
  unfold dptr
  have HZB : Hid (1 ≤ z ∧ z ≤ 4) := ⟨by omega, hz64⟩
  clear hz1 hz2 hz64
  go_wp2_with fail
  refine (Pw.rI64_any r c.2.1 c.2.2 w3 H3.out.rd).mono ?_
  rintro e w4 ⟨rfl, hrd, hg⟩
  rw [← HN.out.1] at hrd ⊢
  have H4 : Hid (Gs16 w w4 r nn.2.1 nn.2.2 q ⟨z, 1, []⟩ (.slice none 0 0)) := H3.out.read hrd hg
  clear hrd hg H3 H2
  obtain ⟨vz, hvz⟩ : ∃ x, x = nn.1 := ⟨_, rfl⟩
  rw [← hvz] at HG ⊢
  have d1 : w4.cell? ⟨q, 1, none⟩ = some (.int .i64 1) := H4.out.se.blk.cell 1
  have f1 := H4.out.se.blk.free 1
  have H5 : Hid (Gs16 w (w4.setCell ⟨q, 1, none⟩ (.int .i64 vz)) r nn.2.1 nn.2.2 q ⟨z, vz, []⟩ (.slice none 0 0)) := H4.out.vers vz
  clear hvz
  go_upto_region 6 with fail
  clear d1 f1 H4
  generalize w4.setCell ⟨q, 1, none⟩ (.int .i64 vz) = w5 at *
  have HRL : Hid (Calls Tryd.prog 34 #[.pointer (some ⟨q, 0, none⟩), .pointer (some ⟨r, 0, none⟩)] w5 fun e w' => LvP w r q ⟨z, vz, []⟩ oo e w') := by
    rw [HG.out.2]
    exact readMoved_any16 w w5 r nn.2.1 nn.2.2 q ⟨z, vz, []⟩ _ H5.out rfl HZB.out.1 HZB.out.2 H0.out.2 cl HN.out.2
  go_wp2_with fail
  refine HRL.out.mono ?_
  intro e w6 hL
  cases oo with
  | none =>
    obtain ⟨rfl, hb5⟩ := hL.1 rfl
    have H6 : Hid (Below w.heap.size w w6) := hb5
    have HNO : Hid (Tb.get b = none) := HG.out.1
    clear hb5 hL HRL
    go_wp2
    go_ret2
    exact GtP.no HNO.out H6.out
  | some t =>
    obtain ⟨l, ys, b2⟩ := t
    obtain ⟨rfl, v5, hG5⟩ := hL.2 l ys b2 rfl
    have H6 : Hid (Gs16 w w6 r ys b2 q ⟨z, vz, l⟩ v5 ∧ l.length ≤ 50) := ⟨hG5, by
      have h1 := Tb.rdL_len _ _ _ _ _ HG.out.2.symm
      have h2 := Tb.rC_up4 (n := 50) (xs := nn.2.1) (bad := nn.2.2) (by omega)
      rw [← HN.out.2] at h2
      have h3 := Pk.rC_nonneg 50 nn.2.1 nn.2.2
      rw [← HN.out.2] at h3
      simp at h1
      omega⟩
    clear hG5 hL HRL
    go_wp2_with fail
    refine (Pw.rEnd_any r ys b2 w6 H6.out.1.rd).mono ?_
    rintro e w7 ⟨rfl, hw⟩
    rw [hw]
    clear hw w7
    obtain ⟨eb, heb⟩ : ∃ x, x = (!b2 && ys.isEmpty) := ⟨_, rfl⟩
    rw [← heb]
    have HEB : Hid (eb = (!b2 && ys.isEmpty)) := heb
    clear heb
    cases eb with
    | false =>
      have HNO : Hid (Tb.get b = none) := (show Tb.get b = none by
        rw [HG.out.1]
        unfold Tb.fin
        simp only []
        rw [if_neg]
        rintro ⟨rfl, rfl, _⟩
        cases HEB.out)
      go_wp2
      go_ret2
      exact GtP.no HNO.out H6.out.1.below
    | true =>
      obtain ⟨vb, hvb⟩ : ∃ x, x = Tb.verB vz l.length := ⟨_, rfl⟩
      have HVB : Hid (vb = Tb.verB vz l.length) := hvb
      have HMV : Hid (Calls Tryd.prog 36 #[.pointer (some ⟨q, 0, none⟩)] w6 fun e w' => e = .returned (.bool vb) ∧ Below w6.heap.size w6 w') := by
        rw [hvb]
        exact may_any16 q ⟨z, vz, l⟩ v5 w6 H6.out.1.se (by have := H6.out.2; simp only []; omega)
      clear hvb
      go_wp2_with fail
      refine HMV.out.mono ?_
      rintro e w7 ⟨rfl, hb7⟩
      have H7 : Hid (Gs16 w w7 r ys b2 q ⟨z, vz, l⟩ v5) := H6.out.1.later hb7
      clear hb7 HMV H6
      cases vb with
      | false =>
        have HNO : Hid (Tb.get b = none) := (show Tb.get b = none by
          rw [HG.out.1]
          unfold Tb.fin
          simp only []
          rw [if_neg]
          rintro ⟨_, _, h⟩
          rw [← HVB.out] at h
          cases h)
        go_wp2
        go_ret2
        exact GtP.no HNO.out H7.out.below
      | true =>
        have HYES : Hid (Tb.get b = some ⟨z, vz, l⟩) := (show Tb.get b = some ⟨z, vz, l⟩ by
          rw [HG.out.1]
          have h := HEB.out
          unfold Tb.fin
          simp only []
          cases b2 with
          | true => cases h
          | false =>
            cases ys with
            | nil => rw [if_pos ⟨rfl, rfl, HVB.out.symm⟩]
            | cons y ys => cases h)
        go_wp2
        go_ret2
        exact GtP.yes HYES.out H7.out
theorem specs_any16 : Specs16 LTb where
  lt := LTb.lt
  keep := LTb.keep
  new := new_any16
  of := of_any16
  move := move_any16
  version := version_any16
  shards := shards_any16
  split := split_any16
  put := put_any16
  get := fun v b w hb hl hS => get_walk16 v b w hb hl hS
end Go.Proofs.YtpjdjobdbandhaaDoor
