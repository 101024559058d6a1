/- What Get does; the contracts of the landed sess. -/
import Derived.Test.YtlabdhllindenaaWRl15
import Derived.Test.YtlabdhllindenaaWOpen15
import Derived.Test.YtlabdhllindenaaWClose15
import Derived.Test.YtlabdhllindenaaWAll15
namespace Go.Proofs.Ytlabdhllindenaa
open Go.RowKit

def GtP (w : World) (o : Option Sq.St) (e : Ending) (w' : World) : Prop := Below w.heap.size w w' ∧ (o = none → e = .returned (.tuple #[.pointer none, .int .i64 3])) ∧ ∀ s, o = some s → ∃ q F, e = .returned (.tuple #[dptr q, .int .i64 0]) ∧ LSe w' q s F ∧ ∀ k, F k → w.heap.size ≤ k
theorem GtP.no {w w' : World} {o : Option Sq.St} (h : o = none) (hb : Below w.heap.size w w') : GtP w o (.returned (.tuple #[.pointer none, .int .i64 3])) w' := ⟨hb, fun _ => rfl, fun s e => by rw [h] at e; cases e⟩
theorem GtP.yes {w w' : World} {o : Option Sq.St} {s : Sq.St} {r q : Nat} {ys : List UInt8} {b : Bool} {v : Value} (h : o = some s) (hg : Gs15 w w' r ys b q s v) : GtP w o (.returned (.tuple #[dptr q, .int .i64 0])) w' := by
  refine ⟨hg.below, fun e => (by rw [h] at e; cases e), fun s' e => ?_⟩
  rw [h] at e
  obtain rfl := Option.some.inj e
  exact ⟨q, _, rfl, ⟨v, hg.se, rfl⟩, fun k hk => by have := hg.hi k hk; have := hg.lo; omega⟩
set_option maxRecDepth 20000 in
set_option maxHeartbeats 8000000 in
theorem get_walk15 (vb : Value) (b : List UInt8) (w : World) (hb : Bs w vb b) (hl : b.length ≤ 2000) :
    Calls Try.prog 17 #[vb] w fun e w' => GtP w (Sq.get b) e w' := by
  have H0 : Hid (Bs w vb b) := hb
  obtain ⟨ao, n, cc, rfl, hn9, hs9⟩ := hb
  clear hn9 hs9
  go_enter Try.func17, Try.ntmps17
  go_wp2_with fail
  refine (Pw.read_bs _ b w H0.out (by omega)).mono ?_
  rintro e w1 ⟨r, rfl, hlo, hrd, hb1⟩
  have H1 : Hid (w.heap.size ≤ r ∧ Pw.Rd w.heap.size w1 r b false ∧ Below w.heap.size w w1) := ⟨hlo, hrd, hb1⟩
  clear hlo hrd hb1
  go_wp2_with fail
  refine (Pw.rCount_any r 64 b false w1 H1.out.2.1).mono ?_
  rintro e w2 ⟨rfl, hrd, hg⟩
  obtain ⟨c, hc⟩ : ∃ c, c = Pk.rC 64 b false := ⟨_, rfl⟩
  rw [← hc] at hrd ⊢
  have H2 : Hid (w.heap.size ≤ r ∧ Pw.Rd w.heap.size w2 r c.2.1 c.2.2 ∧ Below w.heap.size w w2 ∧ c = Pk.rC 64 b false) := ⟨H1.out.1, hrd, Below.reader H1.out.2.2 hg (Nat.le_refl _) H1.out.1, hc⟩
  obtain ⟨z, hz⟩ : ∃ z, z = c.1 := ⟨_, rfl⟩
  rw [← hz]
  have hz64 : z ≤ 64 := by
    rw [hz, hc]
    unfold Pk.rC
    split
    · decide
    · omega
  have HZ : Hid (z = c.1) := hz
  clear hrd hg hc hz H1
  by_cases hz1 : z < 1
  · have HNO : Hid (Sq.get b = none) := (show Sq.get b = none by
      unfold Sq.get
      rw [← H2.out.2.2.2, ← HZ.out, if_pos hz1])
    go_wp2_with fail
    refine (new_no15 z w2 (Or.inl hz1)).mono ?_
    rintro e w3 ⟨rfl, hb3⟩
    have H3 : Hid (Below w.heap.size w w3) := H2.out.2.2.1.trans (hb3.mono H2.out.2.2.1.size)
    clear hb3
    go_wp2
    go_ret2
    exact GtP.no HNO.out H3.out
  have hz2 : ¬ 64 < z := by omega
  obtain ⟨nn, hnn⟩ : ∃ n, n = Pk.rI c.2.1 c.2.2 := ⟨_, rfl⟩
  obtain ⟨kk, hkk⟩ : ∃ n, n = Pk.rI nn.2.1 nn.2.2 := ⟨_, rfl⟩
  obtain ⟨cl, hcl⟩ : ∃ n, n = Pk.rC z kk.2.1 kk.2.2 := ⟨_, rfl⟩
  have HN : Hid (nn = Pk.rI c.2.1 c.2.2 ∧ kk = Pk.rI nn.2.1 nn.2.2 ∧ cl = Pk.rC z kk.2.1 kk.2.2) := ⟨hnn, hkk, hcl⟩
  have HG : Hid (Sq.get b = if Sq.clockB nn.1 kk.1 then Sq.fin z nn.1 kk.1 (Sq.rdL nn.1 kk.1 cl.1.toNat [] 0 cl.2.1 cl.2.2) else none) := (show Sq.get b = if Sq.clockB nn.1 kk.1 then Sq.fin z nn.1 kk.1 (Sq.rdL nn.1 kk.1 cl.1.toNat [] 0 cl.2.1 cl.2.2) else none by
    unfold Sq.get
    rw [← H2.out.2.2.2, ← HZ.out, if_neg hz1, ← hnn, ← hkk, Sq.get4, ← hcl])
  clear hnn hkk hcl
  go_wp2_with fail
  refine (new_yes15 z w2 (by omega) (by omega)).mono ?_
  rintro e w3 ⟨rfl, hw3⟩
  obtain ⟨q, hq⟩ : ∃ q, q = w2.heap.size := ⟨_, rfl⟩
  rw [← hq]
  have H3 : Hid (Gs15 w w3 r c.2.1 c.2.2 q ⟨z, 0, 1, []⟩ (.slice none 0 0)) := by
    have hb3 : Below w2.heap.size w2 w3 := by
      rw [hw3]
      exact (Below.refl _ w2).alloc (Nat.le_refl _) _
    have hrl := H2.out.2.1.lt
    refine ⟨H2.out.2.1.below hb3, H2.out.1, ⟨?_, World.ownsRow_nil _ _ _ _⟩, fun k hk => ?_, H2.out.2.2.1.trans (hb3.mono H2.out.2.2.1.size)⟩
    · rw [hw3, hq]
      exact Cb.made w2 [.int .i64 z, .int .i64 0, .int .i64 1, .slice none 0 0] _
    · rcases hk with hk | rfl
      · cases hk
      · omega
  clear hq hw3
  unfold dptr
  have HZB : Hid (1 ≤ z ∧ z ≤ 64) := ⟨by omega, hz64⟩
  clear hz1 hz2 hz64
  go_wp2_with fail
  refine (clock_any15 w w3 r c.2.1 c.2.2 q ⟨z, 0, 1, []⟩ _ H3.out nn kk HN.out.1 HN.out.2.1).mono ?_
  rintro e w4 ⟨rfl, hG4⟩
  have H4 : Hid (Gs15 w w4 r kk.2.1 kk.2.2 q ⟨z, nn.1, kk.1, []⟩ (.slice none 0 0)) := hG4
  clear hG4 H3 H2
  obtain ⟨cb, hcb⟩ : ∃ x, x = Sq.clockB nn.1 kk.1 := ⟨_, rfl⟩
  rw [← hcb]
  have HCB : Hid (cb = Sq.clockB nn.1 kk.1) := hcb
  clear hcb
  cases cb with
  | false =>
    have HNO : Hid (Sq.get b = none) := (show Sq.get b = none by
      rw [HG.out, ← HCB.out]
      rfl)
    go_wp2
    go_ret2
    exact GtP.no HNO.out H4.out.below
  | true =>
    obtain ⟨oo, hoo⟩ : ∃ o, o = Sq.rdL nn.1 kk.1 cl.1.toNat [] 0 cl.2.1 cl.2.2 := ⟨_, rfl⟩
    have HF : Hid (Sq.get b = Sq.fin z nn.1 kk.1 oo) := (show Sq.get b = Sq.fin z nn.1 kk.1 oo by
      rw [HG.out, ← HCB.out, hoo]
      rfl)
    have HRL : Hid (Calls Try.prog 35 #[dptr q, dptr r] w4 fun e w' => LvP w r q ⟨z, nn.1, kk.1, []⟩ oo e w') := by
      have hc := Sq.clockB_iff.1 HCB.out.symm
      rw [hoo]
      exact readLive_any15 w w4 r kk.2.1 kk.2.2 q ⟨z, nn.1, kk.1, []⟩ _ H4.out rfl HZB.out.1 HZB.out.2 hc.1 hc.2.1 cl HN.out.2.2
    clear hoo HG
    unfold dptr at *
    go_wp2_with fail
    refine HRL.out.mono ?_
    intro e w5 hL
    cases oo with
    | none =>
      obtain ⟨rfl, hb5⟩ := hL.1 rfl
      have H5 : Hid (Below w.heap.size w w5) := hb5
      have HNO : Hid (Sq.get b = none) := HF.out
      clear hb5 hL HRL
      go_wp2
      go_ret2
      exact GtP.no HNO.out H5.out
    | some t =>
      obtain ⟨l, ys, b2⟩ := t
      obtain ⟨rfl, v5, hG5⟩ := hL.2 l ys b2 rfl
      have H5 : Hid (Gs15 w w5 r ys b2 q ⟨z, nn.1, kk.1, l⟩ v5) := hG5
      clear hG5 hL HRL
      go_wp2_with fail
      refine (Pw.rEnd_any r ys b2 w5 H5.out.rd).mono ?_
      rintro e w6 ⟨rfl, hw⟩
      rw [hw]
      clear hw w6
      obtain ⟨eb, heb⟩ : ∃ x, x = (!b2 && ys.isEmpty) := ⟨_, rfl⟩
      rw [← heb]
      have HEB : Hid (eb = (!b2 && ys.isEmpty)) := heb
      clear heb
      cases eb with
      | false =>
        have HNO : Hid (Sq.get b = none) := (show Sq.get b = none by
          rw [HF.out]
          unfold Sq.fin
          simp only []
          rw [if_neg]
          rintro ⟨rfl, rfl⟩
          cases HEB.out)
        go_wp2
        go_ret2
        exact GtP.no HNO.out H5.out.below
      | true =>
        have HYES : Hid (Sq.get b = some ⟨z, nn.1, kk.1, l⟩) := (show Sq.get b = some ⟨z, nn.1, kk.1, l⟩ by
          rw [HF.out]
          have h := HEB.out
          cases b2 with
          | true => cases h
          | false =>
            cases ys with
            | nil => rfl
            | cons y ys => cases h)
        go_wp2
        go_ret2
        exact GtP.yes HYES.out H5.out
theorem get_any15 (v : Value) (b : List UInt8) (w : World) (hb : Bs w v b) (hl : b.length ≤ 2000) : Calls Try.prog 17 #[v] w fun e w' => Below w.heap.size w w' ∧ (Sq.get b = none → e = .returned (.tuple #[.pointer none, .int .i64 3])) ∧ ∀ s, Sq.get b = some s → ∃ q F, e = .returned (.tuple #[dptr q, .int .i64 0]) ∧ LSe w' q s F ∧ ∀ k, F k → w.heap.size ≤ k := get_walk15 v b w hb hl
theorem specs_any15 : Specs15 LSe where
  lt := LSe.lt
  keep := LSe.keep
  new := new_any15
  opn := open_any15
  touch := touch_any15
  close := fun q s F m id w hL hf _ => close_any15 q s F m id w hL hf
  tick := tick_any15
  live := live_any15
  all := all_any15
  now := now_any15
  put := put_any15
  get := get_any15
end Go.Proofs.Ytlabdhllindenaa
