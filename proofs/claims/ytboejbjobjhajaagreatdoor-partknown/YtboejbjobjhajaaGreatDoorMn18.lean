/- Several Ops on a tree that a statement has made; lists of Ops and replies of the statement's own. A share that a statement has made: its calls, from the share's contracts. What the statements' own made, got and awake answer. -/
import Derived.Test.YtboejbjobjhajaaGreatDoorWm2
import Derived.Test.YtboejbjobjhajaaGreatDoorLa1
import Derived.Test.YtboejbjobjhajaaGreatDoorPp8
namespace Go.Proofs.YtboejbjobjhajaaGreatDoor
open Go.RowKit

def ocs (os : List O) : List Value := os.flatMap oc
theorem ocs_at : ∀ (os : List O) (j : Nat) {o : O} {i : Nat} {u : Value}, os[j]? = some o → (oc o)[i]? = some u → (ocs os)[j * 5 + i]? = some u
  | [], j, o, i, u, h, _ => by simp at h
  | y :: os, 0, o, i, u, h, hu => by
    simp only [List.getElem?_cons_zero, Option.some.injEq] at h
    subst h
    have hi := (List.getElem?_eq_some_iff.1 hu).1
    unfold ocs
    rw [List.flatMap_cons, List.getElem?_append_left (by simpa using hi), Nat.zero_mul, Nat.zero_add]
    exact hu
  | y :: os, j + 1, o, i, u, h, hu => by
    simp only [List.getElem?_cons_succ] at h
    have ih := ocs_at os j h hu
    have hl : (oc y).length = 5 := rfl
    unfold ocs at ih ⊢
    rw [List.flatMap_cons, List.getElem?_append_right (by rw [hl]; omega), hl, show (j + 1) * 5 + i - 5 = j * 5 + i by omega]
    exact ih
theorem Om12.made (w : World) (F : Nat → Prop) (hF : ∀ k, F k → k < w.heap.size) (os : List O) : Om12 (w.alloc (.cells (ocs os).toArray 30)) F (.slice (some ⟨w.heap.size, 0, none⟩) os.length os.length) os := by
  refine ⟨⟨_, _, _, rfl, rfl, Nat.le_refl _, fun e => (by cases e), fun j o ho => ⟨w.heap.size, 0, rfl, fun i u hu => ?_⟩⟩, fun _ k hk e => ?_⟩
  · rw [Nat.zero_add]
    exact cell?_alloc_at _ _ _ _ _ _ (by simpa using ocs_at os j ho hu)
  · simp only [Value.ownBlock, Option.some.injEq] at hk
    have := hF k e
    omega

structure Rb12 (w : World) (F : Nat → Prop) (B q : Nat) (r : Rp) (u : Value) : Prop where
  blk : Kept11 w F q [.int .i64 r.num, .int .i64 r.zxid, .int .i64 r.err, .int .i64 r.at_, u] 37
  res : Rn12 B F w u r.xs
section
variable {w w' : World} {F F' : Nat → Prop} {B q : Nat} {r : Rp} {u : Value}
theorem Rb12.moved (h : Rb12 w F B q r u) (hm : Moved w w' F F') : Rb12 w' F' B q r u := ⟨h.blk.moved hm, h.res.moved hm⟩
theorem Rb12.later (h : Rb12 w F B q r u) (hb : Below w.heap.size w w') : Rb12 w' F B q r u := ⟨h.blk.later hb, h.res.later hb⟩
theorem Rb12.made (hF : ∀ k, F k → k < w.heap.size) (h : Rn12 B F w u r.xs) : Rb12 (w.alloc (.cells #[.int .i64 r.num, .int .i64 r.zxid, .int .i64 r.err, .int .i64 r.at_, u] 37)) F B w.heap.size r u :=
  ⟨Kept11.made w F hF [.int .i64 r.num, .int .i64 r.zxid, .int .i64 r.err, .int .i64 r.at_, u] _, h.later ((Below.refl _ w).alloc (Nat.le_refl _) _)⟩
end
theorem Rn12.form {B : Nat} {F : Nat → Prop} {w : World} {u : Value} {xs : List X} (h : Rn12 B F w u xs) : ∃ a c, u = .slice a xs.length c := by
  obtain ⟨av, k, c, rfl, rfl, _⟩ := h
  exact ⟨_, _, rfl⟩

section
variable {LT : Rep11} {W w : World} {q : Nat} {t : Tq.Tr} {F : Nat → Prop}
end
end Go.Proofs.YtboejbjobjhajaaGreatDoor
namespace Go.Proofs.YtboejbjobjhajaaGreatDoor
open Go.RowKit
structure Mine18 (LP : Rep18) (W w : World) (q m : Nat) (s : Pt.St) (F : Nat → Prop) : Prop where
  ld : LP w q s F
  fit : Pt.Fit m s
  hi : ∀ k, F k → W.heap.size ≤ k
  below : Below W.heap.size W w
section
variable {LT : Rep11} {LP : Rep18} {W w w' : World} {q : Nat} {m m' : Nat} {s s' : Pt.St} {F F' : Nat → Prop}
theorem Mine18.step (h : Mine18 LP W w q m s F) (hl : LP w' q s' F') (hf : Pt.Fit m' s') (hm : Moved w w' F F') : Mine18 LP W w' q m' s' F' := by
  have hs := h.below.size
  refine ⟨hl, hf, fun k hk => ?_, h.below.trans (hm.below hs h.hi)⟩
  rcases hm.sub k hk with h1 | h1
  · exact h.hi k h1
  · omega
theorem Mine18.flt (S : Specs18 LT LP) (h : Mine18 LP W w q m s F) : ∀ k, F k → k < w.heap.size := fun _ hk => S.lt h.ld hk
theorem Mine18.later (S : Specs18 LT LP) (h : Mine18 LP W w q m s F) (hb : Below w.heap.size w w') : Mine18 LP W w' q m s F :=
  h.step (S.keep h.ld fun k hk => hb.block k (S.lt h.ld hk)) h.fit (Moved.of_below F hb)
theorem Mine18.std (h : Mine18 LP W w q m s F) (hS : Pa.Std W) : Pa.Std w := hS.below h.below
theorem Mine18.six (h : Mine18 LP W w q m s F) (hS : Pa.Std W) : ∀ k, F k → 6 ≤ k := fun k hk => Nat.le_trans hS.size (h.hi k hk)
theorem mine18_new (S : Specs18 LT LP) (n : Int) (hn : ¬ (n < 1 ∨ 500 < n)) (hW : Below W.heap.size W w) :
    Calls Tryz.prog 10 #[.int .i64 n] w fun e w' => ∃ q F, e = .returned (.tuple #[dptr q, .int .i64 0]) ∧ Mine18 LP W w' q 0 (Pt.new n) F ∧ Below w.heap.size w w' := by
  refine (S.new n w).mono ?_
  simp only [if_neg hn]
  rintro e w' ⟨hb, q, F, rfl, hl, hF⟩
  have hs := hW.size
  exact ⟨q, F, rfl, ⟨hl, Pt.fit_new hn, fun k hk => by have := hF k hk; omega, hW.trans (hb.mono hs)⟩, hb⟩
theorem Mine18.loc (S : Specs18 LT LP) (h : Mine18 LP W w q m s F) (hS : Pa.Std W) (hm : m ≤ 1000) (z n : Int) (v : Value) (os : List O) (hv : Om12 w F v os) (ho : ∀ o ∈ os, OFit o) (hl : os.length ≤ maxLen) (hz : I64 z) (r : Rp) (s' : Pt.St) (he : Pt.local_ s z n os = (r, s')) :
    Calls Tryz.prog 16 #[dptr q, .agg #[.int .i64 z, .int .i64 n, v]] w fun e w' => ∃ F' u, e = .returned (rpv r u) ∧ Rn12 w.heap.size F' w' u r.xs ∧ Mine18 LP W w' q (m + 1) s' F' ∧ Moved w w' F F' := by
  have hf := h.fit.loc z n os
  refine (S.loc q s F m z n v os w h.ld h.fit hm (h.six hS) (h.std hS) hv ho hl hz).mono ?_
  rw [he] at hf ⊢
  rintro e w' ⟨F', u, rfl, hr, hl, hv⟩
  exact ⟨F', u, rfl, hr, h.step hl hf hv, hv⟩
theorem Mine18.prep (S : Specs18 LT LP) (h : Mine18 LP W w q m s F) (hS : Pa.Std W) (hm : m ≤ 1000) (id z : Int) (v : Value) (os : List O) (hv : Om12 w F v os) (ho : ∀ o ∈ os, OFit o) (hl : os.length ≤ maxLen) (hi : I64 id) (hz : I64 z) (a b : Int) (s' : Pt.St) (he : Pt.prepare s id z os = ((a, b), s')) :
    Calls Tryz.prog 11 #[dptr q, .int .i64 id, .int .i64 z, v] w fun e w' => ∃ F', e = .returned (.tuple #[.int .i64 a, .int .i64 b]) ∧ Mine18 LP W w' q (m + 1) s' F' ∧ Moved w w' F F' := by
  have hf := h.fit.prep (id := id) (z := z) (os := os) hi.2 hz.2 ho
  refine (S.prep q s F m id z v os w h.ld h.fit hm (h.six hS) (h.std hS) hv ho hl hi hz).mono ?_
  rw [he] at hf ⊢
  rintro e w' ⟨F', rfl, hl, hv⟩
  exact ⟨F', rfl, h.step hl hf hv, hv⟩
theorem Mine18.clo (S : Specs18 LT LP) (h : Mine18 LP W w q m s F) (hS : Pa.Std W) (hm : m ≤ 1000) (id z : Int) (hi : I64 id) (hz : I64 z) (a b : Int) (s' : Pt.St) (he : Pt.close s id z = ((a, b), s')) :
    Calls Tryz.prog 17 #[dptr q, .int .i64 id, .int .i64 z] w fun e w' => ∃ F', e = .returned (.tuple #[.int .i64 a, .int .i64 b]) ∧ Mine18 LP W w' q (m + 1) s' F' ∧ Moved w w' F F' := by
  have hf := h.fit.clo (id := id) (z := z) hi.2 hz.2
  refine (S.clo q s F m id z w h.ld h.fit hm (h.six hS) (h.std hS) hi hz).mono ?_
  rw [he] at hf ⊢
  rintro e w' ⟨F', rfl, hl, hv⟩
  exact ⟨F', rfl, h.step hl hf hv, hv⟩
theorem Mine18.dec (S : Specs18 LT LP) (h : Mine18 LP W w q m s F) (hS : Pa.Std W) (hm : m ≤ 1000) (id : Int) (c : Bool) (hi : I64 id) (xs : List X) (b : Int) (s' : Pt.St) (he : Pt.decide_ s id c = ((xs, b), s')) :
    Calls Tryz.prog 15 #[dptr q, .int .i64 id, .bool c] w fun e w' => ∃ F' u, e = .returned (.tuple #[u, .int .i64 b]) ∧ Rn12 w.heap.size F' w' u xs ∧ Mine18 LP W w' q (m + 1) s' F' ∧ Moved w w' F F' := by
  have hf := h.fit.dec id c
  refine (S.dec q s F m id c w h.ld h.fit hm (h.six hS) (h.std hS) hi).mono ?_
  rw [he] at hf ⊢
  rintro e w' ⟨F', u, rfl, hr, hl, hv⟩
  exact ⟨F', u, rfl, hr, h.step hl hf hv, hv⟩
theorem Mine18.waiting (S : Specs18 LT LP) (h : Mine18 LP W w q m s F) (hm : m ≤ 1000) (l : List Int) (he : Pt.waiting s = l) :
    Calls Tryz.prog 31 #[dptr q] w fun e w' => ∃ v, e = .returned v ∧ w'.ownsRow w.heap.size 2 1 v l.length (l.map (Value.int .i64)) ∧ Mine18 LP W w' q m s F ∧ Below w.heap.size w w' := by
  refine (S.waiting q s F m w h.ld h.fit hm).mono ?_
  rw [he]
  rintro e w' ⟨v, rfl, hr, hb⟩
  exact ⟨v, rfl, hr, h.later S hb, hb⟩
theorem Mine18.closed (S : Specs18 LT LP) (h : Mine18 LP W w q m s F) (z : Int) (hz : I64 z) (b : Bool) (he : decide (z ∈ s.cl) = b) :
    Calls Tryz.prog 18 #[dptr q, .int .i64 z] w fun e w' => e = .returned (.bool b) ∧ Mine18 LP W w' q m s F ∧ Below w.heap.size w w' := by
  refine (S.closed q s F m z w h.ld h.fit hz).mono ?_
  rw [he]
  rintro e w' ⟨rfl, hb⟩
  exact ⟨rfl, h.later S hb, hb⟩
theorem Mine18.zxid (S : Specs18 LT LP) (h : Mine18 LP W w q m s F) (z : Int) (he : s.z = z) :
    Calls Tryz.prog 35 #[dptr q] w fun e w' => e = .returned (.int .i64 z) ∧ Mine18 LP W w' q m s F ∧ Below w.heap.size w w' := by
  refine (S.zxid q s F w h.ld).mono ?_
  rw [he]
  rintro e w' ⟨rfl, hb⟩
  exact ⟨rfl, h.later S hb, hb⟩
theorem Mine18.tree (S : Specs18 LT LP) (h : Mine18 LP W w q m s F) :
    Calls Tryz.prog 19 #[dptr q] w fun e w' => ∃ q2 F2, e = .returned (dptr q2) ∧ LT w' q2 s.t F2 ∧ (∀ k, F2 k → w.heap.size ≤ k) ∧ Mine18 LP W w' q m s F ∧ Below w.heap.size w w' := by
  refine (S.tree q s F m w h.ld h.fit).mono ?_
  rintro e w' ⟨q2, F2, rfl, hl, hF, hb⟩
  exact ⟨q2, F2, rfl, hl, hF, h.later S hb, hb⟩
theorem Mine18.locks (S : Specs18 LT LP) (h : Mine18 LP W w q m s F) (hm : m ≤ 1000) (z : Int) (he : (s.lk.length : Int) = z) :
    Calls Tryz.prog 14 #[dptr q] w fun e w' => e = .returned (.int .i64 z) ∧ Mine18 LP W w' q m s F ∧ Below w.heap.size w w' := by
  refine (S.locks q s F m w h.ld h.fit hm).mono ?_
  rw [he]
  rintro e w' ⟨rfl, hb⟩
  exact ⟨rfl, h.later S hb, hb⟩
theorem Mine18.wanted (S : Specs18 LT LP) (h : Mine18 LP W w q m s F) (z : Int) (he : (Pt.wanted s : Int) = z) :
    Calls Tryz.prog 13 #[dptr q] w fun e w' => e = .returned (.int .i64 z) ∧ Mine18 LP W w' q m s F ∧ Below w.heap.size w w' := by
  refine (S.wanted q s F w h.ld).mono ?_
  rw [he]
  rintro e w' ⟨rfl, hb⟩
  exact ⟨rfl, h.later S hb, hb⟩
end
end Go.Proofs.YtboejbjobjhajaaGreatDoor
namespace Go.Proofs.YtboejbjobjhajaaGreatDoor.Pt
open Tq
def gt (p : ByteArray) : O := ⟨5, p, ⟨#[]⟩, 0, 0⟩
def aw1 : (Int × Int) × St := prepare (new 10) 1 1 [Tq.mk Tq.pA 0]
def aw2 : Rp × St := local_ aw1.2 2 1 [gt Tq.pA]
def aw3 : (List X × Int) × St := decide_ aw2.2 1 true
def aw4 : Rp × St := local_ aw3.2 2 1 [gt Tq.pA]
theorem aw1_says : aw1.1 = (0, -1) := by kernel_rfl
theorem aw2_says : aw2.1.err = 12 ∧ aw2.1.at_ = 0 := ⟨by kernel_rfl, by kernel_rfl⟩
theorem aw3_says : aw3.1.2 = 0 ∧ aw3.1.1.length = 1 ∧ aw3.1.1[0]?.map (·.path) = some Tq.pA := ⟨by kernel_rfl, by kernel_rfl, by kernel_rfl⟩
theorem aw4_says : aw4.1.err = 0 ∧ aw4.2.z = 3 ∧ aw4.2.lk.length = 0 ∧ aw4.2.ps = [] := ⟨by kernel_rfl, by kernel_rfl, by kernel_rfl, by kernel_rfl⟩
end Go.Proofs.YtboejbjobjhajaaGreatDoor.Pt
namespace Go.Proofs.YtboejbjobjhajaaGreatDoor
open Go.RowKit

set_option maxRecDepth 20000 in
set_option maxHeartbeats 1000000 in
theorem mkL_any18 (p : ByteArray) (f : Int) (w : World) :
    Calls Tryz.prog 12 #[.string p, .int .i64 f] w fun e w' => e = .returned (ov (Tq.mk p f)) ∧ Below w.heap.size w w' := by
  go_enter Tryz.func12, Tryz.ntmps12
  go_wp2
  refine bodyPost_ret (v := .agg #[.int .i64 1, .string p, .string ⟨#[]⟩, .int .i64 0, .int .i64 f]) ?_ rfl ⟨rfl, (Below.refl _ w).alloc (Nat.le_refl _) _⟩
  rw [results_one10 rfl]
  go_simp
set_option maxRecDepth 20000 in
set_option maxHeartbeats 1000000 in
theorem got_any18 (p : ByteArray) (w : World) :
    Calls Tryz.prog 41 #[.string p] w fun e w' => e = .returned (.agg #[.int .i64 2, .int .i64 1, .slice (some ⟨w.heap.size + 1, 0, none⟩) 1 1]) ∧ Below w.heap.size w w' ∧ Ol w' (.slice (some ⟨w.heap.size + 1, 0, none⟩) 1 1) [Pt.gt p] := by
  go_enter Tryz.func41, Tryz.ntmps41
  go_wp2
  refine bodyPost_ret (v := .agg #[.int .i64 2, .int .i64 1, .slice (some ⟨w.heap.size + 1, 0, none⟩) 1 1]) ?_ rfl ⟨rfl, ?_, ?_⟩
  · rw [results_one10 rfl]
    go_simp
  · have h1 := (Below.refl w.heap.size w).alloc (Nat.le_refl _) (.cells #[.int .i64 2, .int .i64 1, .slice (some ⟨w.heap.size + 1, 0, none⟩) 1 1] 41)
    exact h1.trans (((Below.refl _ _).alloc (Nat.le_refl _) _).mono h1.size)
  · have h2 := (Om12.made (w.alloc (.cells #[.int .i64 2, .int .i64 1, .slice (some ⟨w.heap.size + 1, 0, none⟩) 1 1] 41)) (fun _ => False) (fun _ h => h.elim) [Pt.gt p]).ol
    rw [World.size_alloc] at h2
    exact h2
theorem Om12.of_new18 {w w' : World} {F : Nat → Prop} {v : Value} {os : List O} (hF : ∀ k, F k → k < w.heap.size) (h : Ol w' v os) (hn : ∀ k, v.ownBlock = some k → w.heap.size ≤ k) : Om12 w' F v os := ⟨h, fun _ k hk e => by have := hF k e; have := hn k hk; omega⟩
theorem fit_gt18 {p : ByteArray} (hp : p.size ≤ maxLen) : OFit (Pt.gt p) := ⟨(show (-9223372036854775808 : Int) ≤ 5 ∧ (5 : Int) ≤ 9223372036854775807 by decide), hp, Nat.zero_le _, (show (-9223372036854775808 : Int) ≤ 0 ∧ (0 : Int) ≤ 9223372036854775807 by decide), (show (-9223372036854775808 : Int) ≤ 0 ∧ (0 : Int) ≤ 9223372036854775807 by decide)⟩
structure Aw18 (LP : Rep18) (W w : World) (q m : Nat) (s : Pt.St) (F : Nat → Prop) (B5 q5 : Nat) (r5 : Rp) (u5 : Value) : Prop where
  my : Mine18 LP W w q m s F
  b5 : Rb12 w F B5 q5 r5 u5
theorem Aw18.moved {LP : Rep18} {W w w' : World} {q m m' : Nat} {s s' : Pt.St} {F F' : Nat → Prop} {B5 q5 : Nat} {r5 : Rp} {u5 : Value} (h : Aw18 LP W w q m s F B5 q5 r5 u5) (hm : Mine18 LP W w' q m' s' F') (hv : Moved w w' F F') : Aw18 LP W w' q m' s' F' B5 q5 r5 u5 := ⟨hm, h.b5.moved hv⟩
theorem Aw18.later {LT : Rep11} {LP : Rep18} (S : Specs18 LT LP) {W w w' : World} {q m : Nat} {s : Pt.St} {F : Nat → Prop} {B5 q5 : Nat} {r5 : Rp} {u5 : Value} (h : Aw18 LP W w q m s F B5 q5 r5 u5) (hb : Below w.heap.size w w') : Aw18 LP W w' q m s F B5 q5 r5 u5 := ⟨h.my.later S hb, h.b5.later hb⟩
theorem Rn12.path18 {B : Nat} {F : Nat → Prop} {w : World} {a : Option Addr} {k c : Nat} {x : X} {xs : List X} (h : Rn12 B F w (.slice a k c) xs) (hx : xs[0]? = some x) : ∃ g b, a = some ⟨g, b, none⟩ ∧ w.cell? ⟨g, b + 1, none⟩ = some (.string x.path) := by
  obtain ⟨av, k', c', e, _, _, _, hs⟩ := h
  obtain ⟨g, b, nv, h1, _, _, _, h5⟩ := hs 0 x hx
  obtain ⟨e1, _, _⟩ := Value.slice.inj e
  exact ⟨g, b, by rw [e1, h1], by have := h5 1 _ rfl; simpa using this⟩
set_option maxRecDepth 20000 in
set_option maxHeartbeats 8000000 in
theorem awake_any18 {LT : Rep11} {LP : Rep18} (S : Specs18 LT LP) (W : World) (hS : Pa.Std W) :
    Calls Tryz.prog 9 #[] W fun e w' => e = .returned (.bool true) ∧ Below W.heap.size W w' := by
  have HS : Hid (Specs18 LT LP ∧ Pa.Std W) := ⟨S, hS⟩
  clear S hS
  obtain ⟨s1, hs1⟩ : ∃ s, s = Pt.aw1.2 := ⟨_, rfl⟩
  obtain ⟨r5, hr5⟩ : ∃ s, s = Pt.aw2.1 := ⟨_, rfl⟩
  obtain ⟨s2, hs2⟩ : ∃ s, s = Pt.aw2.2 := ⟨_, rfl⟩
  obtain ⟨x3, hx3⟩ : ∃ s, s = Pt.aw3.1.1 := ⟨_, rfl⟩
  obtain ⟨s3, hs3⟩ : ∃ s, s = Pt.aw3.2 := ⟨_, rfl⟩
  obtain ⟨r9, hr9⟩ : ∃ s, s = Pt.aw4.1 := ⟨_, rfl⟩
  obtain ⟨s4, hs4⟩ : ∃ s, s = Pt.aw4.2 := ⟨_, rfl⟩
  have HP1 : Hid (Pt.prepare (Pt.new 10) 1 1 [Tq.mk Tq.pA 0] = ((0, -1), s1)) := (show Pt.aw1 = _ by rw [hs1, ← Pt.aw1_says])
  have HP2 : Hid (Pt.local_ s1 2 1 [Pt.gt Tq.pA] = (r5, s2)) := (show _ = _ by rw [hs1, hr5, hs2]; rfl)
  have HP3 : Hid (Pt.decide_ s2 1 true = ((x3, 0), s3)) := (show _ = _ by rw [hs2, hx3, hs3, ← Pt.aw3_says.1]; rfl)
  have HP4 : Hid (Pt.local_ s3 2 1 [Pt.gt Tq.pA] = (r9, s4)) := (show _ = _ by rw [hs3, hr9, hs4]; rfl)
  have HX2 : Hid (r5.err = 12 ∧ r5.at_ = 0) := by rw [hr5]; exact Pt.aw2_says
  have HX3 : Hid (x3.length = 1 ∧ x3[0]?.map (·.path) = some Tq.pA) := by rw [hx3]; exact Pt.aw3_says.2
  have HX4 : Hid (r9.err = 0 ∧ s4.z = 3 ∧ s4.lk.length = 0 ∧ s4.ps = []) := by rw [hr9, hs4]; exact Pt.aw4_says
  clear hs1 hr5 hs2 hx3 hs3 hr9 hs4
  go_enter Tryz.func9, Tryz.ntmps9
  go_wp2_with fail
  refine (mine18_new HS.out.1 10 (by decide) (Below.refl _ W)).mono ?_
  rintro e w1 ⟨q, F1, rfl, hM, hb⟩
  have M1 : Hid (Mine18 LP W w1 q 0 (Pt.new 10) F1) := hM
  clear hM hb
  unfold dptr
  go_wp2_with fail
  refine (mkL_any18 Tq.pA 0 w1).mono ?_
  rintro e w2 ⟨rfl, hb⟩
  have M2 : Hid (Mine18 LP W w2 q 0 (Pt.new 10) F1) := M1.out.later HS.out.1 hb
  clear hb M1
  unfold ov Tq.mk
  simp only []
  obtain ⟨g3, hg3⟩ : ∃ z, z = w2.heap.size := ⟨_, rfl⟩
  have M3 : Hid (Mine18 LP W (w2.alloc (.cells #[.int .i64 1, .string Tq.pA, .string ⟨#[]⟩, .int .i64 0, .int .i64 0] 30)) q 0 (Pt.new 10) F1 ∧ Om12 (w2.alloc (.cells #[.int .i64 1, .string Tq.pA, .string ⟨#[]⟩, .int .i64 0, .int .i64 0] 30)) F1 (.slice (some ⟨g3, 0, none⟩) 1 1) [Tq.mk Tq.pA 0]) := ⟨M2.out.later HS.out.1 ((Below.refl _ w2).alloc (Nat.le_refl _) _), by rw [hg3]; exact Om12.made w2 F1 (M2.out.flt HS.out.1) [Tq.mk Tq.pA 0]⟩
  go_wp2_with fail
  rw [← hg3]
  clear hg3 M2
  generalize (w2.alloc (.cells #[.int .i64 1, .string Tq.pA, .string ⟨#[]⟩, .int .i64 0, .int .i64 0] 30)) = w3 at *
  refine (M3.out.1.prep HS.out.1 HS.out.2 (by decide) 1 1 _ [Tq.mk Tq.pA 0] M3.out.2 (fun o ho => by rw [List.mem_singleton.1 ho]; exact fit_mk (by decide) (by decide)) (by decide) (by unfold I64; decide) (by unfold I64; decide) 0 (-1) s1 HP1.out).mono ?_
  rintro e w4 ⟨F4, rfl, hM, hmv⟩
  have M4 : Hid (Mine18 LP W w4 q 1 s1 F4) := hM
  clear hM hmv M3
  go_wp2_with fail
  refine (got_any18 Tq.pA w4).mono ?_
  rintro e wa ⟨rfl, hb, hol⟩
  obtain ⟨va, hva⟩ : ∃ z : Value, z = .slice (some ⟨w4.heap.size + 1, 0, none⟩) 1 1 := ⟨_, rfl⟩
  rw [← hva] at hol ⊢
  have Ma : Hid (Mine18 LP W wa q 1 s1 F4 ∧ Om12 wa F4 va [Pt.gt Tq.pA]) := ⟨M4.out.later HS.out.1 hb, Om12.of_new18 (M4.out.flt HS.out.1) hol (fun k hk => by rw [hva] at hk; simp only [Value.ownBlock, Option.some.injEq] at hk; omega)⟩
  clear hb hol hva M4
  go_wp2_with fail
  refine (Ma.out.1.loc HS.out.1 HS.out.2 (by decide) 2 1 va [Pt.gt Tq.pA] Ma.out.2 (fun o ho => by rw [List.mem_singleton.1 ho]; exact fit_gt18 (by decide)) (by decide) (by unfold I64; decide) r5 s2 HP2.out).mono ?_
  rintro e w5 ⟨F5, u, rfl, hrn, hM, hmv⟩
  have hns := hrn
  obtain ⟨a5, n5, c5, rfl, hj1, hj2⟩ := hns
  obtain ⟨q5, hq5⟩ : ∃ z, z = w5.heap.size := ⟨_, rfl⟩
  have M6 : Hid (Aw18 LP W (w5.alloc (.cells #[.int .i64 r5.num, .int .i64 r5.zxid, .int .i64 r5.err, .int .i64 r5.at_, .slice a5 n5 c5] 37)) q 2 s2 F5 wa.heap.size q5 r5 (.slice a5 n5 c5)) := ⟨hM.later HS.out.1 ((Below.refl _ w5).alloc (Nat.le_refl _) _), by rw [hq5]; exact Rb12.made (fun k hk => hM.flt HS.out.1 k hk) hrn⟩
  clear hrn hM hmv hj1 hj2 Ma
  unfold rpv
  go_upto_region 6 with fail
  rw [← hq5]
  clear hq5
  generalize (w5.alloc (.cells #[.int .i64 r5.num, .int .i64 r5.zxid, .int .i64 r5.err, .int .i64 r5.at_, .slice a5 n5 c5] 37)) = w6 at *
  go_wp2_with fail
  refine (M6.out.my.dec HS.out.1 HS.out.2 (by decide) 1 true (by unfold I64; decide) x3 0 s3 HP3.out).mono ?_
  rintro e w7 ⟨F7, u7, rfl, hrn, hM, hmv⟩
  have M7 : Hid (Aw18 LP W w7 q 3 s3 F7 wa.heap.size q5 r5 (.slice a5 n5 c5) ∧ Rn12 w6.heap.size F7 w7 u7 x3) := ⟨M6.out.moved hM hmv, hrn⟩
  have hns := hrn
  obtain ⟨a7, n7, c7, rfl, hj1, hj2⟩ := hns
  clear hrn hM hmv hj1 hj2 M6
  go_wp2_with fail
  refine (got_any18 Tq.pA w7).mono ?_
  rintro e wb ⟨rfl, hb, hol⟩
  obtain ⟨vb, hvb⟩ : ∃ z : Value, z = .slice (some ⟨w7.heap.size + 1, 0, none⟩) 1 1 := ⟨_, rfl⟩
  rw [← hvb] at hol ⊢
  have Mb : Hid (Aw18 LP W wb q 3 s3 F7 wa.heap.size q5 r5 (.slice a5 n5 c5) ∧ Rn12 w6.heap.size F7 wb (.slice a7 n7 c7) x3 ∧ Om12 wb F7 vb [Pt.gt Tq.pA]) := ⟨M7.out.1.later HS.out.1 hb, M7.out.2.later hb, Om12.of_new18 (M7.out.1.my.flt HS.out.1) hol (fun k hk => by rw [hvb] at hk; simp only [Value.ownBlock, Option.some.injEq] at hk; omega)⟩
  clear hb hol hvb M7
  go_wp2_with fail
  refine (Mb.out.1.my.loc HS.out.1 HS.out.2 (by decide) 2 1 vb [Pt.gt Tq.pA] Mb.out.2.2 (fun o ho => by rw [List.mem_singleton.1 ho]; exact fit_gt18 (by decide)) (by decide) (by unfold I64; decide) r9 s4 HP4.out).mono ?_
  rintro e w8 ⟨F8, u, rfl, hrn, hM, hmv⟩
  have hns := hrn
  obtain ⟨a9, n9, c9, rfl, hj1, hj2⟩ := hns
  obtain ⟨q9, hq9⟩ : ∃ z, z = w8.heap.size := ⟨_, rfl⟩
  have M9 : Hid (Aw18 LP W (w8.alloc (.cells #[.int .i64 r9.num, .int .i64 r9.zxid, .int .i64 r9.err, .int .i64 r9.at_, .slice a9 n9 c9] 37)) q 4 s4 F8 wa.heap.size q5 r5 (.slice a5 n5 c5) ∧ Rn12 w6.heap.size F8 (w8.alloc (.cells #[.int .i64 r9.num, .int .i64 r9.zxid, .int .i64 r9.err, .int .i64 r9.at_, .slice a9 n9 c9] 37)) (.slice a7 n7 c7) x3 ∧ Rb12 (w8.alloc (.cells #[.int .i64 r9.num, .int .i64 r9.zxid, .int .i64 r9.err, .int .i64 r9.at_, .slice a9 n9 c9] 37)) F8 wb.heap.size q9 r9 (.slice a9 n9 c9)) := by
    have hba := (Below.refl _ w8).alloc (Nat.le_refl _) (.cells #[.int .i64 r9.num, .int .i64 r9.zxid, .int .i64 r9.err, .int .i64 r9.at_, .slice a9 n9 c9] 37)
    exact ⟨(Mb.out.1.moved hM hmv).later HS.out.1 hba, (Mb.out.2.1.moved hmv).later hba, by rw [hq9]; exact Rb12.made (fun k hk => hM.flt HS.out.1 k hk) hrn⟩
  clear hrn hM hmv hj1 hj2 Mb
  unfold rpv
  go_upto_region 8 with fail
  rw [← hq9]
  clear hq9
  generalize (w8.alloc (.cells #[.int .i64 r9.num, .int .i64 r9.zxid, .int .i64 r9.err, .int .i64 r9.at_, .slice a9 n9 c9] 37)) = w9 at *
  obtain ⟨y, hy, hyp⟩ : ∃ y, x3[0]? = some y ∧ y.path = Tq.pA := by
    have h := HX3.out.2
    cases e : x3[0]? with
    | none => rw [e] at h; cases h
    | some y => rw [e] at h; exact ⟨y, rfl, by simpa using h⟩
  obtain ⟨g7, b7, rfl, e7⟩ := M9.out.2.1.path18 hy
  rw [hyp] at e7
  have en7 : n7 = 1 := by
    obtain ⟨a, c, e⟩ := M9.out.2.1.form
    obtain ⟨_, e2, _⟩ := Value.slice.inj e
    rw [e2, HX3.out.1]
  subst en7
  have d5 : w9.cell? ⟨q5, 2, none⟩ = some (.int .i64 12) := by rw [← HX2.out.1]; exact M9.out.1.b5.blk.cb.cell 2
  have d6 : w9.cell? ⟨q5, 3, none⟩ = some (.int .i64 0) := by rw [← HX2.out.2]; exact M9.out.1.b5.blk.cb.cell 3
  have d9 : w9.cell? ⟨q9, 2, none⟩ = some (.int .i64 0) := by rw [← HX4.out.1]; exact M9.out.2.2.blk.cb.cell 2
  unfold Tq.pA at e7
  clear hy hyp
  go_wp2_with fail
  clear e7 d5 d6 d9
  refine (M9.out.1.my.zxid HS.out.1 3 HX4.out.2.1).mono ?_
  rintro e w10 ⟨rfl, hM, hb⟩
  have M10 : Hid (Mine18 LP W w10 q 4 s4 F8) := hM
  clear hM hb M9
  go_wp2_with fail
  refine (M10.out.locks HS.out.1 (by decide) 0 (by rw [HX4.out.2.2.1]; rfl)).mono ?_
  rintro e w11 ⟨rfl, hM, hb⟩
  have M11 : Hid (Mine18 LP W w11 q 4 s4 F8) := hM
  clear hM hb M10
  go_wp2_with fail
  refine (M11.out.waiting HS.out.1 (by decide) [] (by unfold Pt.waiting; rw [HX4.out.2.2.2]; simp)).mono ?_
  rintro e w12 ⟨v, rfl, hr, hM, hb⟩
  obtain ⟨a, c, rfl⟩ : ∃ a c, v = .slice a 0 c := by
    rcases hr.2 with ⟨e3, _⟩ | ⟨g, cap, cur, e3, _⟩
    · exact ⟨_, _, e3⟩
    · exact ⟨_, _, e3⟩
  have M12 : Hid (Below W.heap.size W w12) := hM.below
  clear hr hM hb M11
  go_wp2
  go_ret
  exact ⟨rfl, M12.out⟩
end Go.Proofs.YtboejbjobjhajaaGreatDoor
