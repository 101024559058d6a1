/- Two trees of a statement's own, apart from one another; a Reader beside a tree; what a tree that was read holds. -/
import Derived.Test.YtpidafpaffpnaaaGreatDoorSpecs14
import Derived.Test.YtpidafpaffpnaaaGreatDoorWGet10
namespace Go.Proofs.YtpidafpaffpnaaaGreatDoor.Tq
open Kq
theorem rT_in (m : Int) (ys : List UInt8) (bad : Bool) (hm : 0 ≤ m) : ((Pk.rT m ys bad).1.length : Int) ≤ m := by
  have h := rC_in10 m ys bad hm
  unfold Pk.rT
  split
  · simp only [List.length_take]
    omega
  · exact hm
theorem rdNs_in : ∀ (k : Nat) (ys : List UInt8) (bad : Bool), (rdNs k ys bad).1.length ≤ k ∧ ∀ s ∈ (rdNs k ys bad).1, s.size ≤ 40
  | 0, ys, bad => ⟨Nat.le_refl _, fun s hs => by cases hs⟩
  | k + 1, ys, bad => by
    have h := rdNs_in k (Pk.rT 40 ys bad).2.1 (Pk.rT 40 ys bad).2.2
    have h2 := rT_in 40 ys bad (by decide)
    unfold rdNs
    split
    · exact ⟨Nat.zero_le _, fun s hs => by cases hs⟩
    · refine ⟨by simp only [List.length_cons]; omega, fun s hs => ?_⟩
      rcases List.mem_cons.1 hs with rfl | hs
      · show (Pk.rT 40 ys bad).1.toArray.size ≤ 40
        simp only [List.size_toArray]
        omega
      · exact h.2 s hs
/-- A node that was read. -/
structure Rw (n : Kn) : Prop where
  ver : 0 ≤ n.ver ∧ n.ver ≤ 2147483647
  kids : 0 ≤ n.kids ∧ n.kids ≤ 2147483647
  next : 0 ≤ n.next ∧ n.next ≤ 2147483647
  data : n.data.size ≤ 1000
  many : n.names.length ≤ 500
  long : ∀ s ∈ n.names, s.size ≤ 40
  laid : laid n = n
theorem raw_in (ys : List UInt8) (bad : Bool) : Rw (raw ys bad).1 := by
  unfold raw
  obtain ⟨a, ha⟩ : ∃ a, a = Pk.rI ys bad := ⟨_, rfl⟩
  obtain ⟨b, hb⟩ : ∃ b, b = Pk.rI a.2.1 a.2.2 := ⟨_, rfl⟩
  obtain ⟨c, hc⟩ : ∃ c, c = Pk.rC 2147483647 b.2.1 b.2.2 := ⟨_, rfl⟩
  obtain ⟨d, hd⟩ : ∃ d, d = Pk.rC 2147483647 c.2.1 c.2.2 := ⟨_, rfl⟩
  obtain ⟨e, he⟩ : ∃ e, e = Pk.rI d.2.1 d.2.2 := ⟨_, rfl⟩
  obtain ⟨f, hf⟩ : ∃ f, f = Pk.rC 2147483647 e.2.1 e.2.2 := ⟨_, rfl⟩
  obtain ⟨g, hg⟩ : ∃ g, g = Pk.rT 1000 f.2.1 f.2.2 := ⟨_, rfl⟩
  obtain ⟨h, hh⟩ : ∃ h, h = Pk.rC 500 g.2.1 g.2.2 := ⟨_, rfl⟩
  obtain ⟨i, hi⟩ : ∃ i, i = rdNs h.1.toNat h.2.1 h.2.2 := ⟨_, rfl⟩
  simp only [← ha, ← hb, ← hc, ← hd, ← he, ← hf, ← hg, ← hh, ← hi]
  have h1 := rC_in10 2147483647 b.2.1 b.2.2 (by decide)
  have h2 := rC_in10 2147483647 c.2.1 c.2.2 (by decide)
  have h3 := rC_in10 2147483647 e.2.1 e.2.2 (by decide)
  have h4 := rT_in 1000 f.2.1 f.2.2 (by decide)
  have h5 := rC_in10 500 g.2.1 g.2.2 (by decide)
  have h6 := rdNs_in h.1.toNat h.2.1 h.2.2
  rw [← hc] at h1
  rw [← hd] at h2
  rw [← hf] at h3
  rw [← hg] at h4
  rw [← hh] at h5
  rw [← hi] at h6
  refine ⟨h1, h2, h3, ?_, by show i.1.length ≤ 500; omega, h6.2, ?_⟩
  · show g.1.toArray.size ≤ 1000
    simp only [List.size_toArray]
    omega
  · unfold Tq.laid
    have e1 : ((⟨g.1.toArray⟩ : ByteArray).size : Int) = (g.1.length : Int) := by
      show ((g.1.toArray.size : Nat) : Int) = _
      simp only [List.size_toArray]
    simp only [e1]
theorem fine_load14 {t : Tr} {p : ByteArray} {n : Kn} (h : Fine11 t) (hn : Rw n) : Fine11 (load t p n).2 := by
  unfold load
  split
  · exact h
  · rename_i hl
    have hl : layB p n = true := by simpa using hl
    obtain ⟨h1, h2, h3, h4⟩ := lay_good hl
    split
    · exact h
    · rename_i hf
      split
      · exact h
      · rename_i hr
        have a := hn.ver
        have b := hn.kids
        have c := hn.next
        have d := hn.data
        exact fine_ins h h1 hf (by omega) ⟨by simp only [Tq.laid]; omega, by simp only [Tq.laid]; omega, by simp only [Tq.laid]; omega, by simp only [Tq.laid]; omega, h4, by simp only [Tq.laid]; omega, h2⟩
theorem lay_load14 {t : Tr} {p : ByteArray} {n : Kn} (h : ∀ e ∈ t.l, Lay e) (hn : Rw n) : ∀ e ∈ (load t p n).2.l, Lay e := by
  unfold load
  split
  · exact h
  · rename_i hl
    have hl : layB p n = true := by simpa using hl
    split
    · exact h
    · split
      · exact h
      · intro e he
        rcases mem_ins.1 he with rfl | he
        · rw [hn.laid]
          exact ⟨hl, hn.laid⟩
        · exact h e he
theorem room_load14 {t : Tr} {p : ByteArray} {n : Kn} : (load t p n).2.room = t.room := by
  unfold load
  split
  · rfl
  · split
    · rfl
    · split <;> rfl
theorem step1_some {ys : List UInt8} {bad : Bool} {last : ByteArray} {t : Tr} {y : ByteArray × Tr × List UInt8} (h1 : Fine11 t) (h2 : ∀ e ∈ t.l, Lay e) (h3 : t.room = 500) (hy : step1 ys bad last t = some y) : Fine11 y.2.1 ∧ (∀ e ∈ y.2.1.l, Lay e) ∧ y.2.1.room = 500 := by
  unfold step1 at hy
  split at hy
  · obtain rfl := Option.some.inj hy
    exact ⟨fine_load14 h1 (raw_in _ _), lay_load14 h2 (raw_in _ _), by rw [room_load14]; exact h3⟩
  · cases hy
theorem rdE_some (k : Nat) : ∀ (ys : List UInt8) (bad : Bool) (last : ByteArray) (t : Tr) (x : Tr × List UInt8 × Bool), Fine11 t → (∀ e ∈ t.l, Lay e) → t.room = 500 → rdE k ys bad last t = some x → Fine11 x.1 ∧ (∀ e ∈ x.1.l, Lay e) ∧ x.1.room = 500 := by
  induction k with
  | zero =>
    intro ys bad last t x h1 h2 h3 h
    rw [rdE_zero] at h
    obtain rfl := Option.some.inj h
    exact ⟨h1, h2, h3⟩
  | succ k ih =>
    intro ys bad last t x h1 h2 h3 h
    rw [rdE_succ] at h
    obtain ⟨y, hy, hx⟩ := Option.bind_eq_some_iff.1 h
    obtain ⟨g1, g2, g3⟩ := step1_some h1 h2 h3 hy
    exact ih _ _ _ _ x g1 g2 g3 hx
theorem rdT_some {ys : List UInt8} {t : Tr} (h : rdT ys = some t) : Fine11 t ∧ (∀ e ∈ t.l, Lay e) ∧ t.room = 500 := by
  unfold rdT at h
  obtain ⟨y, hy, hx⟩ := Option.bind_eq_some_iff.1 h
  have h1 := rdE_some _ _ _ _ _ y (fine11_new (by decide)) (fun e he => by cases he) rfl hy
  split at hx
  · obtain rfl := Option.some.inj hx
    exact h1
  · cases hx
theorem get_one {room : Int} (h : room < 1 ∨ 500 < room) (ys : List UInt8) : getT ys room = (1, none) := by unfold getT; rw [if_pos h]
theorem get_form {room : Int} (h : ¬ (room < 1 ∨ 500 < room)) {ys : List UInt8} (h2 : rdT ys = none) : getT ys room = (3, none) := by unfold getT; rw [if_neg h, h2]
theorem get_apart {room : Int} (h : ¬ (room < 1 ∨ 500 < room)) {ys : List UInt8} {t : Tr} (h2 : rdT ys = some t) (h3 : ¬ joinB t.l = true) : getT ys room = (3, none) := by
  unfold getT
  rw [if_neg h, h2]
  simp only []
  rw [if_neg h3]
theorem get_many {room : Int} (h : ¬ (room < 1 ∨ 500 < room)) {ys : List UInt8} {t : Tr} (h2 : rdT ys = some t) (h3 : joinB t.l = true) (h4 : room < (t.l.length : Int)) : getT ys room = (2, none) := by
  unfold getT
  rw [if_neg h, h2]
  simp only []
  rw [if_pos h3, if_pos h4]
theorem get_yes {room : Int} (h : ¬ (room < 1 ∨ 500 < room)) {ys : List UInt8} {t : Tr} (h2 : rdT ys = some t) (h3 : joinB t.l = true) (h4 : ¬ room < (t.l.length : Int)) : getT ys room = (0, some ⟨room, t.l⟩) := by
  unfold getT
  rw [if_neg h, h2]
  simp only []
  rw [if_pos h3, if_neg h4]
end Go.Proofs.YtpidafpaffpnaaaGreatDoor.Tq
namespace Go.Proofs.YtpidafpaffpnaaaGreatDoor
open Go.RowKit
theorem Pw.Rd.moved14 {B : Nat} {w w' : World} {q : Nat} {xs : List UInt8} {bad : Bool} {F F' : Nat → Prop} (h : Pw.Rd B w q xs bad) (hm : Moved w w' F F') (hF : ∀ k, F k → k < B ∨ q < k) (hB : B ≤ q) : Pw.Rd B w' q xs bad := by
  obtain ⟨v, hc, hl⟩ := h.ex
  have hb := hm.block q h.lt (fun e => by have := hF q e; omega)
  refine ⟨⟨v, (World.cell?_of_block hb).trans hc, ?_⟩, (World.cell?_of_block hb).trans h.c1, (World.frozen?_of_block hb).trans h.f0, (World.frozen?_of_block hb).trans h.f1, h.sad⟩
  rcases hl with hl | ⟨g, o, c, rfl, h1, h2, h4⟩
  · exact Or.inl hl
  · refine Or.inr ⟨g, o, c, rfl, h1, h2, fun j x hx => ?_⟩
    have h5 := h4 j x hx
    rw [World.cell?_of_block (hm.block g (World.block_lt_of_cell? w _ h5) (fun e => by have := hF g e; omega))]
    exact h5
theorem great_no14 {os : List O} (h : greatB os = false) : os.length ≤ 20 := by
  unfold greatB at h
  simp only [Bool.or_eq_false_iff, decide_eq_false_iff_not] at h
  omega
theorem ss_own14 {w : World} {B : Nat} {v : Value} {ss : List ByteArray} (h : w.ownsRow B 9 1 v ss.length (sc ss)) : Ss w v ss := by
  obtain ⟨a, c, rfl, hc, hg⟩ := row_form h
  refine ⟨a, _, c, rfl, rfl, fun j s hs => ?_⟩
  have h0 : 0 < ss.length := by have := (List.getElem?_eq_some_iff.1 hs).1; omega
  obtain ⟨g, rfl⟩ := hg h0
  refine ⟨g, 0, rfl, ?_⟩
  have h1 := h.cells rfl j (.string s) (by unfold sc; rw [List.getElem?_map, hs]; rfl)
  rw [Addr.add_lit] at h1
  exact h1
/-- A Reader beside a tree. -/
structure Rs14 (LT : Rep11) (W : World) (B : Nat) (w : World) (q : Nat) (t : Tq.Tr) (F : Nat → Prop) (qr : Nat) (ys : List UInt8) (bad : Bool) : Prop where
  mine : Mine11 LT W w q t F
  rd : Pw.Rd B w qr ys bad
  off : ∀ k, F k → k < B ∨ qr < k
  hB : B ≤ qr
  hW : W.heap.size ≤ B
section
variable {LT : Rep11} {W w w' : World} {B q qr : Nat} {t t' : Tq.Tr} {F F' : Nat → Prop} {ys ys' : List UInt8} {bad bad' : Bool}
theorem Rs14.read (S : Specs11 LT) (h : Rs14 LT W B w q t F qr ys bad) (hr : Pw.Rd B w' qr ys' bad') (hg : w.grownBy w' (some qr)) : Rs14 LT W B w' q t F qr ys' bad' := by
  have h1 := h.hB
  have h2 := h.hW
  refine ⟨⟨S.keep h.mine.ld (fun k hk => hg.block k (S.lt h.mine.ld hk) (fun e => ?_)), h.mine.fine, h.mine.hi, Below.reader h.mine.below hg (Nat.le_refl _) (by omega)⟩, hr, h.off, h1, h2⟩
  have h3 := Option.some.inj e
  have h4 := h.off k hk
  omega
theorem Rs14.later (S : Specs11 LT) (h : Rs14 LT W B w q t F qr ys bad) (hb : Below w.heap.size w w') : Rs14 LT W B w' q t F qr ys bad := ⟨h.mine.later S hb, h.rd.below hb, h.off, h.hB, h.hW⟩
theorem Rs14.moved (h : Rs14 LT W B w q t F qr ys bad) (hM : Mine11 LT W w' q t' F') (hm : Moved w w' F F') : Rs14 LT W B w' q t' F' qr ys bad :=
  ⟨hM, h.rd.moved14 hm h.off h.hB, fun k hk => by
    rcases hm.sub k hk with e | e
    · exact h.off k e
    · have := h.rd.lt
      omega, h.hB, h.hW⟩
theorem Mine11.loadd14 (S : Specs11 LT) (h : Mine11 LT W w q t F) (hS : Pa.Std W) (p : ByteArray) (n : Kq.Kn) (u : Value) (hu : Ss w u n.names) (ho : n.names ≠ [] → Off11 F u) (h1 : n.names.length ≤ 1000) (h2 : ∀ s ∈ n.names, s.size ≤ 20000) (h3 : n.data.size ≤ 20000) (hp : p.size ≤ maxLen) (e : Int) (t' : Tq.Tr) (he : Tq.load t p n = (e, t')) (hf : Fine11 t') :
    Calls Tryz.prog 18 #[dptr q, .string p, kv n u] w fun ed w' => ∃ F', ed = .returned (.int .i64 e) ∧ Mine11 LT W w' q t' F' ∧ Moved w w' F F' := by
  refine (S.load q t F p n u w h.ld h.fine (h.six hS) (hS.below h.below) hu ho h1 h2 h3 hp).mono ?_
  rintro ed w' ⟨F', rfl, h1, hm⟩
  rw [he] at h1 ⊢
  exact ⟨F', rfl, h.step h1 hf hm, hm⟩
theorem Mine11.made14 (S : Specs11 LT) (n : Int) (hn : ¬ (n < 1 ∨ 500 < n)) (hW : Below W.heap.size W w) :
    Calls Tryz.prog 11 #[.int .i64 n] w fun e w' => ∃ q F, e = .returned (.tuple #[dptr q, .int .i64 0]) ∧ Mine11 LT W w' q ⟨n, []⟩ F ∧ Below w.heap.size w w' ∧ ∀ k, F k → w.heap.size ≤ k := by
  refine (S.new n w).mono ?_
  rintro e w' ⟨hb, h⟩
  rw [if_neg hn] at h
  obtain ⟨q, F, rfl, h1, h2⟩ := h
  exact ⟨q, F, rfl, ⟨h1, fine11_new hn, fun k hk => Nat.le_trans hW.size (h2 k hk), hW.trans (hb.mono hW.size)⟩, hb, h2⟩
end
structure Two14 (LT : Rep11) (W w : World) (q : Nat) (t : Tq.Tr) (F : Nat → Prop) (q2 : Nat) (t2 : Tq.Tr) (F2 : Nat → Prop) : Prop where
  one : Mine11 LT W w q t F
  two : Mine11 LT W w q2 t2 F2
  apart : ∀ k, F k → ¬ F2 k
section
variable {LT : Rep11} {W w w' : World} {q q2 : Nat} {t t2 t' : Tq.Tr} {F F2 F' : Nat → Prop}
theorem Two14.left (S : Specs11 LT) (h : Two14 LT W w q t F q2 t2 F2) (hM : Mine11 LT W w' q t' F') (hm : Moved w w' F F') : Two14 LT W w' q t' F' q2 t2 F2 :=
  ⟨hM, ⟨S.keep h.two.ld (fun k hk => hm.block k (S.lt h.two.ld hk) (fun e => h.apart k e hk)), h.two.fine, h.two.hi, hM.below⟩, fun k e e2 => by
    rcases hm.sub k e with e | e
    · exact h.apart k e e2
    · have := S.lt h.two.ld e2
      omega⟩
theorem Two14.flip (h : Two14 LT W w q t F q2 t2 F2) : Two14 LT W w q2 t2 F2 q t F := ⟨h.two, h.one, fun k e e2 => h.apart k e2 e⟩
theorem Two14.right (S : Specs11 LT) (h : Two14 LT W w q t F q2 t2 F2) (hM : Mine11 LT W w' q2 t' F') (hm : Moved w w' F2 F') : Two14 LT W w' q t F q2 t' F' := (h.flip.left S hM hm).flip
theorem Two14.later (S : Specs11 LT) (h : Two14 LT W w q t F q2 t2 F2) (hb : Below w.heap.size w w') : Two14 LT W w' q t F q2 t2 F2 := ⟨h.one.later S hb, h.two.later S hb, h.apart⟩
/-- Another tree is made, behind all that there was. -/
theorem Mine11.and14 (S : Specs11 LT) (h : Mine11 LT W w q t F) (hb : Below w.heap.size w w') (h2 : LT w' q2 t2 F2) (hf : Fine11 t2) (hF : ∀ k, F2 k → w.heap.size ≤ k) : Two14 LT W w' q t F q2 t2 F2 := by
  have hs := h.below.size
  refine ⟨h.later S hb, ⟨h2, hf, fun k hk => Nat.le_trans hs (hF k hk), h.below.trans (hb.mono hs)⟩, fun k e e2 => ?_⟩
  have := S.lt h.ld e
  have := hF k e2
  omega
end
end Go.Proofs.YtpidafpaffpnaaaGreatDoor
