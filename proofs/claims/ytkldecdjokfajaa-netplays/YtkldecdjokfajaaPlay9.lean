/- Both networks and an act beside one another, through NetPlays' calls. -/
import Derived.Test.YtkldecdjokfajaaTwo9
import Derived.Test.YtkldecdjokfajaaOpenM9
import Derived.Test.YtkldecdjokfajaaNtI9
namespace Go.Proofs.Ytkldecdjokfajaa
open Go.RowKit

theorem hid_mk {p : Prop} (h : p) : Hid p := h
structure Pc9 (LN : RepN) (W w : World) (q qr : Nat) (n nr : Nq.Nt) (F G : Nat → Prop) (v : Value) (ts : List Mt) (C : List Value) (qx : Nat) (cs : List Value) : Prop where
  two : Two9 LN W w q qr n nr F G v ts C
  act : Nk w qx cs 45
  xf : ¬ F qx
  xg : ¬ Gq qr G qx
/-- .. wherever they lie. -/
def Pl9 (LN : RepN) (W w : World) (q qr : Nat) (n nr : Nq.Nt) (qx : Nat) (cs : List Value) : Prop := ∃ F G v ts C, Pc9 LN W w q qr n nr F G v ts C qx cs

section
variable {LN : RepN} {W w w' : World} {q qr qx : Nat} {n n' nr nr' : Nq.Nt} {F F' G G' : Nat → Prop} {v v' : Value} {ts ts' : List Mt} {C C' cs : List Value}
theorem Pc9.later (S : Specs9 LN) (h : Pc9 LN W w q qr n nr F G v ts C qx cs) (hb : Below w.heap.size w w') : Pc9 LN W w' q qr n nr F G v ts C qx cs :=
  ⟨h.two.later S hb, h.act.keep (hb.block qx h.act.lt), h.xf, h.xg⟩
theorem Pc9.own (h : Pc9 LN W w q qr n nr F G v ts C qx cs) (hm : Mine9 LN W w' q n' F') (hmv : Moved w w' F F') : Pc9 LN W w' q qr n' nr F' G v ts C qx cs :=
  ⟨h.two.own hm hmv, h.act.keep (hmv.block qx h.act.lt h.xf), fun hF => by
    rcases hmv.sub qx hF with e | e
    · exact h.xf e
    · have := h.act.lt
      omega, h.xg⟩
theorem Pc9.other (S : Specs9 LN) (h : Pc9 LN W w q qr n nr F G v ts C qx cs) (hr : Rf9 w' qr nr' G' v' ts' C') (hmv : Moved w w' (Gq qr G) (Gq qr G')) : Pc9 LN W w' q qr n nr' F G' v' ts' C' qx cs :=
  ⟨h.two.other S hr hmv, h.act.keep (hmv.block qx h.act.lt h.xg), h.xf, fun hG => by
    rcases hmv.sub qx hG with e | e
    · exact h.xg e
    · have := h.act.lt
      omega⟩
theorem Pl9.later (S : Specs9 LN) (h : Pl9 LN W w q qr n nr qx cs) (hb : Below w.heap.size w w') : Pl9 LN W w' q qr n nr qx cs := by
  obtain ⟨F, G, v, ts, C, h⟩ := h
  exact ⟨F, G, v, ts, C, h.later S hb⟩
theorem Pl9.below (h : Pl9 LN W w q qr n nr qx cs) : Below W.heap.size W w := by
  obtain ⟨F, G, v, ts, C, h⟩ := h
  exact h.two.below
theorem Pl9.cell (h : Pl9 LN W w q qr n nr qx cs) (i : Nat) : w.cell? ⟨qx, i, none⟩ = cs[i]? := by
  obtain ⟨F, G, v, ts, C, h⟩ := h
  exact h.act.cell i
theorem Pl9.cut (S : Specs9 LN) (h : Pl9 LN W w q qr n nr qx cs) (a b : Int) (t : Bool) :
    Calls Try.prog 21 #[dptr q, .int .i64 a, .int .i64 b, .bool t] w fun e w' => e = .returned (.tuple #[]) ∧ Pl9 LN W w' q qr (Nq.cutW n a b t) nr qx cs := by
  obtain ⟨F, G, v, ts, C, h⟩ := h
  refine (h.two.mine.cut S a b t _ rfl).mono ?_
  rintro e w' ⟨F', rfl, hm, hv⟩
  exact ⟨rfl, F', G, v, ts, C, h.own hm hv⟩
theorem Pl9.heal (S : Specs9 LN) (h : Pl9 LN W w q qr n nr qx cs) :
    Calls Try.prog 23 #[dptr q] w fun e w' => e = .returned (.tuple #[]) ∧ Pl9 LN W w' q qr (Nq.heal n) nr qx cs := by
  obtain ⟨F, G, v, ts, C, h⟩ := h
  refine (h.two.mine.heal S _ rfl).mono ?_
  rintro e w' ⟨F', rfl, hm, hv⟩
  exact ⟨rfl, F', G, v, ts, C, h.own hm hv⟩
theorem Pl9.lose (S : Specs9 LN) (h : Pl9 LN W w q qr n nr qx cs) (k : Int) (t : Bool) (ht : Nq.has n k = t) :
    Calls Try.prog 13 #[dptr q, .int .i64 k] w fun e w' => e = .returned (.bool t) ∧ Pl9 LN W w' q qr (Nq.lose n k) nr qx cs := by
  obtain ⟨F, G, v, ts, C, h⟩ := h
  refine (h.two.mine.lose S k t _ ht rfl).mono ?_
  rintro e w' ⟨F', rfl, hm, hv⟩
  exact ⟨rfl, F', G, v, ts, C, h.own hm hv⟩
theorem Pl9.copy (S : Specs9 LN) (h : Pl9 LN W w q qr n nr qx cs) (k : Int) (t : Bool) (ht : Nq.mayCopy n k = t) :
    Calls Try.prog 11 #[dptr q, .int .i64 k] w fun e w' => e = .returned (.bool t) ∧ Pl9 LN W w' q qr (Nq.copy n k) nr qx cs := by
  obtain ⟨F, G, v, ts, C, h⟩ := h
  refine (h.two.mine.copy S k t _ ht rfl).mono ?_
  rintro e w' ⟨F', rfl, hm, hv⟩
  exact ⟨rfl, F', G, v, ts, C, h.own hm hv⟩
theorem Pl9.len (S : Specs9 LN) (h : Pl9 LN W w q qr n nr qx cs) :
    Calls Try.prog 14 #[dptr q] w fun e w' => e = .returned (.int .i64 (n.l.length : Int)) ∧ Below w.heap.size w w' := by
  obtain ⟨F, G, v, ts, C, h⟩ := h
  refine (h.two.mine.len S _ rfl).mono ?_
  rintro e w' ⟨rfl, _, hb⟩
  exact ⟨rfl, hb⟩
/-- Messages that came in, in a later world. -/
theorem Mls.ml {lv : Value} {ms : List Nq.Ms} (h : Mls W lv ms) (hb : Below W.heap.size W w) : Ml w lv ms (fun k => k < W.heap.size) := by
  obtain ⟨av, k, c, hv, hk, hz, hc⟩ := h
  refine ⟨av, k, c, hv, hk, hz, fun j m hm => ?_⟩
  obtain ⟨g, o, a, b, hav, hp, hcell⟩ := hc j m hm
  have e : ∀ (i : Nat) u, (mcells m a b)[i]? = some u → w.cell? ⟨g, o + j * 5 + i, none⟩ = some u := fun i u hu => by
    rw [Nat.add_assoc]
    exact Below.kept hb (hcell i u hu)
  exact ⟨g, o, a, b, hav, World.block_lt_of_cell? W _ (hcell 0 _ rfl), e 0 _ rfl, e 1 _ rfl, e 2 _ rfl, e 3 _ rfl, e 4 _ rfl, (hp.mp.lt9.keep (fun k hk => hb.block k hk.2)).mono (fun k hk => hk.2)⟩
theorem Pl9.send (S : Specs9 LN) (h : Pl9 LN W w q qr n nr qx cs) (lv : Value) (ms : List Nq.Ms) (hv : Mls W lv ms) (hl : ms.length ≤ 1000) (hm : ∀ m ∈ ms, Lite m) (z : Nat) (n' : Nq.Nt) (hz : Nq.sent n ms = z) (hn : Nq.puts n ms = n') :
    Calls Try.prog 10 #[dptr q, lv] w fun e w' => e = .returned (.int .i64 (z : Int)) ∧ Pl9 LN W w' q qr n' nr qx cs := by
  obtain ⟨F, G, v, ts, C, h⟩ := h
  have hs := h.two.below.size
  refine (h.two.mine.send S lv ms (hv.ml h.two.below) (fun k hk hF => ?_) (fun k hk => Nat.lt_of_lt_of_le hk hs) hl hm z n' hz hn).mono ?_
  · have := h.two.mine.hi k hF
    omega
  · rintro e w' ⟨F', rfl, h1, h2⟩
    exact ⟨rfl, F', G, v, ts, C, h.own h1 h2⟩
theorem Pl9.refCut (S : Specs9 LN) (h : Pl9 LN W w q qr n nr qx cs) (a b : Int) (t : Bool) :
    Calls Try.prog 22 #[dptr qr, .int .i64 a, .int .i64 b, .bool t] w fun e w' => e = .returned (.tuple #[]) ∧ Pl9 LN W w' q qr n (Nq.cutW nr a b t) qx cs := by
  obtain ⟨F, G, v, ts, C, h⟩ := h
  refine (refCut_any qr nr G v ts C a b t w h.two.ref).mono ?_
  rintro e w' ⟨C', rfl, h1, h2⟩
  exact ⟨rfl, F, G, v, ts, C', h.other S h1 h2⟩
theorem Pl9.refHeal (S : Specs9 LN) (h : Pl9 LN W w q qr n nr qx cs) :
    Calls Try.prog 24 #[dptr qr] w fun e w' => e = .returned (.tuple #[]) ∧ Pl9 LN W w' q qr n (Nq.heal nr) qx cs := by
  obtain ⟨F, G, v, ts, C, h⟩ := h
  refine (refHeal_any qr nr G v ts C w h.two.ref).mono ?_
  rintro e w' ⟨C', rfl, h1, h2⟩
  exact ⟨rfl, F, G, v, ts, C', h.other S h1 h2⟩
theorem Pl9.refCopy (S : Specs9 LN) (h : Pl9 LN W w q qr n nr qx cs) (k : Int) (t : Bool) (ht : Nq.mayCopy nr k = t) :
    Calls Try.prog 20 #[dptr qr, .int .i64 k] w fun e w' => e = .returned (.bool t) ∧ Pl9 LN W w' q qr n (Nq.copy nr k) qx cs := by
  obtain ⟨F, G, v, ts, C, h⟩ := h
  refine (refCopy_any qr nr G v ts C k w h.two.ref).mono ?_
  rintro e w' ⟨G', v', ts', C', rfl, h1, h2⟩
  rw [ht]
  exact ⟨rfl, F, G', v', ts', C', h.other S h1 h2⟩
theorem Pl9.refTake (S : Specs9 LN) (h : Pl9 LN W w q qr n nr qx cs) (k : Int) (m : Nq.Ms) (t : Bool) (hm : Nq.at_ nr k = m) (ht : Nq.has nr k = t) :
    Calls Try.prog 18 #[dptr qr, .int .i64 k] w fun e w' => ∃ a1 n1 c1 a2 n2 c2, e = .returned (.tuple #[mv m (.slice a1 n1 c1) (.slice a2 n2 c2), .bool t]) ∧ Pl9 LN W w' q qr n (Nq.lose nr k) qx cs := by
  obtain ⟨F, G, v, ts, C, h⟩ := h
  refine (refTake_any qr nr G v ts C k w h.two.ref).mono ?_
  rintro e w' ⟨G', v', ts', C', a, b, rfl, h0, h1, h2⟩
  rw [hm] at h0 ⊢
  rw [ht]
  obtain ⟨a1, n1, c1, rfl, _⟩ := h0.ns
  obtain ⟨a2, n2, c2, rfl, _⟩ := h0.bs
  exact ⟨_, _, _, _, _, _, rfl, F, G', v', ts', C', h.other S h1 h2⟩
theorem Pl9.refSend (S : Specs9 LN) (h : Pl9 LN W w q qr n nr qx cs) (m : Nq.Ms) (a1 a2 : Option Addr) (n1 c1 n2 c2 : Nat) (hp : Mpi W m (.slice a1 n1 c1) (.slice a2 n2 c2)) (hl : Lite m) (t : Bool) (z : Nq.Nt) (ht : Nq.may nr m = t) (hz : Nq.put nr m = z) :
    Calls Try.prog 15 #[dptr qr, .agg #[.int .i64 m.fr, .int .i64 m.to, .int .i64 m.kind, .slice a1 n1 c1, .slice a2 n2 c2]] w fun e w' => e = .returned (.bool t) ∧ Pl9 LN W w' q qr n z qx cs := by
  obtain ⟨F, G, v, ts, C, h⟩ := h
  have hp2 : Mp w m (.slice a1 n1 c1) (.slice a2 n2 c2) _ := hp.mp.lt9.keep (fun k hk => h.two.below.block k hk.2)
  refine (refSend_any qr nr G v ts C m.fr m.to m.kind a1 a2 n1 c1 n2 c2 w h.two.ref m.ns m.bs hp2.bs.bl hl.bs hl.rows hp2.ns.bi hp.a.symm hl.ns).mono ?_
  rintro e w' ⟨rfl, G', v', ts', C', h1, h2⟩
  have e1 : Nq.may nr ⟨m.fr, m.to, m.kind, m.ns, m.bs⟩ = t := ht
  have e2 : Nq.put nr ⟨m.fr, m.to, m.kind, m.ns, m.bs⟩ = z := hz
  rw [e1]
  rw [e2] at h1
  exact ⟨rfl, F, G', v', ts', C', h.other S h1 h2⟩
/-- Both take one: the two are alike, and lie apart. -/
def Both9 (w : World) (m : Nq.Ms) (a b a' b' : Value) : Prop := ∃ K K', Mp w m a b K ∧ Mp w m a' b' K'
theorem Pl9.take (S : Specs9 LN) (h : Pl9 LN W w q qr n nr qx cs) (k : Int) (m : Nq.Ms) (t : Bool) (hm : Nq.at_ n k = m) (ht : Nq.has n k = t) :
    Calls Try.prog 17 #[dptr q, .int .i64 k] w fun e w' => ∃ a1 n1 c1 a2 n2 c2, e = .returned (.tuple #[mv m (.slice a1 n1 c1) (.slice a2 n2 c2), .bool t]) ∧ ∃ F G v ts C K, Pc9 LN W w' q qr (Nq.lose n k) nr F G v ts C qx cs ∧ Mp w' m (.slice a1 n1 c1) (.slice a2 n2 c2) K ∧ ∀ j, K j → ¬ Gq qr G j := by
  obtain ⟨F, G, v, ts, C, h⟩ := h
  refine (h.two.mine.take S k m t _ hm ht rfl).mono ?_
  rintro e w' ⟨F', a, b, rfl, hp, hM, hv⟩
  obtain ⟨a1, n1, c1, rfl, _⟩ := hp.ns
  obtain ⟨a2, n2, c2, rfl, _⟩ := hp.bs
  refine ⟨_, _, _, _, _, _, rfl, F', G, v, ts, C, _, h.own hM hv, hp, fun j hj hG => ?_⟩
  rcases hj with hj | hj
  · have := h.two.ref.lt hG
    unfold newer at hj
    omega
  · exact h.two.apart j hj hG
theorem Pc9.refTake (S : Specs9 LN) (h : Pc9 LN W w q qr n nr F G v ts C qx cs) {K : Nat → Prop} {m : Nq.Ms} {a b : Value} (hp : Mp w m a b K) (hK : ∀ j, K j → ¬ Gq qr G j) (k : Int) (t : Bool) (hm : Nq.at_ nr k = m) (ht : Nq.has nr k = t) :
    Calls Try.prog 18 #[dptr qr, .int .i64 k] w fun e w' => ∃ a1 n1 c1 a2 n2 c2, e = .returned (.tuple #[mv m (.slice a1 n1 c1) (.slice a2 n2 c2), .bool t]) ∧ Both9 w' m a b (.slice a1 n1 c1) (.slice a2 n2 c2) ∧ Pl9 LN W w' q qr n (Nq.lose nr k) qx cs := by
  refine (refTake_any qr nr G v ts C k w h.two.ref).mono ?_
  rintro e w' ⟨G', v', ts', C', a', b', rfl, h0, h1, h2⟩
  rw [hm] at h0 ⊢
  rw [ht]
  obtain ⟨a1, n1, c1, rfl, _⟩ := h0.ns
  obtain ⟨a2, n2, c2, rfl, _⟩ := h0.bs
  exact ⟨_, _, _, _, _, _, rfl, ⟨_, _, hp.lt9.keep (fun j hj => h2.block j hj.2 (hK j hj.1)), h0⟩, F, G', v', ts', C', h.other S h1 h2⟩
/-- .. and a block that lies elsewhere. -/
theorem Pc9.refTakeN (S : Specs9 LN) (h : Pc9 LN W w q qr n nr F G v ts C qx cs) {K : Nat → Prop} {m : Nq.Ms} {a b : Value} {p : Nat} {ds : List Value} {ty : TypeId} (hp : Mp w m a b K) (hK : ∀ j, K j → ¬ Gq qr G j) (hk : Nk w p ds ty) (hkG : ¬ Gq qr G p) (k : Int) (t : Bool) (hm : Nq.at_ nr k = m) (ht : Nq.has nr k = t) :
    Calls Try.prog 18 #[dptr qr, .int .i64 k] w fun e w' => ∃ a1 n1 c1 a2 n2 c2, e = .returned (.tuple #[mv m (.slice a1 n1 c1) (.slice a2 n2 c2), .bool t]) ∧ Both9 w' m a b (.slice a1 n1 c1) (.slice a2 n2 c2) ∧ Nk w' p ds ty ∧ Pl9 LN W w' q qr n (Nq.lose nr k) qx cs := by
  refine (refTake_any qr nr G v ts C k w h.two.ref).mono ?_
  rintro e w' ⟨G', v', ts', C', a', b', rfl, h0, h1, h2⟩
  rw [hm] at h0 ⊢
  rw [ht]
  obtain ⟨a1, n1, c1, rfl, _⟩ := h0.ns
  obtain ⟨a2, n2, c2, rfl, _⟩ := h0.bs
  exact ⟨_, _, _, _, _, _, rfl, ⟨_, _, hp.lt9.keep (fun j hj => h2.block j hj.2 (hK j hj.1)), h0⟩, hk.keep (h2.block p hk.lt hkG), F, G', v', ts', C', h.other S h1 h2⟩
theorem Both9.later {m : Nq.Ms} {a b a' b' : Value} (h : Both9 w m a b a' b') (hb : Below w.heap.size w w') : Both9 w' m a b a' b' := by
  obtain ⟨K, K', h1, h2⟩ := h
  exact ⟨_, _, h1.lt9.keep (fun j hj => hb.block j hj.2), h2.lt9.keep (fun j hj => hb.block j hj.2)⟩
/-- Two of one message are the same. -/
theorem Both9.same {m : Nq.Ms} {a1 a2 a3 a4 : Option Addr} {n1 n2 n3 n4 c1 c2 c3 c4 : Nat} (h : Both9 w m (.slice a1 n1 c1) (.slice a2 n2 c2) (.slice a3 n3 c3) (.slice a4 n4 c4)) (hl : Lite m) :
    Calls Try.prog 19 #[.agg #[.int .i64 m.fr, .int .i64 m.to, .int .i64 m.kind, .slice a1 n1 c1, .slice a2 n2 c2], .agg #[.int .i64 m.fr, .int .i64 m.to, .int .i64 m.kind, .slice a3 n3 c3, .slice a4 n4 c4]] w fun e w' => e = .returned (.bool true) ∧ Below w.heap.size w w' := by
  obtain ⟨K, K', h1, h2⟩ := h
  obtain ⟨_, _, _, e1, l1, _⟩ := h1.ns
  obtain ⟨_, _, _, e2, l2, _⟩ := h2.ns
  obtain ⟨_, _, _, e3, l3, _⟩ := h1.bs
  obtain ⟨_, _, _, e4, l4, _⟩ := h2.bs
  simp only [Value.slice.injEq] at e1 e2 e3 e4
  have ea : n3 = n1 := by omega
  have eb : n4 = n2 := by omega
  subst ea eb
  exact refSame_yes m a1 a2 a3 a4 n3 n4 c1 c2 c3 c4 K K' w h1 h2 hl
/-- The landed one tells the k-th, and the reference's has it in its row. -/
theorem Pl9.at_ (S : Specs9 LN) (h : Pl9 LN W w q qr n n qx cs) (k : Nat) (hk : k < n.l.length) :
    ∃ m, Lite m ∧ Calls Try.prog 12 #[dptr q, .int .i64 (k : Int)] w fun e w' => ∃ a1 n1 c1 a2 n2 c2 a3 n3 c3 a4 n4 c4 g c, e = .returned (.tuple #[mv m (.slice a1 n1 c1) (.slice a2 n2 c2), .bool true]) ∧ Both9 w' m (.slice a1 n1 c1) (.slice a2 n2 c2) (.slice a3 n3 c3) (.slice a4 n4 c4) ∧ Pl9 LN W w' q qr n n qx cs ∧ Below w.heap.size w w' ∧
      ∀ wx, Below w'.heap.size w' wx → wx.cell? ⟨qr, 2, none⟩ = some (.slice (some ⟨g, 0, none⟩) n.l.length c) ∧ wx.cell? ⟨g, k * 5, none⟩ = some (.int .i64 m.fr) ∧ wx.cell? ⟨g, k * 5 + 1, none⟩ = some (.int .i64 m.to) ∧ wx.cell? ⟨g, k * 5 + 2, none⟩ = some (.int .i64 m.kind) ∧ wx.cell? ⟨g, k * 5 + 3, none⟩ = some (.slice a3 n3 c3) ∧ wx.cell? ⟨g, k * 5 + 4, none⟩ = some (.slice a4 n4 c4) := by
  obtain ⟨F, G, v, ts, C, h⟩ := h
  obtain ⟨m, hm⟩ : ∃ m, n.l[k]? = some m := ⟨_, List.getElem?_eq_getElem hk⟩
  have ht := h.two.ref.tlen
  obtain ⟨t, htk⟩ : ∃ t, ts[k]? = some t := ⟨_, List.getElem?_eq_getElem (by omega)⟩
  have hms : t.1 = m := by
    have h1 := h.two.ref.ms
    rw [← h1, List.getElem?_map, htk] at hm
    exact Option.some.inj hm
  have ha := Nq.at_has hm
  refine ⟨m, h.two.mine.fine.lite m (List.mem_of_getElem? hm), ?_⟩
  refine (h.two.mine.at_ S (k : Int) m true ha.2 ha.1).mono ?_
  rintro e w' ⟨a, b, rfl, hp, hM, hb⟩
  obtain ⟨a1, n1, c1, rfl, _⟩ := hp.ns
  obtain ⟨a2, n2, c2, rfl, _⟩ := hp.bs
  have hp3 := h.two.ref.parts t (List.mem_of_getElem? htk)
  rw [hms] at hp3
  obtain ⟨a3, n3, c3, e3, _⟩ := hp3.ns
  obtain ⟨a4, n4, c4, e4, _⟩ := hp3.bs
  rw [e3, e4] at hp3
  rcases h.two.ref.row with ⟨_, e5⟩ | ⟨g, c, e5, hg, _, hc⟩
  · rw [e5] at htk
    cases htk
  refine ⟨a1, n1, c1, a2, n2, c2, a3, n3, c3, a4, n4, c4, g, c, rfl, ⟨_, _, hp, hp3.keep (fun j hj => hb.block j (h.two.ref.glt j hj))⟩, ⟨F, G, v, ts, C, h.later S hb⟩, hb, fun wx hx => ?_⟩
  have hbx : Below w.heap.size w wx := hb.trans (hx.mono hb.size)
  have hR := h.two.ref.below hbx
  have hcell : ∀ (i : Nat) u, (c5 t)[i]? = some u → wx.cell? ⟨g, k * 5 + i, none⟩ = some u := fun i u hu => Below.kept hbx (hc _ _ (cs5_at ts k t i u htk hu))
  rw [← ht, ← e5, ← hms]
  exact ⟨(hR.cell 2).trans hR.c2, hcell 0 _ rfl, hcell 1 _ rfl, hcell 2 _ rfl, by rw [← e3]; exact hcell 3 _ rfl, by rw [← e4]; exact hcell 4 _ rfl⟩
theorem Pl9.row (h : Pl9 LN W w q qr n nr qx cs) : ∃ a c, w.cell? ⟨qr, 2, none⟩ = some (.slice a nr.l.length c) := by
  obtain ⟨F, G, v, ts, C, h⟩ := h
  obtain ⟨a, c, e, _⟩ := h.two.ref.slice
  rw [h.two.ref.tlen] at e
  exact ⟨a, c, (h.two.ref.cell 2).trans (by rw [h.two.ref.c2, e])⟩
end
end Go.Proofs.Ytkldecdjokfajaa
