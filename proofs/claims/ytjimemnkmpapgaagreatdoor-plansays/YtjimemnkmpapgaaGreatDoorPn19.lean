/- Rows of whatever kind, wherever they lie; append onto a row that the call owns. Who has to say what: plain reckoning, no program. A Plan, votes, results as they lie in memory. -/
import Derived.Test.YtjimemnkmpapgaaGreatDoorBs19
import Derived.Lib.OwnBridge
import Derived.Deep.AppendSrc
import Derived.Test.YtjimemnkmpapgaaGreatDoorBii16
import Derived.Test.YtjimemnkmpapgaaGreatDoorPlainO
import Derived.Test.YtjimemnkmpapgaaGreatDoorPl19
import Derived.Test.YtjimemnkmpapgaaGreatDoorSp16
import Derived.Test.YtjimemnkmpapgaaGreatDoorXs
import Derived.Test.YtjimemnkmpapgaaGreatDoorPlainT
namespace Go.Proofs.YtjimemnkmpapgaaGreatDoor
open Go.RowKit

/-- A kind of thing that a row holds: its cells, its type, the row's type. -/
structure Kd (α : Type) where
  cf : α → List Value
  T : TypeId
  LT : TypeId
  sz : Nat
  by_ : Nat
  z : Value
structure Kd.Good {α : Type} (K : Kd α) : Prop where
  inf : (Tryz.prog.info? K.T).map (fun i => (i.zero, i.size, i.bytes)) = some (some K.z, K.sz, K.by_)
  und : Tryz.prog.underlying K.LT = some (.slice K.T)
  zs : K.z.cells.size = K.sz
  pos : 0 < K.sz
  few : K.by_ ≤ 1000
  len : ∀ x, (K.cf x).length = K.sz
section
variable {α : Type} (K : Kd α)
def Kd.cs (l : List α) : List Value := l.flatMap K.cf
/-- A value is a slice of these. -/
def Kd.At (w : World) (v : Value) (xs : List α) : Prop := ∃ av k c, v = .slice av k c ∧ k = xs.length ∧ (av = none → c = 0) ∧ ∀ (j : Nat) x, xs[j]? = some x → ∃ g b, av = some ⟨g, b, none⟩ ∧ ∀ (i : Nat) u, (K.cf x)[i]? = some u → w.cell? ⟨g, b + (j * K.sz + i), none⟩ = some u
variable {K}
theorem Kd.At.below {w w' : World} {v : Value} {xs : List α} (h : K.At w v xs) (hb : Below w.heap.size w w') : K.At w' v xs := by
  obtain ⟨av, k, c, hv, hk, hn, hs⟩ := h
  refine ⟨av, k, c, hv, hk, hn, fun j o ho => ?_⟩
  obtain ⟨g, b, ha, hcell⟩ := hs j o ho
  exact ⟨g, b, ha, fun i u hu => Below.kept hb (hcell i u hu)⟩
/-- While a block changes that none of its cells lies in. -/
theorem Kd.At.grown {w w' : World} {v : Value} {xs : List α} {r : Nat} (h : K.At w v xs) (hg : w.grownBy w' (some r)) (hr : v.ownBlock ≠ some r) : K.At w' v xs := by
  obtain ⟨av, k, c, rfl, hk, hn, hs⟩ := h
  refine ⟨av, k, c, rfl, hk, hn, fun j o ho => ?_⟩
  obtain ⟨g, b, rfl, hcell⟩ := hs j o ho
  have hne : g ≠ r := fun e => hr (by rw [e]; rfl)
  refine ⟨g, b, rfl, fun i u hu => ?_⟩
  have hc := hcell i u hu
  have hlt := World.block_lt_of_cell? w _ hc
  rw [← hc]
  exact World.cell?_of_block (hg.block g hlt (by simpa using fun e => hne e))
/-- Its block is there; if it has one. -/
theorem Kd.At.low {w : World} {v : Value} {xs : List α} {g : Nat} (hK : K.Good) (h0 : xs ≠ []) (h : K.At w v xs) (hv : v.ownBlock = some g) : g < w.heap.size := by
  obtain ⟨av, k, c, rfl, hk, hn, hs⟩ := h
  obtain ⟨g', b, rfl, hc⟩ := hs 0 (xs[0]'(List.length_pos_iff.2 h0)) (List.getElem?_eq_getElem _)
  obtain rfl : g' = g := Option.some.inj hv
  have hp := hK.pos
  have hl := hK.len (xs[0]'(List.length_pos_iff.2 h0))
  have := hc 0 ((K.cf (xs[0]'(List.length_pos_iff.2 h0)))[0]'(by omega)) (List.getElem?_eq_getElem _)
  exact World.block_lt_of_cell? w _ this
theorem Kd.At.nil (w : World) : K.At w (.slice none 0 0) [] := ⟨_, _, _, rfl, rfl, fun _ => rfl, fun j s hs => by simp at hs⟩
/-- Its form, and its cells. -/
theorem Kd.At.at {w : World} {a : Option Addr} {n c : Nat} {xs : List α} (h : K.At w (.slice a n c) xs) {j : Nat} {x : α} (hx : xs[j]? = some x) : ∃ g b, a = some ⟨g, b, none⟩ ∧ ∀ (i : Nat) u, (K.cf x)[i]? = some u → w.cell? ⟨g, b + j * K.sz + i, none⟩ = some u := by
  obtain ⟨av, k, c', hv, hk, _, hs⟩ := h
  simp only [Value.slice.injEq] at hv
  obtain ⟨rfl, rfl, rfl⟩ := hv
  obtain ⟨g, b, ha, hcell⟩ := hs j x hx
  exact ⟨g, b, ha, fun i u hu => by rw [Nat.add_assoc]; exact hcell i u hu⟩
theorem Kd.At.on {w : World} {g b n c : Nat} {xs : List α} (h : K.At w (.slice (some ⟨g, b, none⟩) n c) xs) {j : Nat} {x : α} (hx : xs[j]? = some x) : ∀ (i : Nat) u, (K.cf x)[i]? = some u → w.cell? ⟨g, b + j * K.sz + i, none⟩ = some u := by
  obtain ⟨g', b', e, hc⟩ := h.at hx
  simp only [Option.some.injEq, Addr.mk.injEq, and_true] at e
  obtain ⟨rfl, rfl⟩ := e
  exact hc
theorem Kd.At.form {w : World} {v : Value} {xs : List α} (h : K.At w v xs) : ∃ a c, v = .slice a xs.length c ∧ (a = none → c = 0) ∧ (0 < xs.length → ∃ g b, a = some ⟨g, b, none⟩) := by
  obtain ⟨av, k, c, rfl, hk, hn, hs⟩ := h
  refine ⟨av, c, by rw [hk], hn, fun h0 => ?_⟩
  obtain ⟨g, b, ha, _⟩ := hs 0 _ (List.getElem?_eq_getElem h0)
  exact ⟨g, b, ha⟩
theorem Kd.Good.cs_len (hK : K.Good) (l : List α) : (K.cs l).length = l.length * K.sz := by
  unfold Kd.cs
  induction l with
  | nil => simp
  | cons x l ih => rw [List.flatMap_cons, List.length_append, ih, hK.len, List.length_cons, Nat.add_mul, Nat.one_mul, Nat.add_comm]
theorem Kd.cs_app (a b : List α) : K.cs (a ++ b) = K.cs a ++ K.cs b := by unfold Kd.cs; rw [List.flatMap_append]
theorem Kd.cs_one_ {x : α} : K.cs [x] = K.cf x := by unfold Kd.cs; simp
theorem Kd.Good.cs_cell (hK : K.Good) : ∀ (l : List α) (j : Nat) (x : α) (i : Nat) (u : Value), l[j]? = some x → (K.cf x)[i]? = some u → (K.cs l)[j * K.sz + i]? = some u
  | [], j, x, i, u, h, _ => by simp at h
  | y :: l, 0, x, i, u, h, hu => by
    simp at h
    subst h
    have hi := (List.getElem?_eq_some_iff.1 hu).1
    show (K.cf y ++ K.cs l)[0 * K.sz + i]? = some u
    rw [List.getElem?_append_left (by rw [Nat.zero_mul, Nat.zero_add]; exact hi), Nat.zero_mul, Nat.zero_add]
    exact hu
  | y :: l, j + 1, x, i, u, h, hu => by
    have h3 := hK.len y
    have e : (j + 1) * K.sz + i = K.sz + (j * K.sz + i) := by rw [Nat.add_mul, Nat.one_mul]; omega
    show (K.cf y ++ K.cs l)[(j + 1) * K.sz + i]? = some u
    rw [e, List.getElem?_append_right (by rw [h3]; omega), h3, Nat.add_sub_cancel_left]
    exact Kd.Good.cs_cell hK l j x i u (by simpa using h) hu
/-- What lies where in a row. -/
theorem Kd.Good.cs_at (hK : K.Good) {l : List α} {m : Nat} {u : Value} (h : (K.cs l)[m]? = some u) : ∃ x, l[m / K.sz]? = some x ∧ (K.cf x)[m % K.sz]? = some u := by
  have hm := (List.getElem?_eq_some_iff.1 h).1
  rw [hK.cs_len] at hm
  have hp := hK.pos
  have h1 : m / K.sz < l.length := Nat.div_lt_of_lt_mul (by rw [Nat.mul_comm]; exact hm)
  have h2 : m % K.sz < (K.cf l[m / K.sz]).length := by rw [hK.len]; exact Nat.mod_lt _ hp
  have h3 := hK.cs_cell l (m / K.sz) l[m / K.sz] (m % K.sz) _ (List.getElem?_eq_getElem h1) (List.getElem?_eq_getElem h2)
  have e : m / K.sz * K.sz + m % K.sz = m := by rw [Nat.mul_comm]; exact Nat.div_add_mod m K.sz
  rw [e, h] at h3
  refine ⟨l[m / K.sz], List.getElem?_eq_getElem h1, ?_⟩
  rw [List.getElem?_eq_getElem h2, ← Option.some.inj h3]
/-- One of a row is another. -/
theorem Kd.Good.cs_set (hK : K.Good) {l : List α} {n : Nat} {x : α} (hn : n < l.length) : (K.cs l).take (n * K.sz) ++ K.cf x ++ (K.cs l).drop (n * K.sz + K.sz) = K.cs (l.set n x) := by
  induction l generalizing n with
  | nil => simp at hn
  | cons y l ih =>
    have h3 := hK.len y
    have hy : K.cs (y :: l) = K.cf y ++ K.cs l := by unfold Kd.cs; rw [List.flatMap_cons]
    cases n with
    | zero =>
      rw [List.set_cons_zero, Nat.zero_mul, List.take_zero, List.nil_append, Nat.zero_add, hy, List.drop_append_of_le_length (by omega), List.drop_of_length_le (by omega), List.nil_append]
      unfold Kd.cs
      rw [List.flatMap_cons]
    | succ n =>
      have e : (n + 1) * K.sz = K.sz + n * K.sz := by rw [Nat.add_mul, Nat.one_mul, Nat.add_comm]
      have e2 : K.sz + n * K.sz + K.sz = K.sz + (n * K.sz + K.sz) := by omega
      have hs : K.cs ((y :: l).set (n + 1) x) = K.cf y ++ K.cs (l.set n x) := by unfold Kd.cs; rw [List.set_cons_succ, List.flatMap_cons]
      rw [hs, ← ih (by simpa using hn), hy, e, e2]
      have h4 : (K.cf y ++ K.cs l).take (K.sz + n * K.sz) = K.cf y ++ (K.cs l).take (n * K.sz) := by rw [← h3, List.take_length_add_append]
      have h5 : (K.cf y ++ K.cs l).drop (K.sz + (n * K.sz + K.sz)) = (K.cs l).drop (n * K.sz + K.sz) := by rw [← h3, List.drop_length_add_append]
      rw [h4, h5]
      simp
theorem Kd.Good.row (hK : K.Good) {w : World} {B : Nat} {v : Value} {l : List α} (h : w.ownsRow B K.T K.sz v l.length (K.cs l)) : K.At w v l := by
  obtain ⟨a, c, rfl, _, ha⟩ := row_form h
  refine ⟨a, l.length, c, rfl, rfl, fun e => ?_, fun j z hz => ?_⟩
  · subst e
    rcases h.2 with ⟨e1, _⟩ | ⟨g, cap, cur, e1, _⟩
    · simp only [Value.slice.injEq] at e1
      exact e1.2.2
    · simp at e1
  · have hj := (List.getElem?_eq_some_iff.1 hz).1
    obtain ⟨g, rfl⟩ := ha (by omega)
    refine ⟨g, 0, rfl, fun i u hu => ?_⟩
    have hi := (List.getElem?_eq_some_iff.1 hu).1
    rw [hK.len] at hi
    have hb : j * K.sz + i < l.length * K.sz := by
      have : j * K.sz + K.sz ≤ l.length * K.sz := by rw [← Nat.succ_mul]; exact Nat.mul_le_mul_right _ hj
      omega
    rw [Nat.zero_add, h.cellAt _ hb]
    exact hK.cs_cell l j z i u hz hu
/-- One alone, in a block of its own. -/
theorem Kd.one_at {w : World} {sb : Nat} {x : α} {t : TypeId} (h : Cb w sb (K.cf x) t) : K.At w (.slice (some ⟨sb, 0, none⟩) 1 1) [x] := by
  refine ⟨_, 1, 1, rfl, rfl, fun e => (by cases e), fun j z hz => ?_⟩
  match j, hz with
  | 0, hz =>
    simp at hz
    subst hz
    refine ⟨sb, 0, rfl, fun i u hu => ?_⟩
    rw [Nat.zero_mul, Nat.zero_add, Nat.zero_add, h.cell i]
    exact hu
  | (j + 1), hz => simp at hz
/-- 'append(l, ms...)', l being the call's own. -/
theorem Kd.Good.app (hK : K.Good) {o : Oper} {a : Act} {KK : Act → World → Prop} {Q : Exit → Act → World → Prop} (s x : Operand)
    (ho : o.op = .call { callee := .builtin .append, args := #[s, x], argTypes := #[K.LT, K.LT] })
    (B : Nat) (v u : Value) (es ms : List α) (w : World) (hs : a.eval s = v) (hx : a.eval x = u) (hown : w.ownsRow B K.T K.sz v es.length (K.cs es)) (hB : B ≤ w.heap.size) (hb : K.At w u ms) (h1 : ∀ y ∈ K.cs ms, y.oneCell' = true) (hN : es.length + ms.length ≤ 3000)
    (h : ∀ v' w', w'.ownsRow B K.T K.sz v' (es ++ ms).length (K.cs (es ++ ms)) → Below B w w' → w.grownBy w' v.ownBlock → (v'.ownBlock = v.ownBlock ∨ v'.ownBlock = some w.heap.size) → KK (a.put o.dst v') w') : o.wp Tryz.prog a w KK Q := by
  obtain ⟨i0, hi, hz0, hz1, hz2⟩ := info_parts hK.inf
  obtain ⟨av, m, c, rfl, hm, hnil, hcs⟩ := hb
  cases av with
  | none =>
    have hc0 := hnil rfl
    subst hc0
    have hm0 : m = 0 := by
      cases ms with
      | nil => exact hm
      | cons y l =>
        obtain ⟨g, b, e, _⟩ := hcs 0 y rfl
        cases e
    subst hm0
    obtain rfl : ms = [] := List.length_eq_zero_iff.1 hm.symm
    have hrun := run_append_owned_none (P := Tryz.prog) (w := w) B K.LT o.type K.T i0 K.sz hK.und hi v es.length (K.cs es) hown
    have hx2 : a.eval x = .slice none 0 0 := hx
    unfold Oper.wp
    simp [execOp, ho, resolve, invoke, builtin, hs, hx2, hrun, Result.andThen]
    exact h v w (by simpa using hown) (Below.refl _ _) ⟨rfl, rfl, rfl, Nat.le_refl _, fun _ _ _ => rfl⟩ (Or.inl rfl)
  | some ad =>
    have hcell : ∀ j y, (K.cs ms)[j]? = some y → w.cell? (ad.add j) = some y := fun j y hy => by
      obtain ⟨z, hz, hzu⟩ := hK.cs_at hy
      obtain ⟨g, b, e, hc⟩ := hcs _ z hz
      simp only [Option.some.injEq] at e
      rw [e, Addr.add_lit]
      have hq := hc _ y hzu
      rw [Nat.mul_comm, Nat.div_add_mod] at hq
      exact hq
    have hby : (es.length + m) * K.by_ ≤ 3000 * 1000 := Nat.mul_le_mul (by rw [hm]; exact hN) hK.few
    obtain ⟨v', w', hr, h2, h3, h4, h5⟩ := run_append_own_at (P := Tryz.prog) w B K.LT o.type K.T i0 _ K.sz K.by_ hK.und hi hz0 hz1 hz2 hK.zs hK.pos v es.length (K.cs es) hown ad m c (K.cs ms) (by rw [hK.cs_len, hm]) hcell h1 (by unfold maxLen; omega) (by omega) hB
    unfold Oper.wp execOp
    simp only [ho, resolve, invoke, builtin, Sem.run_bind, Sem.run_pure, Result.andThen_ok, List.map_toArray, List.map_cons, List.map_nil, hs, hx, hr]
    exact h v' w' (by rw [Kd.cs_app, List.length_append, ← hm]; exact h2) ((Below.refl _ w).grown h3 hB (fun k hk => (hown.lt k hk).1)) h3 h5
theorem Kd.Good.appL (hK : K.Good) {ops : Array Oper} {rest : List Oper} {o : Oper} {a : Act} {Q : Exit → Act → World → Prop} (hgd : o.guard = none) (s x : Operand)
    (ho : o.op = .call { callee := .builtin .append, args := #[s, x], argTypes := #[K.LT, K.LT] })
    (B : Nat) (v u : Value) (es ms : List α) (w : World) (hs : a.eval s = v) (hx : a.eval x = u) (hown : w.ownsRow B K.T K.sz v es.length (K.cs es)) (hB : B ≤ w.heap.size) (hb : K.At w u ms) (h1 : ∀ y ∈ K.cs ms, y.oneCell' = true) (hN : es.length + ms.length ≤ 3000)
    (h : ∀ v' w', w'.ownsRow B K.T K.sz v' (es ++ ms).length (K.cs (es ++ ms)) → Below B w w' → w.grownBy w' v.ownBlock → (v'.ownBlock = v.ownBlock ∨ v'.ownBlock = some w.heap.size) → wpList Tryz.prog ops Q rest (a.put o.dst v') w') : wpList Tryz.prog ops Q (o :: rest) a w :=
  wpList_plain hgd fun _ hKK => hK.app s x ho B v u es ms w hs hx hown hB hb h1 hN (fun v' w' h1 h2 h3 h4 => hKK _ _ (h v' w' h1 h2 h3 h4))
/-- The same, the slot's number being named. -/
theorem Kd.Good.appD (hK : K.Good) {o : Oper} {a : Act} {KK : Act → World → Prop} {Q : Exit → Act → World → Prop} (s x : Operand)
    (ho : o.op = .call { callee := .builtin .append, args := #[s, x], argTypes := #[K.LT, K.LT] }) (d : Nat) (hd : o.dst = some d)
    (B : Nat) (v u : Value) (es ms : List α) (w : World) (hs : a.eval s = v) (hx : a.eval x = u) (hown : w.ownsRow B K.T K.sz v es.length (K.cs es)) (hB : B ≤ w.heap.size) (hb : K.At w u ms) (h1 : ∀ y ∈ K.cs ms, y.oneCell' = true) (hN : es.length + ms.length ≤ 3000)
    (h : ∀ v' w', w'.ownsRow B K.T K.sz v' (es ++ ms).length (K.cs (es ++ ms)) → Below B w w' → w.grownBy w' v.ownBlock → (v'.ownBlock = v.ownBlock ∨ v'.ownBlock = some w.heap.size) → KK { a with tmps := a.tmps.setIfInBounds d v' } w') : o.wp Tryz.prog a w KK Q :=
  hK.app s x ho B v u es ms w hs hx hown hB hb h1 hN (fun v' w' h1 h2 h3 h4 => by
    have k := h v' w' h1 h2 h3 h4
    unfold Act.put
    rw [hd]
    exact k)
end
end Go.Proofs.YtjimemnkmpapgaaGreatDoor
namespace Go.Proofs.YtjimemnkmpapgaaGreatDoor.Pn

/-- What a shard says. -/
structure V where
  err : Int
  at_ : Int
/-- Which shard has which Ops. -/
structure St where
  s : Int
  n : Int
  os : List O
  sh : List Int
  pl : List (List Int)
def zero : St := ⟨0, 0, [], [], []⟩
def shA : Nat → List (List Int) → List Int
  | _, [] => []
  | i, l :: ls => if l = [] then shA (i + 1) ls else (i : Int) :: shA (i + 1) ls
def plA : List (List Int) → List (List Int)
  | [] => []
  | l :: ls => if l = [] then plA ls else l :: plA ls
def of (t : Tb.St) (s n : Int) (os : List O) : St := ⟨s, n, os, shA 0 (Tb.split t (os.map O.path)), plA (Tb.split t (os.map O.path))⟩
def make (t : Tb.St) (s n : Int) (os : List O) : Int × St := if Oq.may s n os = 0 then (0, of t s n os) else (Oq.may s n os, zero)
/-- The place of a shard among them; -1: none. -/
def posA : Nat → List Int → Int → Int
  | _, [], _ => -1
  | i, x :: l, z => if x = z then (i : Int) else posA (i + 1) l z
def pos (l : List Int) (z : Int) : Int := posA 0 l z
/-- The places of the i-th shard. -/
def plAt (p : St) (i : Int) : List Int := if 0 ≤ i then (p.pl[i.toNat]?).getD [] else []
/-- The Ops at places. -/
def opsAt (os : List O) (l : List Int) : List O := l.filterMap fun z => os[z.toNat]?
def opsOf (p : St) (z : Int) : List O := if pos p.sh z = -1 then [] else opsAt p.os ((p.pl[(pos p.sh z).toNat]?).getD [])
def first (p : St) : Int := p.sh.headD (-1)
/-- A place among a shard's Ops is the request's. -/
def place (pl : List (List Int)) (i : Nat) (a : Int) : Int := if 0 ≤ a then (((pl[i]?).getD [])[a.toNat]?).getD (-1) else -1
/-- Those that are against it, with places of the request. -/
def against (pl : List (List Int)) : Nat → List V → List V
  | _, [] => []
  | i, v :: vs => if v.err = 0 then against pl (i + 1) vs else ⟨v.err, place pl i v.at_⟩ :: against pl (i + 1) vs
/-- Is one told rather than another? -/
def less (a b : V) : Bool := if decide (a.err = 12) != decide (b.err = 12) then decide (a.err = 12) else decide (a.at_ < b.at_)
def least : V → List V → V
  | m, [] => m
  | m, x :: l => least (if less x m then x else m) l
def told : List V → Int × Int
  | [] => (0, -1)
  | a :: l => ((least a l).err, (least a l).at_)
def verdict (p : St) (vs : List V) : Int × Int := if vs.length = p.sh.length then told (against p.pl 0 vs) else (1, -1)

/-- Results laid at places. -/
def putL : List X → List Int → List X → List X
  | acc, z :: l, x :: xs => putL (acc.set z.toNat x) l xs
  | acc, _, _ => acc
def resA : List (List Int) → List (List X) → List X → Option (List X)
  | l :: pl, xs :: ls, acc => if xs.length = l.length then resA pl ls (putL acc l xs) else none
  | _, _, acc => some acc
def x0 : X := ⟨0, ⟨#[]⟩, ⟨#[]⟩, [], 0, 0, 0, 0, 0, 0, 0⟩
def results (p : St) (ls : List (List X)) : Option (List X) := if ls.length = p.sh.length then resA p.pl ls (List.replicate p.os.length x0) else none

/-- A Plan that Make can have made. -/
structure Ok (p : St) : Prop where
  len : p.sh.length = p.pl.length
  few : p.sh.length ≤ 4
  some_ : p.os.length ≤ 16
  rise : p.sh.Pairwise fun a b => a < b
  pr : ∀ l ∈ p.pl, l.Pairwise fun a b => a < b
  ne : ∀ l ∈ p.pl, l ≠ []
  rng : ∀ l ∈ p.pl, ∀ z ∈ l, 0 ≤ z ∧ z < (p.os.length : Int)

/-- The k-th first name. -/
def nm (k : Nat) : ByteArray := ⟨#[UInt8.ofNat (97 + k)]⟩
/-- A table with some names moved. -/
def tabK (n : Int) (zs : List Int) : Nat → Tb.St
  | 0 => Tb.new n
  | k + 1 => (Tb.move (tabK n zs k) (nm k) (zs.getD k 0)).2
def tab (n : Int) (zs : List Int) : Tb.St := tabK n zs (min zs.length 5)
theorem tabK_shards (n : Int) (zs : List Int) : ∀ k, (tabK n zs k).shards = n
  | 0 => rfl
  | k + 1 => by unfold tabK; rw [Tb.move_shards]; exact tabK_shards n zs k
theorem tabK_fine {n : Int} (h1 : 1 ≤ n) (h2 : n ≤ 4) (zs : List Int) : ∀ k : Nat, Tb.Fine ((k : Int) + 1) (tabK n zs k)
  | 0 => Tb.Fine.new h1 h2
  | k + 1 => (tabK_fine h1 h2 zs k).move _ _
theorem putL_nil (acc : List X) (xs : List X) : putL acc [] xs = acc := by cases xs <;> rfl
theorem shA_snoc : ∀ (i : Nat) (ls : List (List Int)) (l : List Int), shA i (ls ++ [l]) = shA i ls ++ if l = [] then [] else [((i + ls.length : Nat) : Int)]
  | i, [], l => by
    simp only [List.nil_append, List.length_nil, Nat.add_zero]
    unfold shA
    by_cases h : l = []
    · rw [if_pos h, if_pos h]; rfl
    · rw [if_neg h, if_neg h]; rfl
  | i, a :: ls, l => by
    simp only [List.cons_append, List.length_cons]
    unfold shA
    have e : i + (ls.length + 1) = i + 1 + ls.length := by omega
    by_cases h : a = []
    · rw [if_pos h, if_pos h, shA_snoc (i + 1) ls l, e]
    · rw [if_neg h, if_neg h, shA_snoc (i + 1) ls l, e]; rfl
theorem plA_snoc : ∀ (ls : List (List Int)) (l : List Int), plA (ls ++ [l]) = plA ls ++ if l = [] then [] else [l]
  | [], l => by
    simp only [List.nil_append]
    unfold plA
    by_cases h : l = []
    · rw [if_pos h, if_pos h]; rfl
    · rw [if_neg h, if_neg h]; rfl
  | a :: ls, l => by
    simp only [List.cons_append]
    unfold plA
    by_cases h : a = []
    · rw [if_pos h, if_pos h, plA_snoc ls l]
    · rw [if_neg h, if_neg h, plA_snoc ls l]; rfl
theorem shA_len : ∀ (i : Nat) (ls : List (List Int)), (shA i ls).length = (plA ls).length
  | _, [] => rfl
  | i, a :: ls => by
    unfold shA plA
    by_cases h : a = []
    · rw [if_pos h, if_pos h]; exact shA_len (i + 1) ls
    · rw [if_neg h, if_neg h, List.length_cons, List.length_cons, shA_len (i + 1) ls]
theorem plA_len (ls : List (List Int)) : (plA ls).length ≤ ls.length := by
  induction ls with
  | nil => exact Nat.le_refl _
  | cons a ls ih =>
    unfold plA
    split
    · rw [List.length_cons]; omega
    · rw [List.length_cons, List.length_cons]; omega
theorem plA_mem {ls : List (List Int)} {l : List Int} (h : l ∈ plA ls) : l ∈ ls ∧ l ≠ [] := by
  induction ls with
  | nil => cases h
  | cons a ls ih =>
    unfold plA at h
    split at h
    · exact ⟨List.mem_cons_of_mem _ (ih h).1, (ih h).2⟩
    · rename_i ha
      rcases List.mem_cons.1 h with rfl | h
      · exact ⟨List.mem_cons_self, ha⟩
      · exact ⟨List.mem_cons_of_mem _ (ih h).1, (ih h).2⟩
theorem shA_low : ∀ (i : Nat) (ls : List (List Int)), ∀ z ∈ shA i ls, (i : Int) ≤ z ∧ z < ((i + ls.length : Nat) : Int)
  | _, [], _, h => by cases h
  | i, a :: ls, z, h => by
    unfold shA at h
    rw [List.length_cons]
    split at h
    · have := shA_low (i + 1) ls z h
      omega
    · rcases List.mem_cons.1 h with rfl | h
      · omega
      · have := shA_low (i + 1) ls z h
        omega
theorem shA_rise : ∀ (i : Nat) (ls : List (List Int)), (shA i ls).Pairwise fun a b => a < b
  | _, [] => List.Pairwise.nil
  | i, a :: ls => by
    unfold shA
    split
    · exact shA_rise (i + 1) ls
    · refine List.pairwise_cons.2 ⟨fun z hz => ?_, shA_rise (i + 1) ls⟩
      have := (shA_low (i + 1) ls z hz).1
      omega
/-- Which shard's the places are. -/
theorem shA_at : ∀ (i : Nat) (ls : List (List Int)) (j : Nat) (z : Int) (l : List Int), (shA i ls)[j]? = some z → (plA ls)[j]? = some l → ∃ k : Nat, z = ((i + k : Nat) : Int) ∧ ls[k]? = some l
  | _, [], _, _, _, h, _ => by simp [shA] at h
  | i, a :: ls, j, z, l, h, k => by
    unfold shA at h
    unfold plA at k
    by_cases ha : a = []
    · rw [if_pos ha] at h k
      obtain ⟨q, h1, h2⟩ := shA_at (i + 1) ls j z l h k
      exact ⟨q + 1, by omega, by simpa using h2⟩
    · rw [if_neg ha] at h k
      cases j with
      | zero =>
        simp at h k
        exact ⟨0, by omega, by simpa using k⟩
      | succ j =>
        obtain ⟨q, h1, h2⟩ := shA_at (i + 1) ls j z l (by simpa using h) (by simpa using k)
        exact ⟨q + 1, by omega, by simpa using h2⟩
theorem shA_has : ∀ (i : Nat) (ls : List (List Int)) (k : Nat) (l : List Int), ls[k]? = some l → l ≠ [] → ∃ j : Nat, (shA i ls)[j]? = some ((i + k : Nat) : Int) ∧ (plA ls)[j]? = some l
  | _, [], _, _, h, _ => by simp at h
  | i, a :: ls, 0, l, h, hl => by
    simp at h
    subst h
    refine ⟨0, ?_, ?_⟩
    · unfold shA; rw [if_neg hl]; rfl
    · unfold plA; rw [if_neg hl]; rfl
  | i, a :: ls, k + 1, l, h, hl => by
    obtain ⟨j, h1, h2⟩ := shA_has (i + 1) ls k l (by simpa using h) hl
    have e : i + (k + 1) = i + 1 + k := by omega
    unfold shA plA
    by_cases ha : a = []
    · rw [if_pos ha, if_pos ha, e]
      exact ⟨j, h1, h2⟩
    · rw [if_neg ha, if_neg ha, e]
      exact ⟨j + 1, by simpa using h1, by simpa using h2⟩
theorem posA_low : ∀ (i : Nat) (l : List Int) (z : Int), posA i l z = -1 ∨ ∃ j : Nat, posA i l z = ((i + j : Nat) : Int) ∧ l[j]? = some z
  | _, [], _ => Or.inl rfl
  | i, x :: l, z => by
    unfold posA
    by_cases h : x = z
    · rw [if_pos h]
      exact Or.inr ⟨0, by omega, by simp [h]⟩
    · rw [if_neg h]
      rcases posA_low (i + 1) l z with h1 | ⟨j, h1, h2⟩
      · exact Or.inl h1
      · exact Or.inr ⟨j + 1, by omega, by simpa using h2⟩
theorem posA_no : ∀ (i : Nat) (l : List Int) (z : Int), (∀ x ∈ l, x ≠ z) → posA i l z = -1
  | _, [], _, _ => rfl
  | i, x :: l, z, h => by
    unfold posA
    rw [if_neg (h x List.mem_cons_self)]
    exact posA_no (i + 1) l z fun y hy => h y (List.mem_cons_of_mem _ hy)
theorem posA_yes : ∀ (i : Nat) (l : List Int) (z : Int) (j : Nat), l[j]? = some z → (∀ x ∈ l.take j, x ≠ z) → posA i l z = ((i + j : Nat) : Int)
  | _, [], _, _, h, _ => by simp at h
  | i, x :: l, z, 0, h, _ => by
    simp at h
    unfold posA
    rw [if_pos h]
    rfl
  | i, x :: l, z, j + 1, h, hn => by
    unfold posA
    rw [if_neg (hn x (by simp))]
    have := posA_yes (i + 1) l z j (by simpa using h) (fun y hy => hn y (by simp [hy]))
    rw [this]
    omega
theorem pos_at {l : List Int} {j : Nat} {z : Int} (hr : l.Pairwise fun a b => a < b) (h : l[j]? = some z) : pos l z = (j : Int) := by
  have := posA_yes 0 l z j h (fun x hx e => by
    obtain ⟨k, hk⟩ := List.mem_iff_getElem?.1 hx
    rw [List.getElem?_take] at hk
    split at hk
    · rename_i hkj
      obtain ⟨h1, e1⟩ := List.getElem?_eq_some_iff.1 hk
      obtain ⟨h2, e2⟩ := List.getElem?_eq_some_iff.1 h
      have := List.pairwise_iff_getElem.1 hr k j h1 h2 hkj
      omega
    · cases hk)
  unfold pos
  rw [this]
  omega
theorem opsOf_at {p : St} (h : Ok p) {j : Nat} {z : Int} {l : List Int} (hz : p.sh[j]? = some z) (hl : p.pl[j]? = some l) : opsOf p z = opsAt p.os l := by
  unfold opsOf
  rw [pos_at h.rise hz, if_neg (by omega)]
  have e : ((j : Int)).toNat = j := by omega
  rw [e, hl]
  rfl
theorem opsAt_len {os : List O} {l : List Int} (h : ∀ z ∈ l, 0 ≤ z ∧ z < (os.length : Int)) : (opsAt os l).length = l.length := by
  unfold opsAt
  induction l with
  | nil => rfl
  | cons z l ih =>
    have h1 := h z List.mem_cons_self
    have h2 : os[z.toNat]? = some (os[z.toNat]'(by omega)) := List.getElem?_eq_getElem _
    rw [List.filterMap_cons_some (f := fun z : Int => os[z.toNat]?) h2, List.length_cons, List.length_cons, ih fun y hy => h y (List.mem_cons_of_mem _ hy)]
theorem opsAt_get {os : List O} : ∀ {l : List Int} (_ : ∀ z ∈ l, 0 ≤ z ∧ z < (os.length : Int)) (k : Nat), (opsAt os l)[k]? = (l[k]?).bind fun z => os[z.toNat]?
  | [], _, k => by simp [opsAt]
  | z :: l, h, k => by
    have h1 := h z List.mem_cons_self
    have h2 : os[z.toNat]? = some (os[z.toNat]'(by omega)) := List.getElem?_eq_getElem _
    have e : opsAt os (z :: l) = os[z.toNat]'(by omega) :: opsAt os l := by
      unfold opsAt
      rw [List.filterMap_cons_some (f := fun z : Int => os[z.toNat]?) h2]
    rw [e]
    cases k with
    | zero => simp [h2]
    | succ k =>
      have := opsAt_get (fun y hy => h y (List.mem_cons_of_mem _ hy)) k
      simpa using this
theorem opsAt_snoc (os : List O) (l : List Int) (z : Int) (o : O) (h : os[z.toNat]? = some o) : opsAt os (l ++ [z]) = opsAt os l ++ [o] := by
  unfold opsAt
  rw [List.filterMap_append]
  simp [h]
theorem Ok.plen {p : St} (h : Ok p) {l : List Int} (hl : l ∈ p.pl) : l.length ≤ 16 := by
  have h1 := h.pr l hl
  have h2 := h.rng l hl
  have h3 := h.some_
  -- the j-th is at least j
  have key : ∀ (j : Nat) (hj : j < l.length), (j : Int) ≤ l[j] := fun j => by
    induction j with
    | zero => intro hj; exact (h2 _ (List.getElem_mem hj)).1
    | succ j ih =>
      intro hj
      have a := ih (by omega)
      have b := List.pairwise_iff_getElem.1 h1 j (j + 1) (by omega) hj (by omega)
      omega
  by_cases h0 : l.length = 0
  · omega
  · have a := key (l.length - 1) (by omega)
    have b := (h2 _ (List.getElem_mem (show l.length - 1 < l.length by omega))).2
    omega
theorem Ok.of {t : Tb.St} {m : Int} (ht : Tb.Fine m t) (s n : Int) {os : List O} (ho : os.length ≤ 16) : Ok (of t s n os) := by
  have h2 := ht.sh2
  have h1 := ht.sh1
  have hmem : ∀ l ∈ plA (Tb.split t (os.map O.path)), ∃ k : Int, l = Tb.places (Tb.of t) (os.map O.path) k := fun l hl => by
    have hm := (plA_mem hl).1
    obtain ⟨k, hk⟩ := List.mem_iff_getElem?.1 hm
    exact ⟨_, (Tb.split_at hk).2⟩
  refine ⟨shA_len 0 _, ?_, ho, shA_rise 0 _, fun l hl => ?_, fun l hl => (plA_mem hl).2, fun l hl z hz => ?_⟩
  · show (shA 0 _).length ≤ 4
    rw [shA_len]
    have a := plA_len (Tb.split t (os.map O.path))
    rw [Tb.split_len] at a
    omega
  · obtain ⟨k, rfl⟩ := hmem l hl
    exact Tb.placesA_rises _ _ _ _
  · obtain ⟨k, rfl⟩ := hmem l hl
    obtain ⟨j, p', h3, _, rfl⟩ := (Tb.placesA_mem _ _ _ _ _).1 hz
    have hj := (List.getElem?_eq_some_iff.1 h3).1
    rw [List.length_map] at hj
    show 0 ≤ (((0 + j : Nat)) : Int) ∧ (((0 + j : Nat)) : Int) < (os.length : Int)
    omega
/-- Of whom an Op is, by its place: in just those Places. -/
theorem of_mem {t : Tb.St} (s n : Int) {os : List O} {j y : Nat} {z : Int} {l : List Int} {o : O} (hz : (of t s n os).sh[j]? = some z) (hl : (of t s n os).pl[j]? = some l) (ho : os[y]? = some o) : (y : Int) ∈ l ↔ Tb.of t o.path = z := by
  obtain ⟨k, h1, h2⟩ := shA_at 0 _ j z l hz hl
  have h3 := (Tb.split_at h2).2
  have hz2 : z = (k : Int) := by omega
  subst h3 hz2
  unfold Tb.places
  rw [Tb.placesA_mem]
  constructor
  · rintro ⟨i, p', a, b, c⟩
    have e : i = y := by omega
    rw [e, List.getElem?_map, ho] at a
    simp at a
    rw [a]
    exact b
  · intro e
    exact ⟨y, o.path, by rw [List.getElem?_map, ho]; rfl, e, by simp⟩
theorem of_has {t : Tb.St} {m : Int} (ht : Tb.Fine m t) (s n : Int) {os : List O} {y : Nat} {o : O} (ho : os[y]? = some o) (hg : Pl.goodB o.path.data.toList = true) : ∃ (j : Nat) (l : List Int), (of t s n os).sh[j]? = some (Tb.of t o.path) ∧ (of t s n os).pl[j]? = some l ∧ (y : Int) ∈ l := by
  obtain ⟨h1, h2⟩ := Tb.of_good ht hg
  obtain ⟨k, hk⟩ : ∃ k : Nat, Tb.of t o.path = (k : Int) := ⟨(Tb.of t o.path).toNat, by omega⟩
  have hk2 : (k : Int) < t.shards := by omega
  have hs : (Tb.split t (os.map O.path))[k]? = some (Tb.places (Tb.of t) (os.map O.path) (k : Int)) := by
    unfold Tb.split
    rw [List.getElem?_map, List.getElem?_range (by omega)]
    rfl
  have hm : (y : Int) ∈ Tb.places (Tb.of t) (os.map O.path) (k : Int) := by
    unfold Tb.places
    rw [Tb.placesA_mem]
    exact ⟨y, o.path, by rw [List.getElem?_map, ho]; rfl, hk, by simp⟩
  obtain ⟨j, h3, h4⟩ := shA_has 0 _ k _ hs (fun e => by rw [e] at hm; cases hm)
  refine ⟨j, _, ?_, h4, hm⟩
  rw [hk]
  have e : 0 + k = k := by omega
  rw [e] at h3
  exact h3
end Go.Proofs.YtjimemnkmpapgaaGreatDoor.Pn
namespace Go.Proofs.YtjimemnkmpapgaaGreatDoor
open Go.RowKit

def vc (x : Pn.V) : List Value := [.int .i64 x.err, .int .i64 x.at_]
def nilv : Value := .slice none 0 0
def KV : Kd Pn.V := ⟨vc, 42, 53, 2, 16, .agg #[.int .i64 0, .int .i64 0]⟩
theorem KV.ok : KV.Good := ⟨by kernel_rfl, by kernel_rfl, rfl, by decide, by decide, fun _ => rfl⟩
def KI : Kd Int := ⟨fun z => [.int .i64 z], 3, 27, 1, 8, .int .i64 0⟩
theorem KI.ok : KI.Good := ⟨by kernel_rfl, by kernel_rfl, rfl, by decide, by decide, fun _ => rfl⟩
def KS : Kd Value := ⟨fun u => [u], 27, 31, 1, 24, .slice none 0 0⟩
theorem KS.ok : KS.Good := ⟨by kernel_rfl, by kernel_rfl, rfl, by decide, by decide, fun _ => rfl⟩
def KO : Kd O := ⟨oc, 38, 28, 5, 56, .agg #[.int .i64 0, .string ⟨#[]⟩, .string ⟨#[]⟩, .int .i64 0, .int .i64 0]⟩
theorem KO.ok : KO.Good := ⟨by kernel_rfl, by kernel_rfl, rfl, by decide, by decide, fun _ => rfl⟩
def KX : Kd X := ⟨fun x => xc x nilv, 50, 43, 11, 120, .agg #[.int .i64 0, .string ⟨#[]⟩, .string ⟨#[]⟩, .slice none 0 0, .int .i64 0, .int .i64 0, .int .i64 0, .int .i64 0, .int .i64 0, .int .i64 0, .int .i64 0]⟩
theorem KX.ok : KX.Good := ⟨by kernel_rfl, by kernel_rfl, rfl, by decide, by decide, fun _ => rfl⟩
def KR : Kd Value := ⟨fun u => [u], 43, 64, 1, 24, .slice none 0 0⟩
theorem KR.ok : KR.Good := ⟨by kernel_rfl, by kernel_rfl, rfl, by decide, by decide, fun _ => rfl⟩
def KW : Kd Pn.V := ⟨vc, 62, 61, 2, 16, .agg #[.int .i64 0, .int .i64 0]⟩
theorem KW.ok : KW.Good := ⟨by kernel_rfl, by kernel_rfl, rfl, by decide, by decide, fun _ => rfl⟩
theorem ones {α : Type} {K : Kd α} (h : ∀ x, ∀ u ∈ K.cf x, u.oneCell' = true) (l : List α) : ∀ u ∈ K.cs l, u.oneCell' = true := by
  intro u hu
  obtain ⟨x, _, hx⟩ := List.mem_flatMap.1 hu
  exact h x u hx
theorem KV.one (l : List Pn.V) : ∀ u ∈ KV.cs l, u.oneCell' = true := ones (fun x u hu => by
  have hu : u ∈ vc x := hu
  simp only [vc, List.mem_cons, List.not_mem_nil, or_false] at hu
  rcases hu with rfl | rfl <;> rfl) l
theorem KW.one (l : List Pn.V) : ∀ u ∈ KW.cs l, u.oneCell' = true := ones (fun x u hu => by
  have hu : u ∈ vc x := hu
  simp only [vc, List.mem_cons, List.not_mem_nil, or_false] at hu
  rcases hu with rfl | rfl <;> rfl) l
theorem KI.one (l : List Int) : ∀ u ∈ KI.cs l, u.oneCell' = true := ones (fun x u hu => by
  have hu : u ∈ [Value.int .i64 x] := hu
  simp only [List.mem_cons, List.not_mem_nil, or_false] at hu
  rw [hu]
  rfl) l
theorem KO.one (l : List O) : ∀ u ∈ KO.cs l, u.oneCell' = true := ones (fun x u hu => by
  have hu : u ∈ oc x := hu
  simp only [oc, List.mem_cons, List.not_mem_nil, or_false] at hu
  rcases hu with rfl | rfl | rfl | rfl | rfl <;> rfl) l
theorem KX.one (l : List X) : ∀ u ∈ KX.cs l, u.oneCell' = true := ones (fun x u hu => by
  have hu : u ∈ xc x nilv := hu
  simp only [xc, List.mem_cons, List.not_mem_nil, or_false] at hu
  rcases hu with rfl | rfl | rfl | rfl | rfl | rfl | rfl | rfl | rfl | rfl | rfl <;> rfl) l
/-- Numbers in a row. -/
theorem KI.bi {w : World} {v : Value} {zs : List Int} (h : KI.At w v zs) : Bi w v zs := by
  obtain ⟨a, k, c, rfl, hk, _, hs⟩ := h
  refine ⟨a, k, c, rfl, hk, fun j z hz => ?_⟩
  obtain ⟨g, b, ha, hc⟩ := hs j z hz
  refine ⟨g, b, ha, ?_⟩
  have := hc 0 (.int .i64 z) rfl
  have e : b + (j * KI.sz + 0) = b + j := by show b + (j * 1 + 0) = b + j; omega
  rw [e] at this
  exact this
/-- Numbers that are there. -/
theorem KI.of_bi {w : World} {v : Value} {zs : List Int} (h : Bi w v zs) (h0 : zs ≠ []) : KI.At w v zs := by
  obtain ⟨a, k, c, rfl, hk, hs⟩ := h
  obtain ⟨g0, o0, ha, _⟩ := hs 0 (zs[0]'(List.length_pos_iff.2 h0)) (List.getElem?_eq_getElem _)
  refine ⟨a, k, c, rfl, hk, fun e => (by rw [e] at ha; cases ha), fun j z hz => ?_⟩
  obtain ⟨g, o, e, hc⟩ := hs j z hz
  refine ⟨g, o, e, fun i u hu => ?_⟩
  match i, hu with
  | 0, hu =>
    obtain rfl := Option.some.inj hu
    have e : o + (j * KI.sz + 0) = o + j := by show o + (j * 1 + 0) = o + j; omega
    rw [e]
    exact hc
  | (i + 1), hu => simp [KI] at hu
theorem KO.of_ol {w : World} {v : Value} {os : List O} (h : Ol w v os) : KO.At w v os := by
  obtain ⟨a, k, c, h1, h2, _, h4, h5⟩ := h
  exact ⟨a, k, c, h1, h2, h4, h5⟩
/-- Ops in a row of the call's own. -/
theorem KO.ol {w : World} {B : Nat} {v : Value} {os : List O} (h : w.ownsRow B 38 5 v os.length (KO.cs os)) : Ol w v os := by
  have hA := KO.ok.row h
  obtain ⟨a, c, rfl, hc, _⟩ := row_form h
  obtain ⟨av, k, c', hv, hk, hn, hs⟩ := hA
  simp only [Value.slice.injEq] at hv
  obtain ⟨rfl, rfl, rfl⟩ := hv
  exact ⟨a, _, c, rfl, rfl, hc, hn, hs⟩
/-- Results without Names in a row of the call's own. -/
theorem KX.rl {w : World} {B : Nat} {v : Value} {xs : List X} (h : w.ownsRow B 50 11 v xs.length (KX.cs xs)) (h0 : ∀ x ∈ xs, x.names = []) : Rl w v xs := by
  have hA := KX.ok.row h
  obtain ⟨a, c, rfl, hc, _⟩ := row_form h
  obtain ⟨av, k, c', hv, hk, hn, hs⟩ := hA
  simp only [Value.slice.injEq] at hv
  obtain ⟨rfl, rfl, rfl⟩ := hv
  refine ⟨a, _, c, rfl, rfl, hc, hn, fun j x hx => ?_⟩
  obtain ⟨g, b, e, hcell⟩ := hs j x hx
  refine ⟨g, b, nilv, e, ?_, hcell⟩
  rw [h0 x (List.mem_of_getElem? hx)]
  exact Sq.nil w
/-- A Plan, wherever its rows lie. -/
structure Pv (w : World) (p : Pn.St) (u a b : Value) : Prop where
  os : Ol w u p.os
  sh : KI.At w a p.sh
  pl : ∃ us, KS.At w b us ∧ us.length = p.pl.length ∧ ∀ (j : Nat) x l, us[j]? = some x → p.pl[j]? = some l → KI.At w x l
/-- It as a value. -/
def pv (p : Pn.St) (u a b : Value) : Value := .agg #[.int .i64 p.s, .int .i64 p.n, u, a, b]
theorem Pv.below {w w' : World} {p : Pn.St} {u a b : Value} (h : Pv w p u a b) (hb : Below w.heap.size w w') : Pv w' p u a b := by
  obtain ⟨us, h1, h2, h3⟩ := h.pl
  exact ⟨h.os.below hb, h.sh.below hb, us, h1.below hb, h2, fun j x l hx hl => (h3 j x l hx hl).below hb⟩
theorem Pv.zero (w : World) : Pv w Pn.zero nilv nilv nilv := ⟨⟨none, 0, 0, rfl, rfl, Nat.le_refl _, fun _ => rfl, fun j o h => by simp [Pn.zero] at h⟩, Kd.At.nil w, [], Kd.At.nil w, rfl, fun j x l h => by simp at h⟩
/-- The places of one, in a later world. -/
theorem Pv.at {w : World} {p : Pn.St} {u : Value} {a : Value} {bv : Option Addr} {k c : Nat} (h : Pv w p u a (.slice bv k c)) {j : Nat} {l : List Int} (hl : p.pl[j]? = some l) : ∃ g o x, bv = some ⟨g, o, none⟩ ∧ w.cell? ⟨g, o + j, none⟩ = some x ∧ KI.At w x l := by
  obtain ⟨us, h1, h2, h3⟩ := h.pl
  have hj := (List.getElem?_eq_some_iff.1 hl).1
  obtain ⟨x, hx⟩ : ∃ x, us[j]? = some x := ⟨us[j]'(by omega), List.getElem?_eq_getElem _⟩
  obtain ⟨g, o, e, hc⟩ := h1.at hx
  refine ⟨g, o, x, e, ?_, h3 j x l hx hl⟩
  have := hc 0 x rfl
  have e2 : o + j * KS.sz + 0 = o + j := by show o + j * 1 + 0 = o + j; omega
  rw [e2] at this
  exact this
theorem Pv.forms {w : World} {p : Pn.St} {u a b : Value} (h : Pv w p u a b) : (∃ x c, u = .slice x p.os.length c) ∧ (∃ x c, a = .slice x p.sh.length c) ∧ ∃ x c, b = .slice x p.pl.length c := by
  obtain ⟨us, h1, h2, _⟩ := h.pl
  obtain ⟨a2, c2, e2, _⟩ := h.sh.form
  obtain ⟨a3, c3, e3, _⟩ := h1.form
  obtain ⟨av, k, c, e1, hk, _⟩ := h.os
  exact ⟨⟨av, c, by rw [e1, hk]⟩, ⟨a2, c2, e2⟩, a3, c3, by rw [e3, h2]⟩
end Go.Proofs.YtjimemnkmpapgaaGreatDoor
