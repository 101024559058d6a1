/- A map that is one's own, said by what each key leads to; whatever its elements are. No package of the program is named. -/
import Derived.Test.YtadgjinlblloiaaDoorCells
import Derived.Maps.OwnSet
import Derived.Maps.Ext
import Derived.WideKeyEntry
namespace Go.Proofs.YtadgjinlblloiaaDoor
open Go.RowKit Go.ChangeMaps Go.MapKept

/-- An element, told by itself. -/
def anyElem (v : Value) : Option (DataW Value × List MemPlace) := some (.held v, [])
/-- In block b lies a map; kl leads to f kl. -/
def Mq (w : World) (k : TypeId) (b : Nat) (f : Lit → Option Value) : Prop :=
  ∃ n D, w.ownsMap Tryd.prog k anyElem b n D ∧ (∀ kl, Maps.has D kl = (f kl).isSome) ∧ ∀ kl v, f kl = some v → ∀ z, D.atKey kl z = .held v
/-- g is f, but for kl. -/
structure Up (f : Lit → Option Value) (kl : Lit) (o : Option Value) (g : Lit → Option Value) : Prop where
  same : g kl = o
  other : ∀ x, x ≠ kl → g x = f x
theorem Up.some_is (f : Lit → Option Value) (kl : Lit) (o : Option Value) : ∃ g, Up f kl o g := by
  classical
  exact ⟨fun x => if x = kl then o else f x, by simp, fun x h => by simp [h]⟩
theorem Up.uniq {f g g' : Lit → Option Value} {kl : Lit} {o : Option Value} (h : Up f kl o g) (h' : Up f kl o g') : g = g' := by
  funext x
  by_cases e : x = kl
  · rw [e, h.same, h'.same]
  · rw [h.other x e, h'.other x e]
theorem Up.over {f g g' : Lit → Option Value} {kl : Lit} {o o' : Option Value} (h : Up f kl o g) (h' : Up g kl o' g') : Up f kl o' g' := ⟨h'.same, fun x e => (h'.other x e).trans (h.other x e)⟩
theorem Up.back {f g g' : Lit → Option Value} {kl : Lit} {o o' : Option Value} (h : Up f kl o g) (h' : Up f kl o' g') : Up g kl o' g' := ⟨h'.same, fun x e => (h'.other x e).trans (h.other x e).symm⟩
/-- Not more keys than these. -/
def Few (f : Lit → Option Value) (N : Nat) : Prop := ∃ L : List Lit, L.length ≤ N ∧ ∀ kl, (f kl).isSome = true → kl ∈ L
theorem Few.mono {f : Lit → Option Value} {N M : Nat} (h : Few f N) (hm : N ≤ M) : Few f M := by
  obtain ⟨L, h1, h2⟩ := h
  exact ⟨L, Nat.le_trans h1 hm, h2⟩
theorem few_of {α : Type} {f : Lit → Option Value} (l : List α) (g : α → Lit) (h : ∀ kl, (f kl).isSome = true → ∃ x ∈ l, g x = kl) : Few f l.length :=
  ⟨l.map g, by rw [List.length_map]; exact Nat.le_refl _, fun kl hk => by
    obtain ⟨x, hx, e⟩ := h kl hk
    exact List.mem_map.2 ⟨x, hx, e⟩⟩
theorem len_nodup {α : Type} : ∀ (l m : List α), l.Nodup → (∀ x ∈ l, x ∈ m) → l.length ≤ m.length
  | [], _, _, _ => Nat.zero_le _
  | a :: l, m, hn, hm => by
    classical
    obtain ⟨h1, h2⟩ := List.nodup_cons.1 hn
    have ha := hm a (by simp)
    have ih := len_nodup l (m.erase a) h2 (fun x hx => (List.mem_erase_of_ne (fun e : x = a => h1 (by rw [← e]; exact hx))).2 (hm x (by simp [hx])))
    have hl := List.length_erase_of_mem ha
    have hp := List.length_pos_of_mem ha
    rw [List.length_cons]
    omega
section
variable {w w' : World} {k : TypeId} {b N : Nat} {f g : Lit → Option Value}
theorem Mq.lt (h : Mq w k b f) : b < w.heap.size := by
  obtain ⟨n, D, h, _⟩ := h
  exact h.lt
theorem Mq.block (h : Mq w k b f) : ∃ es clock, w.heap[b]? = some (.map es clock) := by
  obtain ⟨n, D, ⟨es, clock, h, _⟩, _⟩ := h
  exact ⟨es, clock, h⟩
theorem Mq.keep (h : Mq w k b f) (hb : w'.heap[b]? = w.heap[b]?) : Mq w' k b f := by
  obtain ⟨n, D, ⟨es, clock, h, r⟩, h2⟩ := h
  exact ⟨n, D, ⟨es, clock, hb.trans h, r⟩, h2⟩
theorem Mq.to (h : Mq w k b f) (e : f = g) : Mq w k b g := e ▸ h
theorem Mq.made (w : World) (k : TypeId) : Mq (w.alloc (.map #[] 0)) k w.heap.size fun _ => none :=
  ⟨0, .map [], w.ownsMap_made Tryd.prog k anyElem, fun _ => rfl, fun _ _ h => by cases h⟩
/-- A block of cells is none of a map. -/
theorem Mq.ne {p : Nat} {cs : List Value} {t : TypeId} (h : Mq w k b f) (hp : Cb w p cs t) : b ≠ p := fun e => by
  obtain ⟨es, clock, h1⟩ := h.block
  unfold Cb at hp
  rw [← e, h1] at hp
  cases hp
theorem Mq.ne_row {B t n s : Nat} {v : Value} {us : List Value} (h : Mq w k b f) (hv : w.ownsRow B t s v n us) : v.ownBlock ≠ some b := fun e => by
  obtain ⟨es, clock, h1⟩ := h.block
  obtain ⟨cur, h2⟩ := row_in hv e
  rw [h1] at h2
  cases h2
theorem Mq.few (h : Mq w k b f) (K : Maps.Keyed Tryd.prog k) (hf : Few f N) : ∃ D, w.ownsMap Tryd.prog k anyElem b N D ∧ (∀ kl, Maps.has D kl = (f kl).isSome) ∧ ∀ kl v, f kl = some v → ∀ z, D.atKey kl z = .held v := by
  obtain ⟨n, D, h, hh, ha⟩ := h
  obtain ⟨L, hL, hin⟩ := hf
  refine ⟨D, ?_, hh, ha⟩
  obtain ⟨M, e, hp, hk⟩ := h.canon K
  obtain ⟨es, clock, hb, F, hs, hd⟩ := h
  refine ⟨es, clock, hb, F, ?_, hd⟩
  have h1 : M.length = es.size := by
    rw [e] at hd
    simp only [DataW.map.injEq] at hd
    rw [hd, length_sorted]
    simp
  have h2 : (M.map (·.1)).Nodup := by
    unfold List.Nodup
    rw [List.pairwise_map]
    exact Maps.apart_of_rising hp
  have h3 := len_nodup (M.map (·.1)) L h2 (fun kl hkl => by
    obtain ⟨p, hpm, rfl⟩ := List.mem_map.1 hkl
    refine hin _ ?_
    rw [← hh, e, Maps.has_eq, List.any_eq_true]
    exact ⟨p, hpm, WideAt.sameKey_self (hk p hpm)⟩)
  rw [List.length_map] at h3
  omega
/-- 'm[k]', and 'v, ok := m[k]'. -/
theorem Mq.look_ok (h : Mq w k b f) (K : Maps.Keyed Tryd.prog k) {t e : TypeId} (ht : Tryd.prog.underlying t = some (.map k e)) {z : Value} (hz : (zeroValue e).run Tryd.prog w = .ok z w) {key : Value} {kl : Lit} (hkey : keyOf Tryd.prog k key = some kl) :
    (Instr.lookup t (.map (some b)) key true).run Tryd.prog w = .ok (.tuple #[(f kl).getD z, .bool (f kl).isSome]) w := by
  obtain ⟨n, D, h, hh, ha⟩ := h
  obtain ⟨v, ps, hr, hv⟩ := h.look_ok K ht hz (zd := .held z) (zp := []) rfl hkey
  rw [hr, hh]
  unfold anyElem at hv
  simp only [Option.some.injEq, Prod.mk.injEq] at hv
  cases e : f kl with
  | none =>
    rw [Maps.atKey_of_not_has (by rw [hh, e]; rfl)] at hv
    simp only [DataW.held.injEq] at hv
    rw [hv.1]
    rfl
  | some u =>
    rw [ha kl u e] at hv
    simp only [DataW.held.injEq] at hv
    rw [hv.1]
    rfl
theorem Mq.look (h : Mq w k b f) (K : Maps.Keyed Tryd.prog k) {t e : TypeId} (ht : Tryd.prog.underlying t = some (.map k e)) {z : Value} (hz : (zeroValue e).run Tryd.prog w = .ok z w) {key : Value} {kl : Lit} (hkey : keyOf Tryd.prog k key = some kl) :
    (Instr.lookup t (.map (some b)) key false).run Tryd.prog w = .ok ((f kl).getD z) w := by
  obtain ⟨n, D, h, hh, ha⟩ := h
  obtain ⟨v, ps, hr, hv⟩ := h.lookup K ht hz (zd := .held z) (zp := []) rfl hkey
  rw [hr]
  unfold anyElem at hv
  simp only [Option.some.injEq, Prod.mk.injEq] at hv
  cases e : f kl with
  | none =>
    rw [Maps.atKey_of_not_has (by rw [hh, e]; rfl)] at hv
    simp only [DataW.held.injEq] at hv
    rw [hv.1]
    rfl
  | some u =>
    rw [ha kl u e] at hv
    simp only [DataW.held.injEq] at hv
    rw [hv.1]
    rfl
/-- 'm[k] = v'. -/
theorem Mq.store (h : Mq w k b f) (K : Maps.Keyed Tryd.prog k) {t e : TypeId} (ht : Tryd.prog.underlying t = some (.map k e)) (hf : Few f N) (hN : N < maxLen) {key : Value} {kl : Lit} (hkey : keyOf Tryd.prog k key = some kl) (val : Value) (hg : Up f kl (some val) g) :
    ∃ w', (Instr.mapUpdate t (.map (some b)) key val).run Tryd.prog w = .ok () w' ∧ Mq w' k b g ∧ w.mapTurned w' b := by
  obtain ⟨D, h, hh, ha⟩ := h.few K hf
  obtain ⟨w', hr, ho, htn⟩ := h.store K ht hN hkey (val := val) (d := .held val) (ps := []) rfl
  refine ⟨w', hr, ⟨N + 1, _, ho, fun x => ?_, fun x v hx z => ?_⟩, htn⟩
  · by_cases e : x = kl
    · rw [e, hg.same, Maps.has_put_same h.isMap (K.key hkey)]
      rfl
    · rw [hg.other x e, Maps.has_put_other e, hh]
  · by_cases e : x = kl
    · rw [e, hg.same] at hx
      rw [e, Maps.atKey_put_same h.isMap (K.key hkey), Option.some.inj hx]
    · rw [hg.other x e] at hx
      rw [Maps.atKey_put_other e]
      exact ha x v hx z
/-- 'delete(m, k)'. -/
theorem Mq.drop (h : Mq w k b f) (K : Maps.Keyed Tryd.prog k) {t e : TypeId} (ht : Tryd.prog.underlying t = some (.map k e)) {key : Value} {kl : Lit} (hkey : keyOf Tryd.prog k key = some kl) (ty : TypeId) (hg : Up f kl none g) :
    ∃ w', (Builtin.delete_ #[t, k] ty #[.map (some b), key]).run Tryd.prog w = .ok (.tuple #[]) w' ∧ Mq w' k b g ∧ w.mapTurned w' b := by
  obtain ⟨n, D, h, hh, ha⟩ := h
  obtain ⟨w', hr, ho, htn⟩ := h.drop K ht hkey ty
  refine ⟨w', hr, ⟨n, _, ho, fun x => ?_, fun x v hx z => ?_⟩, htn⟩
  · by_cases e : x = kl
    · rw [e, hg.same, Maps.has_del_same]
      rfl
    · rw [hg.other x e, Maps.has_del_other e, hh]
  · by_cases e : x = kl
    · rw [e, hg.same] at hx
      cases hx
    · rw [hg.other x e] at hx
      rw [Maps.atKey_del_other e]
      exact ha x v hx z
/-- 'len(m)'. -/
theorem Mq.len (h : Mq w k b f) (K : Maps.Keyed Tryd.prog k) {t e : TypeId} (ht : Tryd.prog.underlying t = some (.map k e)) (L : List Lit) (hn : L.Nodup) (hL : ∀ kl, (f kl).isSome = true ↔ kl ∈ L) (ty : TypeId) :
    (Builtin.len_ #[t] ty #[.map (some b)]).run Tryd.prog w = .ok (.int .i64 (L.length : Int)) w := by
  obtain ⟨D, h, hh, ha⟩ := h.few K (N := L.length) ⟨L, Nat.le_refl _, fun kl => (hL kl).1⟩
  rw [h.len ht ty]
  have h1 : Maps.size D ≤ L.length := h.size_le
  have h2 : L.length ≤ Maps.size D := by
    obtain ⟨M, e, hp, hk⟩ := h.canon K
    have h3 := len_nodup L (M.map (·.1)) hn (fun kl hkl => by
      have h4 := (hL kl).2 hkl
      rw [← hh, e, Maps.has_eq, List.any_eq_true] at h4
      obtain ⟨p, hpm, hs⟩ := h4
      refine List.mem_map.2 ⟨p, hpm, ?_⟩
      apply Classical.byContradiction
      intro hne
      rw [Maps.sameKey_ne hne] at hs
      cases hs)
    rw [List.length_map] at h3
    rw [e, Maps.size_eq]
    exact h3
  rw [Nat.le_antisymm h1 h2]
/-- Laying an entry leaves what writing its own value leaves. -/
theorem entry_upd {R : Value → Option (DataW Value × List MemPlace)} {t e : TypeId} {es es1 : Array MapEntry} {clock clock1 st : Nat} {v0 : Value} (K : WideMaps.KeyLaw Tryd.prog k) (ht : Tryd.prog.underlying t = some (.map k e)) {z : Value} (hz : (zeroValue e).run Tryd.prog w = .ok z w) (hb : w.heap[b]? = some (.map es clock)) (F : WideElems.Fit Tryd.prog k R es clock) {key : Value} {kl : Lit} (hkey : keyOf Tryd.prog k key = some kl)
    (h : (Instr.mapEntry t (.map (some b)) key).run Tryd.prog w = .ok (.tuple #[v0, goInt st]) (setBlock w b (.map es1 clock1))) : (Instr.mapUpdate t (.map (some b)) key v0).run Tryd.prog w = .ok () (setBlock w b (.map es1 clock1)) ∧ (Instr.lookup t (.map (some b)) key false).run Tryd.prog w = .ok v0 w := by
  rcases K.find w hkey es.toList F.keys with ⟨h1, _⟩ | ⟨j, e0, h1, h2, h3⟩
  · simp [Instr.mapEntry, run_underlying ht, MapKept.run_getObj_map hb, K.check w false hkey, h1, hz, MapKept.run_setObj_map _ hb, Result.andThen] at h
    obtain ⟨⟨rfl, _⟩, hw⟩ := h
    simp [Instr.mapUpdate, Instr.lookup, run_underlying ht, MapKept.run_getObj_map hb, K.check w _ hkey, h1, hz, MapKept.run_setObj_map _ hb, Result.andThen]
    exact hw
  · have hj : es[j]? = some e0 := by simpa using h2
    simp [Instr.mapEntry, run_underlying ht, MapKept.run_getObj_map hb, K.check w false hkey, h1, hj, h3, K.stays w hkey, MapKept.run_setObj_map _ hb, Result.andThen] at h
    obtain ⟨⟨rfl, _⟩, hw⟩ := h
    simp [Instr.mapUpdate, Instr.lookup, run_underlying ht, MapKept.run_getObj_map hb, K.check w _ hkey, h1, hj, h3, K.stays w hkey, MapKept.run_setObj_map _ hb, Result.andThen]
    rw [← hw]
    congr 3
    apply Array.ext'
    rw [Array.toList_modify, Array.toList_modify]
    apply List.ext_getElem?
    intro i
    rw [List.getElem?_modify, List.getElem?_modify]
    by_cases hi : j = i
    · subst hi
      rw [h2]
      simp
    · simp [hi]
theorem upd_store {t e : TypeId} {X : World} (h : Mq w k b f) (K : Maps.Keyed Tryd.prog k) (ht : Tryd.prog.underlying t = some (.map k e)) (hf : Few f N) (hN : N < maxLen) {key : Value} {kl : Lit} (hkey : keyOf Tryd.prog k key = some kl) {val : Value} (hg : Up f kl (some val) g) (hr : (Instr.mapUpdate t (.map (some b)) key val).run Tryd.prog w = .ok () X) : Mq X k b g ∧ w.mapTurned X b := by
  obtain ⟨w', hr2, h1, h2⟩ := h.store K ht hf hN hkey val hg
  rw [hr] at hr2
  simp only [Result.ok.injEq, true_and] at hr2
  exact hr2 ▸ ⟨h1, h2⟩
/-- 'm[k] op= v': the entry is laid, then written. -/
theorem Mq.entry {t e : TypeId} (h : Mq w k b f) (KL : WideMaps.KeyLaw Tryd.prog k) (ht : Tryd.prog.underlying t = some (.map k e)) {z : Value} (hz : ∀ u : World, (zeroValue e).run Tryd.prog u = .ok z u) (hf : Few f N) (hN : N < maxLen) {key : Value} {kl : Lit} (hkey : keyOf Tryd.prog k key = some kl) :
    ∃ (st : Nat) (w1 : World) (f1 : Lit → Option Value), (Instr.mapEntry t (.map (some b)) key).run Tryd.prog w = .ok (.tuple #[(f kl).getD z, goInt st]) w1 ∧ Up f kl (some ((f kl).getD z)) f1 ∧ Mq w1 k b f1 ∧ w.mapTurned w1 b ∧
      ∀ (w2 : World) (val : Value) (g : Lit → Option Value), Up f kl (some val) g → w2.heap[b]? = w1.heap[b]? → ∃ w3, (Instr.entryStore t (.map (some b)) (goInt st) val).run Tryd.prog w2 = .ok () w3 ∧ Mq w3 k b g ∧ w2.mapTurned w3 b := by
  have K := Maps.Keyed.of_law KL
  have h0 := h
  obtain ⟨D, ⟨es, clock, hb, F, _, _⟩, _⟩ := h.few K hf
  obtain ⟨v0, st, es1, clock1, hr, _, hst⟩ := WideElems.entry_then_store KL ht hz hb F hkey
  obtain ⟨hu, hl⟩ := entry_upd KL ht (hz w) hb F hkey hr
  have hv : (f kl).getD z = v0 := by
    have h2 := h0.look K ht (hz w) hkey
    rw [hl] at h2
    simp only [Result.ok.injEq, and_true] at h2
    exact h2.symm
  rw [hv]
  obtain ⟨f1, hf1⟩ := Up.some_is f kl (some v0)
  obtain ⟨m1, m2⟩ := upd_store h0 K ht hf hN hkey hf1 hu
  have hbs : (setBlock w b (.map es1 clock1)).heap[b]? = some (.map es1 clock1) := heap_setBlock_same hb _
  refine ⟨st, _, f1, hr, hf1, m1, m2, fun w2 val g hg hw2 => ?_⟩
  rw [hbs] at hw2
  obtain ⟨es', clock', h3, h4⟩ := hst w2 val hw2
  obtain ⟨m3, _⟩ := upd_store h0 K ht hf hN hkey hg h4
  refine ⟨_, h3, m3.keep ?_, ⟨es1, clock1, es', clock', hw2, rfl⟩⟩
  rw [heap_setBlock_same hw2, heap_setBlock_same hb]
end

/-! At the operation. -/
section
variable {w : World} {ops : Array Oper} {rest : List Oper} {o : Oper} {a : Act} {Q : Exit → Act → World → Prop} {b N : Nat} {f g : Lit → Option Value}
theorem wpList_lookM (hg : o.guard = none) (m x : Operand) (t : TypeId) (hop : o.op = Op.lookup t m x false) (k e : TypeId) (K : Maps.Keyed Tryd.prog k) (ht : Tryd.prog.underlying t = some (.map k e)) (z : Value) (hz : (zeroValue e).run Tryd.prog w = .ok z w)
    (hm : a.eval m = .map (some b)) (h : Mq w k b f) (key : Value) (kl : Lit) (hx : a.eval x = key) (hkey : keyOf Tryd.prog k key = some kl) (val : Value) (hv : (f kl).getD z = val)
    (hK : wpList Tryd.prog ops Q rest (a.put o.dst val) w) : wpList Tryd.prog ops Q (o :: rest) a w := by
  refine wpList_plain hg fun K' hK' => ?_
  have hr := h.look K ht hz hkey
  rw [hv] at hr
  unfold Oper.wp
  simp [execOp, hop, hm, hx, hr, Result.andThen]
  exact hK' _ _ hK
theorem wpList_lookMok (hg : o.guard = none) (m x : Operand) (t : TypeId) (hop : o.op = Op.lookup t m x true) (k e : TypeId) (K : Maps.Keyed Tryd.prog k) (ht : Tryd.prog.underlying t = some (.map k e)) (z : Value) (hz : (zeroValue e).run Tryd.prog w = .ok z w)
    (hm : a.eval m = .map (some b)) (h : Mq w k b f) (key : Value) (kl : Lit) (hx : a.eval x = key) (hkey : keyOf Tryd.prog k key = some kl) (val : Value) (ok : Bool) (hv : (f kl).getD z = val) (hok : (f kl).isSome = ok)
    (hK : wpList Tryd.prog ops Q rest (a.put o.dst (.tuple #[val, .bool ok])) w) : wpList Tryd.prog ops Q (o :: rest) a w := by
  refine wpList_plain hg fun K' hK' => ?_
  have hr := h.look_ok K ht hz hkey
  rw [hv, hok] at hr
  unfold Oper.wp
  simp [execOp, hop, hm, hx, hr, Result.andThen]
  exact hK' _ _ hK
theorem wp_storeM {K' : Act → World → Prop} (m x v : Operand) (t : TypeId) (hop : o.op = Op.mapUpdate t m x v) (k e : TypeId) (K : Maps.Keyed Tryd.prog k) (ht : Tryd.prog.underlying t = some (.map k e))
    (hm : a.eval m = .map (some b)) (h : Mq w k b f) (hf : Few f N) (hN : N < maxLen) (key val : Value) (kl : Lit) (hx : a.eval x = key) (hv : a.eval v = val) (hkey : keyOf Tryd.prog k key = some kl) (hgu : Up f kl (some val) g)
    (hK : ∀ w', Mq w' k b g → w.mapTurned w' b → K' (a.put o.dst undef) w') : o.wp Tryd.prog a w K' Q := by
  obtain ⟨w', hr, r1, r2⟩ := h.store K ht hf hN hkey val hgu
  unfold Oper.wp
  simp [execOp, hop, hm, hx, hv, hr, Result.andThen]
  exact hK w' r1 r2
theorem wpList_storeM (hg : o.guard = none) (m x v : Operand) (t : TypeId) (hop : o.op = Op.mapUpdate t m x v) (k e : TypeId) (K : Maps.Keyed Tryd.prog k) (ht : Tryd.prog.underlying t = some (.map k e))
    (hm : a.eval m = .map (some b)) (h : Mq w k b f) (hf : Few f N) (hN : N < maxLen) (key val : Value) (kl : Lit) (hx : a.eval x = key) (hv : a.eval v = val) (hkey : keyOf Tryd.prog k key = some kl) (hgu : Up f kl (some val) g)
    (hK : ∀ w', Mq w' k b g → w.mapTurned w' b → wpList Tryd.prog ops Q rest (a.put o.dst undef) w') : wpList Tryd.prog ops Q (o :: rest) a w :=
  wpList_plain hg fun _ hK' => wp_storeM m x v t hop k e K ht hm h hf hN key val kl hx hv hkey hgu fun w' h1 h2 => hK' _ _ (hK w' h1 h2)
theorem wp_dropM {K' : Act → World → Prop} (m x : Operand) (t k : TypeId) (hop : o.op = Op.call { callee := Callee.builtin Builtin.delete, args := #[m, x], argTypes := #[t, k] }) (e : TypeId) (K : Maps.Keyed Tryd.prog k) (ht : Tryd.prog.underlying t = some (.map k e))
    (hm : a.eval m = .map (some b)) (h : Mq w k b f) (key : Value) (kl : Lit) (hx : a.eval x = key) (hkey : keyOf Tryd.prog k key = some kl) (hgu : Up f kl none g)
    (hK : ∀ w', Mq w' k b g → w.mapTurned w' b → K' (a.put o.dst (.tuple #[])) w') : o.wp Tryd.prog a w K' Q := by
  obtain ⟨w', hr, r1, r2⟩ := h.drop K ht hkey o.type hgu
  unfold Oper.wp
  simp [execOp, hop, resolve, invoke, builtin, hm, hx, hr, Result.andThen]
  exact hK w' r1 r2
theorem wpList_dropM (hg : o.guard = none) (m x : Operand) (t k : TypeId) (hop : o.op = Op.call { callee := Callee.builtin Builtin.delete, args := #[m, x], argTypes := #[t, k] }) (e : TypeId) (K : Maps.Keyed Tryd.prog k) (ht : Tryd.prog.underlying t = some (.map k e))
    (hm : a.eval m = .map (some b)) (h : Mq w k b f) (key : Value) (kl : Lit) (hx : a.eval x = key) (hkey : keyOf Tryd.prog k key = some kl) (hgu : Up f kl none g)
    (hK : ∀ w', Mq w' k b g → w.mapTurned w' b → wpList Tryd.prog ops Q rest (a.put o.dst (.tuple #[])) w') : wpList Tryd.prog ops Q (o :: rest) a w :=
  wpList_plain hg fun _ hK' => wp_dropM m x t k hop e K ht hm h key kl hx hkey hgu fun w' h1 h2 => hK' _ _ (hK w' h1 h2)
theorem wp_entryM {K' : Act → World → Prop} (m x : Operand) (t : TypeId) (hop : o.op = Op.mapEntry t m x) (k e : TypeId) (K : WideMaps.KeyLaw Tryd.prog k) (ht : Tryd.prog.underlying t = some (.map k e)) (z : Value) (hz : ∀ u : World, (zeroValue e).run Tryd.prog u = .ok z u)
    (hm : a.eval m = .map (some b)) (h : Mq w k b f) (hf : Few f N) (hN : N < maxLen) (key : Value) (kl : Lit) (hx : a.eval x = key) (hkey : keyOf Tryd.prog k key = some kl)
    (hK : ∀ (st : Nat) w1 f1, Up f kl (some ((f kl).getD z)) f1 → Mq w1 k b f1 → w.mapTurned w1 b → (∀ (w2 : World) (val : Value) (g : Lit → Option Value), Up f kl (some val) g → w2.heap[b]? = w1.heap[b]? → ∃ w3, (Instr.entryStore t (.map (some b)) (goInt st) val).run Tryd.prog w2 = .ok () w3 ∧ Mq w3 k b g ∧ w2.mapTurned w3 b) → K' (a.put o.dst (.tuple #[(f kl).getD z, goInt st])) w1) : o.wp Tryd.prog a w K' Q := by
  obtain ⟨st, w1, f1, hr, r0, r1, r2, r3⟩ := h.entry K ht hz hf hN hkey
  unfold Oper.wp
  simp [execOp, hop, hm, hx, hr, Result.andThen]
  exact hK st w1 f1 r0 r1 r2 r3
theorem wpList_lenM (hg : o.guard = none) (m : Operand) (t : TypeId) (hop : o.op = Op.call { callee := Callee.builtin Builtin.len, args := #[m], argTypes := #[t] }) (k e : TypeId) (K : Maps.Keyed Tryd.prog k) (ht : Tryd.prog.underlying t = some (.map k e))
    (hm : a.eval m = .map (some b)) (h : Mq w k b f) (L : List Lit) (hn : L.Nodup) (hL : ∀ kl, (f kl).isSome = true ↔ kl ∈ L)
    (hK : wpList Tryd.prog ops Q rest (a.put o.dst (.int .i64 (L.length : Int))) w) : wpList Tryd.prog ops Q (o :: rest) a w := by
  refine wpList_plain hg fun K' hK' => ?_
  unfold Oper.wp
  simp [execOp, hop, resolve, invoke, builtin, hm, h.len K ht L hn hL o.type, Result.andThen]
  exact hK' _ _ hK
end
end Go.Proofs.YtadgjinlblloiaaDoor
