/- PathJoins answers true at every list of texts and every text, whatever memory the call finds, where the listed variables of the library hold what the text lays. -/
import Derived.Test.YtmmbomlpkjgclaaDoorFrame
import Derived.Test.YtmmbomlpkjgclaaDoorLJoins
namespace Go.Proofs.YtmmbomlpkjgclaaDoor.CPathJoins
open Go.ChangeShapes Go.WideShapes Go.ChangeAt Go.RowKit
open Go.ChangeMaps (open_string shut_string)

theorem laidOut : laidOutB Tryd.prog = true := by kernel_rfl
theorem cellsString : Tryd.prog.cellsOf 9 = 1 := by kernel_rfl
theorem readableRow : Tryd.prog.readableRec 30 = true := by kernel_rfl
theorem rowThere : 30 < Tryd.prog.types.size := of_decide_eq_true (by kernel_rfl)

theorem strs_at {W : World} {a : Addr} {ss : List ByteArray} (h : ∀ i, i < ss.length → W.cell? (a.add i) = some (.string (ss.getD i ByteArray.empty))) (hp : 0 < ss.length) :
    ∃ b off, a = ⟨b, off, none⟩ ∧ ∀ j, j < ss.length → W.cell? ⟨b, off + j, none⟩ = some (.string (ss.getD j ByteArray.empty)) := by
  obtain ⟨b, off, spot⟩ := a
  have hspot : spot = none := by simpa [Addr.add] using World.cell?_spot (h 0 hp)
  subst hspot
  exact ⟨b, off, rfl, fun j hj => by rw [← Go.WideShapes.add_plain]; exact h j hj⟩

/-- A list of texts that came in: its walk, nil or not. -/
theorem place_in {b o n : Nat} (h : 0 < n) : MemPlace.cell b (o + 0) ∈ MemPlace.row ⟨b, o, none⟩ n := by
  simp [MemPlace.row]
  omega

theorem walk {H : Type} {enc : TypeId × Value → H} (W : World) (hS : Std W) {a0 : Option Addr} {len cap fuel : Nat} {d : DataW H} {ps : List MemPlace} (p : ByteArray) (hp : p.size ≤ maxLen)
    (hf : DataW.trod enc Tryd.prog W 0 (fun _ => true) true fuel 30 (Value.slice a0 len cap).cells.toList = some (d, ps)) (hlt : ∀ x ∈ ps, x.block < W.heap.size) :
    Calls Tryd.prog 5 #[.slice a0 len cap, .string p] W fun e w' => e = .returned (.bool true) ∧ Below W.heap.size W w' := by
  rcases open_strings Tryd.underlying30 Tryd.underlying9 cellsString hf with ⟨hcs, hx⟩ | ⟨a, len', cap', ss, hcs, _, hl, hm, hz, hx, hcell, hws⟩
  · simp only [Value.cells, List.cons.injEq, Value.slice.injEq, and_true] at hcs
    obtain ⟨rfl, rfl, rfl⟩ := hcs
    exact joins_nil _ _ p W hS hp
  · simp only [Value.cells, List.cons.injEq, Value.slice.injEq, and_true] at hcs
    obtain ⟨rfl, rfl, rfl⟩ := hcs
    have hss : ss.length = cap := by simpa using hz
    by_cases h0 : len = 0
    · subst h0
      exact joins_nil _ _ p W hS hp
    · obtain ⟨b, o, rfl, hc⟩ := strs_at hcell (by omega)
      have hlen : (ss.take len).length = len := by rw [List.length_take]; omega
      have key := joins_any (ss.take len) b o cap p W hS hp (by omega) ?_ ?_ (fun x hx => hws x (List.mem_of_mem_take hx))
      · rw [hlen] at key; exact key
      · have hmem : MemPlace.cell b (o + 0) ∈ ps := by
          have := (Prod.mk.inj hx).2
          rw [this]
          exact place_in (by omega)
        exact hlt _ hmem
      · intro j x hx
        have hj : j < len := by
          have := (List.getElem?_eq_some_iff.1 hx).1
          omega
        rw [hc j (by omega)]
        rw [List.getElem?_take_of_lt hj] at hx
        simp [List.getD, hx]

theorem contract (H : Type) (enc : TypeId × Value → H) (W : World) (base : Nat) (args : Array Value) (ds gs : List (DataW H)) (before : List MemPlace)
    (hval : ∀ (j : Nat) t v, Tryd.f5.params[j]? = some t → args[j]? = some v → Value.okWide Tryd.prog W .any base t v)
    (hW : DataW.Whole enc Tryd.prog Tryd.f5.params.toList Rows.pathJoinsSpec.vars false W args.toList ds gs before) (hS : Std W) :
    Calls Tryd.prog 5 args W fun e W' => ∃ v, e = .returned v ∧ Rows.pathJoinsSpec.post enc Tryd.prog Tryd.f5 false true false false W args v W' := by
  have hW' := hW
  have hlt := hW.lt
  obtain ⟨p, q, hA0, hV, rfl, hfz, hnd⟩ := hW
  have hA : DataW.TrodAll enc Tryd.prog W 0 (fun _ => true) true Tryd.f5.params.toList args.toList ds p := hA0
  rw [Tryd.params5] at hA hval
  obtain ⟨v0, vs0, d0, ds0, p0, q0, hargs, rfl, rfl, h0, r0⟩ := trodAll_cons hA
  obtain ⟨v1, vs1, d1, ds1, p1, q1, rfl, rfl, rfl, h1, r1⟩ := trodAll_cons r0
  obtain ⟨rfl, rfl, rfl⟩ := trodAll_nil r1
  obtain rfl : args = #[v0, v1] := by cases args; simp_all
  obtain ⟨rfl, rfl⟩ := trodVars_none hV
  obtain ⟨s1, rfl, rfl, rfl, hz1⟩ := open_string Tryd.underlying9 (hval 1 9 v1 rfl rfl) h1
  obtain ⟨a0, len, cap, rfl⟩ := okWide_slice Tryd.underlying30 (hval 0 30 v0 rfl rfl)
  clear hA0
  simp only [List.append_nil] at hW' hlt
  obtain ⟨fuel, hf⟩ := h0
  refine (walk W hS s1 hz1 hf hlt).mono fun e W' ⟨he, hb⟩ => ?_
  subst he
  have hr := Below.trod laidOut readableRow rowThere ⟨fuel, hf⟩ hb hlt
  refine ⟨_, rfl, _, _, _, [], p0, [], hW', trodAll_cons_mk (shut_bool Tryd.underlying4 _) trodAll_mk0, ?_, rfl, hb.frame _, fun h => by cases h⟩
  have h2 : DataW.Trod enc Tryd.prog W' 0 (fun b => decide (b < W.heap.size)) true 9 (.string s1) (.lit (.string s1.data.toList)) [] := shut_string Tryd.underlying9 hz1
  have hall := trodAll_cons_mk hr (trodAll_cons_mk h2 trodAll_mk0)
  simp only [List.append_nil] at hall
  exact hall

theorem laid_met (os : Os) : laidMetH Tryd.prog lay5 ((World.laidAll Tryd.prog os lay5).forCall (fun _ _ => 0) ⟨#[], #[.slice none 0 0, .string ⟨#[]⟩], []⟩).memory := by
  rw [MakeChecks.laidMetH_plain _ _ _ (by kernel_rfl)]
  exact laidMet_laidAll _ (by kernel_rfl) (by kernel_rfl)
theorem reads (os : Os) {H : Type} (enc : TypeId × Value → H) : ∃ places, DataW.whole enc Tryd.prog ((World.laidAll Tryd.prog os lay5).forCall (fun _ _ => 0) ⟨#[], #[.slice none 0 0, .string ⟨#[]⟩], []⟩).memory Tryd.f5.params.toList Rows.pathJoinsSpec.vars false (#[.slice none 0 0, .string ⟨#[]⟩] : Array Value).toList 8 = some ([.nil, .lit (.string [])], [], places) :=
  ⟨[], by kernel_rfl⟩

set_option maxRecDepth 100000 in
theorem lifted (os : Os) (started : os.Started) (H : Type) (enc : TypeId × Value → H) (F : Stop.Interp) :
    ReturnsInHanded {} Tryd.checked os 5 .any ((OpenSpec.ofChange Rows.pathJoinsSpec).preRow enc Tryd.prog Tryd.f5 Rows.pathJoinsRow.domain false Rows.pathJoinsRow.laid) (((OpenSpec.ofChange Rows.pathJoinsSpec).at F).post enc Tryd.prog Tryd.f5 false true false false) := by
  obtain ⟨places, hx⟩ := reads os enc
  refine returnsInHanded_of_row (C := Tryd.checked) (s := OpenSpec.ofChange Rows.pathJoinsSpec) own started (by kernel_rfl) Tryd.func5
    (witness_row_at (enc := enc) (C := Tryd.checked) false (World.laidAll Tryd.prog os lay5) #[.slice none 0 0, .string ⟨#[]⟩] (World.laidAll_os _ _ _) (by kernel_rfl) (by kernel_rfl) (by kernel_rfl)
      (OpenSpec.preRow_of_cond 8 hx (by kernel_rfl) (fun k hk => by cases hk) (by kernel_rfl) (laid_met os))) ?_
  intro W base args ds gs before hval hW _ _ _ hL hsh _
  exact contract H enc W base args ds gs before hval hW (std_of hL hsh)

theorem said : Rows.PathJoinsSaid :=
  OpenClaim.holds_of_cond 5 Tryd.f5 rfl rfl rfl rfl rfl rfl rfl ⟨rfl, rfl, rfl, rfl, rfl⟩ rfl rfl rfl rfl rfl (by kernel_rfl) Tryd.func5 (by kernel_rfl)
    (of_decide_eq_true (by kernel_rfl)) (by unfold Func.isWrapper; first | (rw [if_pos (by decide +kernel)]; kernel_rfl) | (rw [if_neg (by decide +kernel)]; exact ⟨rfl, rfl⟩))
    (fun os started H enc _ F => by rw [OpenClaim.pre_eq_preRow]; exact lifted os started H enc F)

theorem plain (f : FuncId) (fn : Func) (hf : Tryd.pinned.checked.prog.funcNamed "aviary/aviarylaw1.PathJoins" = some f) (hfn : Tryd.pinned.checked.prog.funcs[f]? = some fn) :
    false = Tryd.pinned.checked.prog.looks [] ∧ ∀ (j : Nat) t, fn.params[j]? = some t → Tryd.pinned.checked.prog.wantsStandIn t = false := by
  obtain rfl : f = 5 := Option.some.inj ((show Tryd.prog.funcNamed "aviary/aviarylaw1.PathJoins" = some 5 by kernel_rfl).symm.trans hf) |>.symm
  obtain rfl : fn = Tryd.f5 := (Option.some.inj (Tryd.func5.symm.trans hfn)).symm
  refine ⟨by kernel_rfl, fun j t ht => ?_⟩
  rw [Tryd.params5] at ht
  have hm : t ∈ [30, 9] := by simpa using Array.mem_of_getElem? ht
  have hall : ([30, 9].all fun u => !Tryd.prog.wantsStandIn u) = true := by kernel_rfl
  exact (show Tryd.prog.wantsStandIn t = false by simpa using List.all_eq_true.1 hall t hm)

theorem card : Rows.PathJoinsCardSaid :=
  Claim7.holds_tied_plain_at .later [] _ _ _ _ said (fun _ h => by cases h) (by kernel_rfl) (fun _ h => by cases h) pathJoins_row_tie rfl ⟨rfl, rfl⟩ (by kernel_rfl) rfl plain (by kernel_rfl)
end Go.Proofs.YtmmbomlpkjgclaaDoor.CPathJoins
namespace Go.Proofs.YtmmbomlpkjgclaaDoor
theorem pathJoins_holds : Rows.PathJoinsCardSaid := CPathJoins.card
#print axioms pathJoins_holds
end Go.Proofs.YtmmbomlpkjgclaaDoor
