/- What the disk's find and first answer. -/
import Derived.Test.YtmbpkbdaakchiaaWSmall7
import Derived.Test.YtmbpkbdaakchiaaHeld
namespace Go.Proofs.Ytmbpkbdaakchiaa
open Go.RowKit

theorem zeroPtr7 (w : World) : (zeroValue 61).run Try.prog w = .ok (.pointer none) w := by kernel_rfl

/-- The file that find tells. -/
def findP (st : Dq.St) (P : ByteArray → Nat) (s : ByteArray) : Value := if Dq.err st s = 0 then fptr (P s) else .pointer none

set_option maxRecDepth 20000 in
set_option maxHeartbeats 2000000 in
theorem dfind_any7 {w : World} {q m u : Nat} {st : Dq.St} {G : Nat → Prop} {D : DataW Nat} {P : ByteArray → Nat} {V : ByteArray → Value} (s : ByteArray) (h : DkU w q st G m D P V u) :
    Calls Try.prog 35 #[dptr q, .string s] w fun e w' => e = .returned (.tuple #[findP st P s, .int .i64 (Dq.err st s)]) ∧ Below w.heap.size w w' := by
  have HD : Hid (DkU w q st G m D P V u) := h
  have hmay := dmay_any7 s h
  clear h
  rcases Dq.err_cases st s with ⟨e, h1⟩ | ⟨e, h1, h2⟩ | ⟨e, h1, h2, h3⟩ | ⟨e, h1, h2, f, h3⟩
  · have em : may7 st s = 10 := by unfold may7; rw [h1]; rfl
    rw [em] at hmay
    have HM : Hid (Calls Try.prog 47 #[dptr q, .string s] w fun e w' => e = .returned (.int .i64 10) ∧ Below w.heap.size w w') := hmay
    have ep : findP st P s = .pointer none := by unfold findP; rw [e]; rfl
    rw [e, ep]
    clear hmay e h1 em ep
    go_enter Try.func35, Try.ntmps35
    go_wp2_with fail
    refine HM.out.mono ?_
    rintro e w' ⟨rfl, hb⟩
    have HB : Hid (Below w.heap.size w w') := hb
    clear hb
    go_wp2
    go_ret2
    exact ⟨rfl, HB.out⟩
  · have em : may7 st s = 1 := by unfold may7; rw [h1, h2]; rfl
    rw [em] at hmay
    have HM : Hid (Calls Try.prog 47 #[dptr q, .string s] w fun e w' => e = .returned (.int .i64 1) ∧ Below w.heap.size w w') := hmay
    have ep : findP st P s = .pointer none := by unfold findP; rw [e]; rfl
    rw [e, ep]
    clear hmay e h1 h2 em ep
    go_enter Try.func35, Try.ntmps35
    go_wp2_with fail
    refine HM.out.mono ?_
    rintro e w' ⟨rfl, hb⟩
    have HB : Hid (Below w.heap.size w w') := hb
    clear hb
    go_wp2
    go_ret2
    exact ⟨rfl, HB.out⟩
  · have em : may7 st s = 0 := by unfold may7; rw [h1, h2]; rfl
    rw [em] at hmay
    have HM : Hid (Calls Try.prog 47 #[dptr q, .string s] w fun e w' => e = .returned (.int .i64 0) ∧ Below w.heap.size w w') := hmay
    have ep : findP st P s = .pointer none := by unfold findP; rw [e]; rfl
    rw [e, ep]
    have HK : Hid (keyOf Try.prog 9 (.string s) = some (fkey s)) := key_of (may_len h2)
    have HN : Hid (Maps.has D (fkey s) = false) := by
      have h : Maps.has D (fkey s) = false := by
        cases hh : Maps.has D (fkey s) with
        | false => rfl
        | true =>
          obtain ⟨f, hf, e2⟩ := (HD.out.has _).1 hh
          exact absurd (fkey_inj e2).symm (Dq.get_none h3 f hf)
      exact h
    clear hmay e h1 h2 h3 em ep
    go_enter Try.func35, Try.ntmps35
    go_wp2_with fail
    refine HM.out.mono ?_
    rintro e w' ⟨rfl, hb⟩
    have HB : Hid (Below w.heap.size w w') := hb
    have HE : Hid (DkU w' q st G m D P V u) := HD.out.below hb
    have c0 : w'.cell? ⟨q, 0, none⟩ = some (.map (some m)) := HE.out.blk.cell 0
    clear hb
    go_wp2_with (at_lookup; refine wpList_lookup_own_ok _ rfl _ _ 44 rfl 9 61 keyed7 Try.underlying44 fElem (zeroPtr7 _) .nil [] rfl m st.fs.length D rfl HE.out.own (.string s) (fkey s) rfl HK.out ?_)
    intro v ps hv
    rw [Maps.atKey_of_not_has HN.out] at hv
    obtain rfl := fElem_nil hv
    rw [HN.out]
    clear hv c0
    go_wp2
    go_ret2
    exact ⟨rfl, HB.out⟩
  · have em : may7 st s = 0 := by unfold may7; rw [h1, h2]; rfl
    rw [em] at hmay
    have HM : Hid (Calls Try.prog 47 #[dptr q, .string s] w fun e w' => e = .returned (.int .i64 0) ∧ Below w.heap.size w w') := hmay
    have ep : findP st P s = fptr (P s) := by unfold findP; rw [e]; rfl
    rw [e, ep]
    have HK : Hid (keyOf Try.prog 9 (.string s) = some (fkey s)) := key_of (may_len h2)
    have HN : Hid (Maps.has D (fkey s) = true ∧ ∀ z, D.atKey (fkey s) z = .held (P s)) := by
      obtain ⟨hf, rfl⟩ := Dq.get_some h3
      exact ⟨(HD.out.has _).2 ⟨f, hf, rfl⟩, HD.out.at_ f hf⟩
    obtain ⟨p, hp⟩ : ∃ p, p = P s := ⟨_, rfl⟩
    rw [← hp] at HN ⊢
    clear hmay e h1 h2 h3 em ep hp
    go_enter Try.func35, Try.ntmps35
    go_wp2_with fail
    refine HM.out.mono ?_
    rintro e w' ⟨rfl, hb⟩
    have HB : Hid (Below w.heap.size w w') := hb
    have HE : Hid (DkU w' q st G m D P V u) := HD.out.below hb
    have c0 : w'.cell? ⟨q, 0, none⟩ = some (.map (some m)) := HE.out.blk.cell 0
    clear hb
    go_wp2_with (at_lookup; refine wpList_lookup_own_ok _ rfl _ _ 44 rfl 9 61 keyed7 Try.underlying44 fElem (zeroPtr7 _) .nil [] rfl m st.fs.length D rfl HE.out.own (.string s) (fkey s) rfl HK.out ?_)
    intro v ps hv
    rw [HN.out.2] at hv
    obtain rfl := fElem_held hv
    rw [HN.out.1]
    clear hv c0
    go_wp2
    go_ret2
    exact ⟨rfl, HB.out⟩

theorem bc_take (xs : List UInt8) (n : Nat) : bc (xs.take n) = (bc xs).take n := by simp [bc, List.map_take]

/-- The first n of a row. -/
theorem row_take {w : World} {B N n : Nat} {a : Option Addr} {c : Nat} {xs : List UInt8} (h : w.ownsRow B 5 1 (.slice a N c) xs.length (bc xs)) (hn : n ≤ xs.length) : w.ownsRow B 5 1 (.slice a n c) (xs.take n).length (bc (xs.take n)) := by
  have hl : (xs.take n).length = n := by rw [List.length_take]; omega
  rw [hl]
  refine ⟨by rw [bc_len, hl]; omega, ?_⟩
  rcases h.2 with ⟨e, h0⟩ | ⟨g, cap, cur, e, h1, h2, h3, h4, h5, h6⟩
  · simp only [Value.slice.injEq] at e
    obtain ⟨rfl, rfl, rfl⟩ := e
    exact Or.inl ⟨by rw [show n = 0 by omega], by omega⟩
  · simp only [Value.slice.injEq] at e
    obtain ⟨rfl, rfl, rfl⟩ := e
    refine Or.inr ⟨g, _, cur, rfl, h1, h2, by omega, h4, h5, ?_⟩
    rw [bc_take, ← h6, List.take_take]
    congr 1
    omega

set_option maxRecDepth 20000 in
set_option maxHeartbeats 2000000 in
/-- disk.first. -/
theorem first_any7 (v : Value) (xs : List UInt8) (n : Nat) (w : World) (ho : w.ownsRow 0 5 1 v xs.length (bc xs)) (hn : n ≤ xs.length) (hN : xs.length ≤ 100000000) :
    Calls Try.prog 46 #[v, .int .i64 (n : Int)] w fun e w' => ∃ v', e = .returned v' ∧ w'.ownsRow 0 5 1 v' (xs.take n).length (bc (xs.take n)) ∧ (∀ k, v'.ownBlock = some k → v.ownBlock = some k ∨ w.heap.size ≤ k) ∧ Below w.heap.size w w' := by
  obtain ⟨a, c, rfl, hc⟩ := row_slice ho
  have HO : Hid (w.ownsRow 0 5 1 (.slice a n c) (xs.take n).length (bc (xs.take n))) := row_take ho hn
  have HBK : Hid ((Value.slice a n c).ownBlock = (Value.slice a xs.length c).ownBlock) := by
    have h : (Value.slice a n c).ownBlock = (Value.slice a xs.length c).ownBlock := by cases a <;> rfl
    exact h
  have HC : Hid (Calls Try.prog 30 #[.slice a n c] w fun e w' => ∃ v', e = .returned v' ∧ w'.ownsRow w.heap.size 5 1 v' (xs.take n).length (bc (xs.take n)) ∧ Below w.heap.size w w') := clone_any7 _ (xs.take n) w (Bs.own HO.out) (by rw [List.length_take]; omega)
  have hcm : c ≤ 9223372036854775807 := by
    rcases ho.2 with ⟨e, _⟩ | ⟨g, cap, cur, e, _, _, _, h4, _⟩
    · simp only [Value.slice.injEq] at e; omega
    · simp only [Value.slice.injEq] at e; unfold maxLen at h4; omega
  clear ho
  obtain ⟨N, hNN⟩ : ∃ N, N = xs.length := ⟨_, rfl⟩
  rw [← hNN] at hn hN hc HBK ⊢
  clear hNN
  obtain ⟨ys, hys⟩ : ∃ ys, ys = xs.take n := ⟨_, rfl⟩
  rw [← hys] at HO HC ⊢
  clear hys
  obtain ⟨M, hM⟩ : ∃ M, M = ys.length := ⟨_, rfl⟩
  rw [← hM] at HO HC ⊢
  clear hM
  have n0 : (0 : Int) ≤ (n : Int) := by omega
  have n1 : (n : Int) ≤ (c : Int) := by omega
  by_cases h4 : (n : Int) ≤ (c : Int) / 4
  · go_enter Try.func46, Try.ntmps46
    go_wp2_with fail
    refine HC.out.mono ?_
    rintro e w' ⟨v', rfl, h1, h2⟩
    have HX : Hid (w'.ownsRow w.heap.size 5 1 v' M (bc ys) ∧ Below w.heap.size w w') := ⟨h1, h2⟩
    obtain ⟨a1, c1, rfl, _⟩ := row_slice h1
    clear h1 h2
    go_wp2
    go_ret
    exact ⟨_, rfl, HX.out.1.mono (Nat.zero_le _), fun k hk => Or.inr (HX.out.1.lt k hk).1, HX.out.2⟩
  · go_enter Try.func46, Try.ntmps46
    go_wp2
    go_ret
    exact ⟨_, rfl, HO.out, fun k hk => Or.inl (HBK.out ▸ hk), Below.refl _ _⟩
end Go.Proofs.Ytmbpkbdaakchiaa
