/- What the landed disk's Read, Cut and Drop answer. -/
import Derived.Test.YtmbpkbdaakchiaaWOps7
namespace Go.Proofs.Ytmbpkbdaakchiaa.Dq
theorem err_zero {st : St} {s : ByteArray} (h : err st s = 0) : st.off = false ∧ may s = true ∧ ∃ f, get s st.fs = some f := by
  rcases err_cases st s with ⟨e, _⟩ | ⟨e, _⟩ | ⟨e, _⟩ | ⟨_, h1, h2, h3⟩
  · rw [e] at h; cases h
  · rw [e] at h; cases h
  · rw [e] at h; cases h
  · exact ⟨h1, h2, h3⟩
end Go.Proofs.Ytmbpkbdaakchiaa.Dq
namespace Go.Proofs.Ytmbpkbdaakchiaa
open Go.RowKit

theorem Fine.size {st : Dq.St} (h : Fine st) : Dq.size st.fs ≤ 1048576 := Nat.le_trans h.1.fits h.1.room.2
theorem Moved.apart_new {w w' : World} {G : Nat → Prop} {v : Value} {n : Nat} {xs : List UInt8} (hl : ∀ k, G k → k < w.heap.size) (ho : w'.ownsRow w.heap.size 5 1 v n (bc xs)) : Apart G v xs := fun _ k hk hG => by
  have h1 := hl k hG
  have h2 := (ho.lt k hk).1
  omega

set_option maxRecDepth 20000 in
set_option maxHeartbeats 2000000 in
theorem read_any7 (q : Nat) (st : Dq.St) (F : Nat → Prop) (s : ByteArray) (w : World) (h : DkD w q st F) (hf : Fine st) :
    Calls Try.prog 22 #[dptr q, .string s] w fun e w' => ∃ F' v, e = .returned (.tuple #[v, .int .i64 (Dq.read st s).2]) ∧ Bs w' v (Dq.read st s).1 ∧ Apart F' v (Dq.read st s).1 ∧ DkD w' q st F' ∧ Moved w w' F F' := by
  obtain ⟨m, D, P, V, h⟩ := h
  have HD : Hid (DkU w q st F m D P V (Dq.size st.fs) ∧ Fine st) := ⟨h, hf⟩
  by_cases e0 : Dq.err st s = 0
  · obtain ⟨_, _, f, hg⟩ := Dq.err_zero e0
    have HX : Hid (Dq.read st s = (f.b, 0)) := by
      have h : Dq.read st s = (f.b, 0) := by unfold Dq.read; rw [if_pos e0, hg]; rfl
      exact h
    rw [HX.out]
    have HG : Hid (Dq.get s st.fs = some f) := hg
    have HC : Hid (Calls Try.prog 35 #[dptr q, .string s] w fun e w' => e = .returned (.tuple #[fptr (P s), .int .i64 0]) ∧ Below w.heap.size w w') := dfind_yes h e0
    obtain ⟨p, hp⟩ : ∃ p, p = P s := ⟨_, rfl⟩
    have HP : Hid (p = P s) := hp
    rw [← hp] at HC
    clear h hf e0 hg hp
    go_enter Try.func22, Try.ntmps22
    go_wp2_with fail
    refine HC.out.mono ?_
    rintro e w1 ⟨rfl, hb⟩
    have HB : Hid (Below w.heap.size w w1 ∧ DkU w1 q st F m D P V (Dq.size st.fs)) := ⟨hb, HD.out.1.below hb⟩
    obtain ⟨hf1, hf2, hfd⟩ := HB.out.2.found HG.out
    rw [← HP.out] at hfd
    have HCL : Hid (Calls Try.prog 30 #[V s] w1 fun e w' => ∃ v', e = .returned v' ∧ w'.ownsRow w1.heap.size 5 1 v' f.b.length (bc f.b) ∧ Below w1.heap.size w1 w') := clone_any7 (V s) f.b w1 (Bs.own hfd.row) (by have := Dq.size_mem hf1; have := HD.out.2.size; omega)
    obtain ⟨av, cv, hvs, hcv⟩ := row_slice hfd.row
    have p0 : w1.cell? ⟨p, 0, none⟩ = some (.slice av f.b.length cv) := by rw [← hvs]; exact hfd.blk.cell 0
    rw [hvs] at HCL
    clear hb hf1 hf2 hfd hvs
    obtain ⟨N, hN⟩ : ∃ N, N = f.b.length := ⟨_, rfl⟩
    rw [← hN] at p0 HCL
    clear hN
    go_wp2_with fail
    refine HCL.out.mono ?_
    rintro e w2 ⟨v', rfl, hrow, hb⟩
    have HX2 : Hid (w2.ownsRow w1.heap.size 5 1 v' N (bc f.b) ∧ Below w1.heap.size w1 w2) := ⟨hrow, hb⟩
    obtain ⟨a1, c1, rfl, _⟩ := row_slice hrow
    clear hrow hb
    go_wp2
    go_ret2
    have ho := HX2.out.1
    refine ⟨F, _, rfl, Bs.own ho, Moved.apart_new HB.out.2.glt ho, (HB.out.2.below HX2.out.2).toD rfl, (Moved.of_below F HB.out.1).trans (Moved.of_below F HX2.out.2)⟩
  · have HX : Hid (Dq.read st s = ([], Dq.err st s)) := by
      have h : Dq.read st s = ([], Dq.err st s) := by unfold Dq.read; rw [if_neg e0]
      exact h
    rw [HX.out]
    obtain ⟨z, hz⟩ : ∃ z, z = Dq.err st s := ⟨_, rfl⟩
    have HC : Hid (Calls Try.prog 35 #[dptr q, .string s] w fun e w' => e = .returned (.tuple #[.pointer none, .int .i64 z]) ∧ Below w.heap.size w w') := dfind_no h hz.symm (hz ▸ e0)
    rw [← hz] at e0 ⊢
    clear h hf hz
    go_enter Try.func22, Try.ntmps22
    go_wp2_with fail
    refine HC.out.mono ?_
    rintro e w1 ⟨rfl, hb⟩
    have HB : Hid (Below w.heap.size w w1 ∧ DkU w1 q st F m D P V (Dq.size st.fs)) := ⟨hb, HD.out.1.below hb⟩
    clear hb
    go_wp2
    go_ret2
    exact ⟨F, _, rfl, Bs.nil _, fun h0 => absurd h0 (by simp), HB.out.2.toD rfl, Moved.of_below F HB.out.1⟩

set_option maxRecDepth 20000 in
set_option maxHeartbeats 4000000 in
theorem cut_any7 (q : Nat) (st : Dq.St) (F : Nat → Prop) (s : ByteArray) (n : Int) (w : World) (h : DkD w q st F) (hf : Fine st) :
    Calls Try.prog 25 #[dptr q, .string s, .int .i64 n] w fun e w' => ∃ F', e = .returned (.int .i64 (Dq.cut st s n).1) ∧ DkD w' q (Dq.cut st s n).2 F' ∧ Moved w w' F F' := by
  obtain ⟨m, D, P, V, h⟩ := h
  have HD : Hid (DkU w q st F m D P V (Dq.size st.fs) ∧ Fine st) := ⟨h, hf⟩
  by_cases e0 : Dq.err st s = 0
  · obtain ⟨_, _, f, hg⟩ := Dq.err_zero e0
    have HG : Hid (Dq.get s st.fs = some f) := hg
    have HE : Hid (Dq.err st s = 0) := e0
    have HC : Hid (Calls Try.prog 35 #[dptr q, .string s] w fun e w' => e = .returned (.tuple #[fptr (P s), .int .i64 0]) ∧ Below w.heap.size w w') := dfind_yes h e0
    obtain ⟨p, hp⟩ : ∃ p, p = P s := ⟨_, rfl⟩
    have HP : Hid (p = P s) := hp
    rw [← hp] at HC
    have hb1 := Dq.size_mem (h.found hg).1
    have hb2 := hf.size
    have HL : Hid (f.b.length ≤ Dq.size st.fs ∧ Dq.size st.fs ≤ 1048576) := ⟨hb1, hb2⟩
    clear h hf e0 hg hp hb1 hb2
    by_cases n0 : n < 0
    · have HX : Hid (Dq.cut st s n = (1, st)) := by
        have h : Dq.cut st s n = (1, st) := by unfold Dq.cut; rw [if_pos HE.out, if_pos (Or.inl n0)]
        exact h
      rw [HX.out]
      go_enter Try.func25, Try.ntmps25
      go_wp2_with fail
      refine HC.out.mono ?_
      rintro e w1 ⟨rfl, hb⟩
      have HB : Hid (Below w.heap.size w w1 ∧ DkU w1 q st F m D P V (Dq.size st.fs)) := ⟨hb, HD.out.1.below hb⟩
      clear hb
      go_wp2
      go_ret
      exact ⟨F, rfl, HB.out.2.toD rfl, Moved.of_below F HB.out.1⟩
    obtain ⟨k, rfl⟩ : ∃ k : Nat, n = (k : Int) := ⟨n.toNat, by omega⟩
    by_cases n1 : (f.b.length : Int) < (k : Int)
    · have HX : Hid (Dq.cut st s (k : Int) = (1, st)) := by
        have h : Dq.cut st s (k : Int) = (1, st) := by unfold Dq.cut; rw [if_pos HE.out, HG.out]; simp only [Option.map_some, Option.getD_some]; rw [if_pos (Or.inr n1)]
        exact h
      rw [HX.out]
      go_enter Try.func25, Try.ntmps25
      go_wp2_with fail
      refine HC.out.mono ?_
      rintro e w1 ⟨rfl, hb⟩
      have HB : Hid (Below w.heap.size w w1 ∧ DkU w1 q st F m D P V (Dq.size st.fs)) := ⟨hb, HD.out.1.below hb⟩
      obtain ⟨hf1, hf2, hfd⟩ := HB.out.2.found HG.out
      rw [← HP.out] at hfd
      obtain ⟨av, cv, hvs, hcv⟩ := row_slice hfd.row
      have p0 : w1.cell? ⟨p, 0, none⟩ = some (.slice av f.b.length cv) := by rw [← hvs]; exact hfd.blk.cell 0
      clear hb hf1 hf2 hfd hvs
      go_wp2
      go_ret
      exact ⟨F, rfl, HB.out.2.toD rfl, Moved.of_below F HB.out.1⟩
    · have HX : Hid (Dq.cut st s (k : Int) = (0, { st with fs := Dq.upd s (fun f => { f with b := f.b.take k, safe := min f.safe k }) st.fs })) := by
        have h : Dq.cut st s (k : Int) = (0, { st with fs := Dq.upd s (fun f => { f with b := f.b.take k, safe := min f.safe k }) st.fs }) := by
          unfold Dq.cut; rw [if_pos HE.out, HG.out]; simp only [Option.map_some, Option.getD_some]; rw [if_neg (by omega)]; simp
        exact h
      rw [HX.out]
      go_enter Try.func25, Try.ntmps25
      go_wp2_with fail
      refine HC.out.mono ?_
      rintro e w1 ⟨rfl, hb⟩
      have HB : Hid (Below w.heap.size w w1 ∧ DkU w1 q st F m D P V (Dq.size st.fs)) := ⟨hb, HD.out.1.below hb⟩
      obtain ⟨hf1, hf2, hfd⟩ := HB.out.2.found HG.out
      rw [← HP.out] at hfd
      obtain ⟨av, cv, hvs, hcv⟩ := row_slice hfd.row
      have p0 : w1.cell? ⟨p, 0, none⟩ = some (.slice av f.b.length cv) := by rw [← hvs]; exact hfd.blk.cell 0
      have HSH : Hid (Calls Try.prog 33 #[dptr q, fptr p, .int .i64 (k : Int)] w1 fun e w' => e = .returned (.tuple #[]) ∧ ∃ F', DkD w' q { st with fs := Dq.upd s (fun f => { f with b := f.b.take k, safe := min f.safe k }) st.fs } F' ∧ Moved w1 w' F F') := by
        rw [HP.out]
        refine (shorten_any7 HB.out.2 HD.out.2.1.rises hf1 hf2 (n := k) (by omega) HL.out.1 (by have := HL.out.2; omega)).mono ?_
        rintro e w2 ⟨rfl, V', h1, h2, _⟩
        have hsz := Dq.size_upd (g := fun f => { f with b := f.b.take k, safe := min f.safe k }) HD.out.2.1.rises HG.out
        simp only [List.length_take] at hsz
        have := HL.out.1
        exact ⟨rfl, _, h1.toD (by simp only []; omega), h2⟩
      clear hb hf1 hf2 hfd hvs
      go_wp2_with fail
      refine HSH.out.mono ?_
      rintro e w2 ⟨rfl, F', h1, h2⟩
      have HFIN : Hid (DkD w2 q { st with fs := Dq.upd s (fun f => { f with b := f.b.take k, safe := min f.safe k }) st.fs } F' ∧ Moved w w2 F F') := ⟨h1, (Moved.of_below F HB.out.1).trans h2⟩
      clear h1 h2
      go_wp2
      go_ret
      exact ⟨F', rfl, HFIN.out⟩
  · have HX : Hid (Dq.cut st s n = (Dq.err st s, st)) := by
      have h : Dq.cut st s n = (Dq.err st s, st) := by unfold Dq.cut; rw [if_neg e0]
      exact h
    rw [HX.out]
    obtain ⟨z, hz⟩ : ∃ z, z = Dq.err st s := ⟨_, rfl⟩
    have HC : Hid (Calls Try.prog 35 #[dptr q, .string s] w fun e w' => e = .returned (.tuple #[.pointer none, .int .i64 z]) ∧ Below w.heap.size w w') := dfind_no h hz.symm (hz ▸ e0)
    rw [← hz] at e0 ⊢
    clear h hf hz
    go_enter Try.func25, Try.ntmps25
    go_wp2_with fail
    refine HC.out.mono ?_
    rintro e w1 ⟨rfl, hb⟩
    have HB : Hid (Below w.heap.size w w1 ∧ DkU w1 q st F m D P V (Dq.size st.fs)) := ⟨hb, HD.out.1.below hb⟩
    clear hb
    go_wp2
    go_ret
    exact ⟨F, rfl, HB.out.2.toD rfl, Moved.of_below F HB.out.1⟩

set_option maxRecDepth 20000 in
set_option maxHeartbeats 4000000 in
theorem dropU_any7 {w : World} {q m : Nat} {st : Dq.St} {F : Nat → Prop} {D : DataW Nat} {P : ByteArray → Nat} {V : ByteArray → Value} (s : ByteArray) (h : DkU w q st F m D P V (Dq.size st.fs)) (hf : Fine st) :
    Calls Try.prog 43 #[dptr q, .string s] w fun e w' => ∃ F' D' V', e = .returned (.int .i64 (Dq.drop st s).1) ∧ DkU w' q (Dq.drop st s).2 F' m D' P V' (Dq.size (Dq.drop st s).2.fs) ∧ Moved w w' F F' := by
  have HD : Hid (DkU w q st F m D P V (Dq.size st.fs) ∧ Fine st) := ⟨h, hf⟩
  by_cases e0 : Dq.err st s = 0
  · obtain ⟨_, hms, f, hg⟩ := Dq.err_zero e0
    have HG : Hid (Dq.get s st.fs = some f) := hg
    have HK : Hid (keyOf Try.prog 9 (.string s) = some (fkey s)) := key_of (may_len hms)
    have HX : Hid (Dq.drop st s = (0, { st with fs := Dq.del s st.fs })) := by
      have h : Dq.drop st s = (0, { st with fs := Dq.del s st.fs }) := by unfold Dq.drop; rw [if_pos e0]
      exact h
    rw [HX.out]
    have HC : Hid (Calls Try.prog 35 #[dptr q, .string s] w fun e w' => e = .returned (.tuple #[fptr (P s), .int .i64 0]) ∧ Below w.heap.size w w') := dfind_yes h e0
    obtain ⟨p, hp⟩ : ∃ p, p = P s := ⟨_, rfl⟩
    have HP : Hid (p = P s) := hp
    rw [← hp] at HC
    have hb1 := Dq.size_mem (h.found hg).1
    have hb2 := hf.size
    have HL : Hid (f.b.length ≤ Dq.size st.fs ∧ Dq.size st.fs ≤ 1048576) := ⟨hb1, hb2⟩
    clear h hf e0 hg hp hb1 hb2 hms
    go_enter Try.func43, Try.ntmps43
    go_wp2_with fail
    refine HC.out.mono ?_
    rintro e w1 ⟨rfl, hb⟩
    have HB : Hid (Below w.heap.size w w1 ∧ DkU w1 q st F m D P V (Dq.size st.fs)) := ⟨hb, HD.out.1.below hb⟩
    obtain ⟨hf1, hf2, hfd⟩ := HB.out.2.found HG.out
    have HSH : Hid (Calls Try.prog 33 #[dptr q, fptr p, .int .i64 0] w1 fun e w' => e = .returned (.tuple #[]) ∧ ∃ F' V', DkU w' q { st with fs := Dq.upd s (fun f => { f with b := f.b.take 0, safe := min f.safe 0 }) st.fs } F' m D P V' (Dq.size (Dq.del s st.fs)) ∧ Moved w1 w' F F') := by
      rw [HP.out]
      refine (shorten_any7 HB.out.2 HD.out.2.1.rises hf1 hf2 (n := 0) (by omega) HL.out.1 (by have := HL.out.2; omega)).mono ?_
      rintro e w2 ⟨rfl, V', h1, h2, _⟩
      have hsz := (Dq.size_del_eq HD.out.2.1.rises hf1 hf2).1
      have e : Dq.size st.fs - (f.b.length - 0) = Dq.size (Dq.del s st.fs) := by omega
      rw [e] at h1
      exact ⟨rfl, _, _, h1, h2⟩
    clear hb hf1 hf2 hfd
    go_wp2_with fail
    refine HSH.out.mono ?_
    rintro e w2 ⟨rfl, F2, V2, h1, h2⟩
    have HU : Hid (DkU w2 q { st with fs := Dq.upd s (fun f => { f with b := f.b.take 0, safe := min f.safe 0 }) st.fs } F2 m D P V2 (Dq.size (Dq.del s st.fs)) ∧ Moved w w2 F F2) := ⟨h1, (Moved.of_below F HB.out.1).trans h2⟩
    have c0 : w2.cell? ⟨q, 0, none⟩ = some (.map (some m)) := h1.blk.cell 0
    clear h1 h2
    go_wp2_with (at_delete; refine wpList_delete_own _ rfl _ _ 44 9 rfl 61 keyed7 Try.underlying44 fElem m _ D rfl HU.out.1.own (.string s) (fkey s) rfl HK.out ?_)
    intro w3 hown hturn
    have HFIN : Hid (DkU w3 q { st with fs := Dq.del s st.fs } F2 m (D.del (fkey s)) P V2 (Dq.size (Dq.del s st.fs)) ∧ Moved w w3 F F2) := by
      obtain ⟨hf1, hf2⟩ := Dq.get_some HG.out
      have hr : Dq.Rises (Dq.upd s (fun f => { f with b := f.b.take 0, safe := min f.safe 0 }) st.fs) := Dq.rises_upd (fun _ => rfl) HD.out.2.1.rises
      obtain ⟨k1, k2, _⟩ := HU.out.1.gone hr (Dq.upd_mem hf1 hf2) hf2 hown hturn
      simp only [] at k1
      rw [Dq.del_upd s (fun f => { f with b := f.b.take 0, safe := min f.safe 0 }) (fun _ => rfl)] at k1
      exact ⟨k1, HU.out.2.trans k2⟩
    clear hown hturn c0
    go_wp2
    go_ret
    exact ⟨_, _, _, rfl, HFIN.out⟩
  · have HX : Hid (Dq.drop st s = (Dq.err st s, st)) := by
      have h : Dq.drop st s = (Dq.err st s, st) := by unfold Dq.drop; rw [if_neg e0]
      exact h
    rw [HX.out]
    obtain ⟨z, hz⟩ : ∃ z, z = Dq.err st s := ⟨_, rfl⟩
    have HC : Hid (Calls Try.prog 35 #[dptr q, .string s] w fun e w' => e = .returned (.tuple #[.pointer none, .int .i64 z]) ∧ Below w.heap.size w w') := dfind_no h hz.symm (hz ▸ e0)
    rw [← hz] at e0 ⊢
    clear h hf hz
    go_enter Try.func43, Try.ntmps43
    go_wp2_with fail
    refine HC.out.mono ?_
    rintro e w1 ⟨rfl, hb⟩
    have HB : Hid (Below w.heap.size w w1 ∧ DkU w1 q st F m D P V (Dq.size st.fs)) := ⟨hb, HD.out.1.below hb⟩
    clear hb
    go_wp2
    go_ret
    exact ⟨F, _, _, rfl, HB.out.2, Moved.of_below F HB.out.1⟩

theorem drop_any7 (q : Nat) (st : Dq.St) (F : Nat → Prop) (s : ByteArray) (w : World) (h : DkD w q st F) (hf : Fine st) :
    Calls Try.prog 43 #[dptr q, .string s] w fun e w' => ∃ F', e = .returned (.int .i64 (Dq.drop st s).1) ∧ DkD w' q (Dq.drop st s).2 F' ∧ Moved w w' F F' := by
  obtain ⟨m, D, P, V, h⟩ := h
  refine (dropU_any7 s h hf).mono ?_
  rintro e w' ⟨F', D', V', rfl, h1, h2⟩
  exact ⟨F', rfl, ⟨m, D', P, V', h1⟩, h2⟩
end Go.Proofs.Ytmbpkbdaakchiaa
