/- What the reference's Sync, Drop and Read answer. -/
import Derived.Test.YtphmmdjefpfehaaRPut7
namespace Go.Proofs.Ytphmmdjefpfehaa
open Go.RowKit

/-- The file that a name means, and where it lies. -/
structure Picked (w : World) (q : Nat) (st : Dq.St) (G : Nat → Prop) (ps : List (Dq.Fl × Value)) (s : ByteArray) (f : Dq.Fl) (i g n cap nb cb : Nat) (ab : Option Addr) : Prop where
  at_ : Dq.at_ s st.fs = (i : Int)
  p : ps[i]? = some (f, .slice ab nb cb)
  enb : nb = f.b.length
  en : n = ps.length
  lt : i < n
  ecap : n ≤ cap
  name : f.name = s
  upd : ∀ h : Dq.Fl → Dq.Fl, Dq.upd s h st.fs = st.fs.set i (h f)
  del : Dq.del s st.fs = st.fs.take i ++ st.fs.drop (i + 1)
  bs : Bs w (.slice ab nb cb) f.b
  own : w.ownsRow (q + 1) 5 1 (.slice ab nb cb) f.b.length (bc f.b)
  f0 : w.cell? ⟨g, i * 3, none⟩ = some (.string f.name)
  f1 : w.cell? ⟨g, i * 3 + 1, none⟩ = some (.slice ab nb cb)
  f2 : w.cell? ⟨g, i * 3 + 2, none⟩ = some (.int .i64 (f.safe : Int))
  fz : ∀ j : Nat, w.frozen? ⟨g, j, none⟩ = false
  gl : g < w.heap.size
  le : n ≤ 1001

theorem RefC.pick {w : World} {q : Nat} {st : Dq.St} {G : Nat → Prop} {v : Value} {ps : List (Dq.Fl × Value)} {s : ByteArray} {f : Dq.Fl} (h : RefC w q st G v ps) (hr : Dq.Rises st.fs) (hl : st.fs.length ≤ 1001) (hg : Dq.get s st.fs = some f) : ∃ i g n cap nb cb ab, v = .slice (some ⟨g, 0, none⟩) n cap ∧ Picked w q st G ps s f i g n cap nb cb ab := by
  obtain ⟨i, h1, h2, h3⟩ := Dq.at_some hg
  obtain ⟨bv, hp⟩ := h.fileOf h3
  obtain ⟨g, cap, hv, hcap, _, hgl, f0, f1, f2, fz⟩ := h.fo.cell hp
  have ho := h.fo.bytes _ (List.mem_of_getElem? hp)
  obtain ⟨ab, nb, cb, hbv, hnb, _⟩ := Bs.own ho
  simp only [] at hbv f0 f1 f2 ho
  subst hbv
  have hn := (Dq.get_some hg).2
  exact ⟨i, g, ps.length, cap, nb, cb, ab, hv, h1, hp, hnb, rfl, (List.getElem?_eq_some_iff.1 hp).1, hcap, hn, fun k => Dq.upd_set hr h3 hn, Dq.del_at hr h3 hn, Bs.own ho, ho, f0, f1, f2, fz, hgl, by rw [h.len]; exact hl⟩

theorem Picked.below {w w' : World} {q : Nat} {st : Dq.St} {G : Nat → Prop} {ps : List (Dq.Fl × Value)} {s : ByteArray} {f : Dq.Fl} {i g n cap nb cb : Nat} {ab : Option Addr} (h : Picked w q st G ps s f i g n cap nb cb ab) (hb : Below w.heap.size w w') : Picked w' q st G ps s f i g n cap nb cb ab :=
  ⟨h.at_, h.p, h.enb, h.en, h.lt, h.ecap, h.name, h.upd, h.del, h.bs.below hb, h.own.kept (grownBy_below (row := some w.heap.size) hb) (Or.inr fun e => by have := (h.own.lt _ e).2; omega), Below.kept hb h.f0, Below.kept hb h.f1, Below.kept hb h.f2, fun j => (World.frozen?_of_block (hb.block g h.gl)).trans (h.fz j), Nat.lt_of_lt_of_le h.gl hb.size, h.le⟩

theorem Picked.set {w : World} {q : Nat} {st : Dq.St} {G : Nat → Prop} {v : Value} {ps : List (Dq.Fl × Value)} {s : ByteArray} {f : Dq.Fl} {i g n cap nb cb : Nat} {ab : Option Addr} (h : Picked w q st G ps s f i g n cap nb cb ab) (hR : RefC w q st G v ps) (k : Dq.Fl → Dq.Fl) (u : Value) : (ps.set i (k f, u)).map (·.1) = Dq.upd s k st.fs := by
  rw [h.upd, ← hR.fs, List.map_set]


set_option maxRecDepth 20000 in
set_option maxHeartbeats 4000000 in
theorem refSync_any (q : Nat) (st : Dq.St) (G : Nat → Prop) (v : Value) (ps : List (Dq.Fl × Value)) (s : ByteArray) (w : World) (hR : RefC w q st G v ps) (hf : Fine st) (hs : s.size ≤ 9223372036854775807) :
    Calls Try.prog 22 #[dptr q, .string s] w fun e w' => e = .returned (.int .i64 (Dq.sync st s).1) ∧ RefPost w q (Dq.sync st s).2 G w' := by
  have HR : Hid (RefC w q st G v ps ∧ Fine st) := ⟨hR, hf⟩
  rcases Dq.err_cases st s with ⟨e, h1⟩ | ⟨e, h1, h2⟩ | ⟨e, h1, h2, h3⟩ | ⟨e, h1, h2, f, h3⟩
  · have HZ : Hid (askZ st s = -1 ∧ Dq.err st s = 10) := ⟨by unfold askZ; rw [e]; rfl, e⟩
    have HX : Hid (Dq.sync st s = (10, st)) := by
      have h : Dq.sync st s = (10, st) := by unfold Dq.sync; rw [e]; rfl
      exact h
    rw [HX.out]
    clear hR hf e h1
    go_enter Try.func22, Try.ntmps22
    go_wp2_with fail
    refine (ask_any q st G _ ps s _ HR.out.1 (by have := HR.out.2.2.1; omega) hs).mono ?_
    rintro e w1 ⟨rfl, hw⟩
    rw [hw, HZ.out.1, HZ.out.2]
    clear hw
    go_wp2
    go_ret
    exact ⟨rfl, _, _, _, HR.out.1, Moved.refl _ _⟩
  · have HZ : Hid (askZ st s = -1 ∧ Dq.err st s = 1) := ⟨by unfold askZ; rw [e]; rfl, e⟩
    have HX : Hid (Dq.sync st s = (1, st)) := by
      have h : Dq.sync st s = (1, st) := by unfold Dq.sync; rw [e]; rfl
      exact h
    rw [HX.out]
    clear hR hf e h1 h2
    go_enter Try.func22, Try.ntmps22
    go_wp2_with fail
    refine (ask_any q st G _ ps s _ HR.out.1 (by have := HR.out.2.2.1; omega) hs).mono ?_
    rintro e w1 ⟨rfl, hw⟩
    rw [hw, HZ.out.1, HZ.out.2]
    clear hw
    go_wp2
    go_ret
    exact ⟨rfl, _, _, _, HR.out.1, Moved.refl _ _⟩
  · have HZ : Hid (askZ st s = -1 ∧ Dq.err st s = 4) := ⟨by unfold askZ; rw [e]; rfl, e⟩
    have HX : Hid (Dq.sync st s = (4, st)) := by
      have h : Dq.sync st s = (4, st) := by unfold Dq.sync; rw [e]; rfl
      exact h
    rw [HX.out]
    clear hR hf e h1 h2 h3
    go_enter Try.func22, Try.ntmps22
    go_wp2_with fail
    refine (ask_any q st G _ ps s _ HR.out.1 (by have := HR.out.2.2.1; omega) hs).mono ?_
    rintro e w1 ⟨rfl, hw⟩
    rw [hw, HZ.out.1, HZ.out.2]
    clear hw
    go_wp2
    go_ret
    exact ⟨rfl, _, _, _, HR.out.1, Moved.refl _ _⟩
  · obtain ⟨i, g, n, cap, nb, cb, ab, rfl, hpk⟩ := hR.pick hf.1.rises (by have := hf.2.1; omega) h3
    have HK : Hid (Picked w q st G ps s f i g n cap nb cb ab) := hpk
    have HZ : Hid (askZ st s = (i : Int) ∧ Dq.err st s = 0) := ⟨by unfold askZ; rw [e, if_pos rfl]; exact hpk.at_, e⟩
    have HX : Hid (Dq.sync st s = (0, { st with fs := Dq.upd s (fun f => { f with safe := f.b.length }) st.fs })) := by
      have h : Dq.sync st s = (0, { st with fs := Dq.upd s (fun f => { f with safe := f.b.length }) st.fs }) := by unfold Dq.sync; rw [e, if_pos rfl]
      exact h
    rw [HX.out]
    clear hR hf e h1 h2 h3 hpk
    have hi1 : (0 : Int) ≤ (i : Int) := by omega
    have hi2 : (i : Int) < (n : Int) := by have := HK.out.lt; omega
    go_enter Try.func22, Try.ntmps22
    go_wp2_with fail
    refine (ask_any q st G _ ps s _ HR.out.1 (by have := HR.out.2.2.1; omega) hs).mono ?_
    rintro e w1 ⟨rfl, hw⟩
    rw [hw, HZ.out.1, HZ.out.2]
    clear hw
    go_wp2_with fail
    refine wp_region_T (fun w' => w'.cell? ⟨q, 1, none⟩ = some (.slice (some ⟨g, 0, none⟩) n cap) ∧ w'.cell? ⟨g, i * 3 + 1, none⟩ = some (.slice ab nb cb)) 16 (by kernel_rfl) ?_
    have HRX : Hid (RefC w.drew q st G (.slice (some ⟨g, 0, none⟩) n cap) ps) := HR.out.1.drew
    have HKX : Hid (Picked w.drew q st G ps s f i g n cap nb cb ab) := HK.out.below (Below.refl _ _).drew
    have HMX : Hid (Moved w w.drew G G) := Moved.of_below G (Below.refl _ _).drew
    generalize w.drew = wX at *
    have HSX : Hid (wX.cell? ⟨q, 1, none⟩ = some (.slice (some ⟨g, 0, none⟩) n cap) ∧ wX.cell? ⟨g, i * 3 + 1, none⟩ = some (.slice ab nb cb)) := ⟨HRX.out.c1, HKX.out.f1⟩
    refine' take_T (i := 0) (d := 15) (v := _) rfl rfl (by kernel_rfl) (by kernel_rfl) (by kernel_rfl) (by kernel_rfl) (by kernel_rfl) (fun _ _ _ h => h) (Or.inl ⟨by rfl, ?h0⟩) HSX.out ?_
    case h0 => intro w hSw; go_simp; with_reducible rfl
    simp only [List.setIfInBounds_toArray, List.set_cons_zero, List.set_cons_succ]
    refine' take_T (i := 1) (d := 16) (v := _) rfl rfl (by kernel_rfl) (by kernel_rfl) (by kernel_rfl) (by kernel_rfl) (by kernel_rfl) (fun _ _ _ h => h) (Or.inl ⟨by rfl, ?h1⟩) HSX.out ?_
    case h1 => intro w hSw; go_simp; with_reducible rfl
    simp only [List.setIfInBounds_toArray, List.set_cons_zero, List.set_cons_succ]
    refine' take_T (i := 2) (d := 17) (v := _) rfl rfl (by kernel_rfl) (by kernel_rfl) (by kernel_rfl) (by kernel_rfl) (by kernel_rfl) (fun _ _ _ h => h) (Or.inl ⟨by rfl, ?h2⟩) HSX.out ?_
    case h2 => intro w hSw; go_simp; with_reducible rfl
    simp only [List.setIfInBounds_toArray, List.set_cons_zero, List.set_cons_succ]
    refine' take_T (i := 3) (d := 18) (v := _) rfl rfl (by kernel_rfl) (by kernel_rfl) (by kernel_rfl) (by kernel_rfl) (by kernel_rfl) (fun _ _ _ h => h) (Or.inl ⟨by rfl, ?h3⟩) HSX.out ?_
    case h3 => intro w hSw; obtain ⟨hs1, hs2⟩ := hSw; go_simp; with_reducible rfl
    simp only [List.setIfInBounds_toArray, List.set_cons_zero, List.set_cons_succ]
    refine' take_T (i := 4) (d := 19) (v := _) rfl rfl (by kernel_rfl) (by kernel_rfl) (by kernel_rfl) (by kernel_rfl) (by kernel_rfl) (fun _ _ _ h => h) (Or.inl ⟨by rfl, ?h4⟩) HSX.out ?_
    case h4 => intro w hSw; go_simp; with_reducible rfl
    simp only [List.setIfInBounds_toArray, List.set_cons_zero, List.set_cons_succ]
    refine' take_T (i := 5) (d := 20) (v := _) rfl rfl (by kernel_rfl) (by kernel_rfl) (by kernel_rfl) (by kernel_rfl) (by kernel_rfl) (fun _ _ _ h => h) (Or.inl ⟨by rfl, ?h5⟩) HSX.out ?_
    case h5 => intro w hSw; go_simp; with_reducible rfl
    simp only [List.setIfInBounds_toArray, List.set_cons_zero, List.set_cons_succ]
    refine' take_T (i := 6) (d := 21) (v := _) rfl rfl (by kernel_rfl) (by kernel_rfl) (by kernel_rfl) (by kernel_rfl) (by kernel_rfl) (fun _ _ _ h => h) (Or.inl ⟨by rfl, ?h6⟩) HSX.out ?_
    case h6 => intro w hSw; go_simp; with_reducible rfl
    simp only [List.setIfInBounds_toArray, List.set_cons_zero, List.set_cons_succ]
    refine' take_T (i := 7) (d := 22) (v := _) rfl rfl (by kernel_rfl) (by kernel_rfl) (by kernel_rfl) (by kernel_rfl) (by kernel_rfl) (fun _ _ _ h => h) (Or.inl ⟨by rfl, ?h7⟩) HSX.out ?_
    case h7 => intro w hSw; go_simp; with_reducible rfl
    simp only [List.setIfInBounds_toArray, List.set_cons_zero, List.set_cons_succ]
    refine' take_T (i := 8) (d := 23) (v := _) rfl rfl (by kernel_rfl) (by kernel_rfl) (by kernel_rfl) (by kernel_rfl) (by kernel_rfl) (fun _ _ _ h => h) (Or.inl ⟨by rfl, ?h8⟩) HSX.out ?_
    case h8 => intro w hSw; obtain ⟨hs1, hs2⟩ := hSw; go_simp; with_reducible rfl
    simp only [List.setIfInBounds_toArray, List.set_cons_zero, List.set_cons_succ]
    refine' take_T (i := 9) (d := 24) (v := _) rfl rfl (by kernel_rfl) (by kernel_rfl) (by kernel_rfl) (by kernel_rfl) (by kernel_rfl) (fun _ _ _ h => h) (Or.inl ⟨by rfl, ?h9⟩) HSX.out ?_
    case h9 => intro w hSw; go_simp; with_reducible rfl
    simp only [List.setIfInBounds_toArray, List.set_cons_zero, List.set_cons_succ]
    refine' take_T (i := 10) (d := 25) (v := _) rfl rfl (by kernel_rfl) (by kernel_rfl) (by kernel_rfl) (by kernel_rfl) (by kernel_rfl) (fun _ _ _ h => h) (Or.inl ⟨by rfl, ?h10⟩) HSX.out ?_
    case h10 => intro w hSw; go_simp; with_reducible rfl
    simp only [List.setIfInBounds_toArray, List.set_cons_zero, List.set_cons_succ]
    refine' take_T (i := 11) (d := 26) (v := _) rfl rfl (by kernel_rfl) (by kernel_rfl) (by kernel_rfl) (by kernel_rfl) (by kernel_rfl) (fun _ _ _ h => h) (Or.inl ⟨by rfl, ?h11⟩) HSX.out ?_
    case h11 => intro w hSw; go_simp; with_reducible rfl
    simp only [List.setIfInBounds_toArray, List.set_cons_zero, List.set_cons_succ]
    refine' take_T (i := 12) (d := 27) (v := _) rfl rfl (by kernel_rfl) (by kernel_rfl) (by kernel_rfl) (by kernel_rfl) (by kernel_rfl) (fun _ _ _ h => h) (Or.inl ⟨by rfl, ?h12⟩) HSX.out ?_
    case h12 => intro w hSw; obtain ⟨hs1, hs2⟩ := hSw; go_simp; with_reducible rfl
    simp only [List.setIfInBounds_toArray, List.set_cons_zero, List.set_cons_succ]
    refine' take_T (i := 13) (d := 28) (v := _) rfl rfl (by kernel_rfl) (by kernel_rfl) (by kernel_rfl) (by kernel_rfl) (by kernel_rfl) (fun _ _ _ h => h) (Or.inl ⟨by rfl, ?h13⟩) HSX.out ?_
    case h13 => intro w hSw; go_simp; with_reducible rfl
    simp only [List.setIfInBounds_toArray, List.set_cons_zero, List.set_cons_succ]
    refine' take_T (i := 14) (d := 29) (v := _) rfl rfl (by kernel_rfl) (by kernel_rfl) (by kernel_rfl) (by kernel_rfl) (by kernel_rfl) (fun _ _ _ h => h) (Or.inl ⟨by rfl, ?h14⟩) HSX.out ?_
    case h14 => intro w hSw; go_simp; with_reducible rfl
    simp only [List.setIfInBounds_toArray, List.set_cons_zero, List.set_cons_succ]
    refine' take_T (i := 15) (d := 30) (v := _) rfl rfl (by kernel_rfl) (by kernel_rfl) (by kernel_rfl) (by kernel_rfl) (by kernel_rfl) (fun _ _ _ h => h) (Or.inl ⟨by rfl, ?h15⟩) HSX.out ?_
    case h15 => intro w hSw; go_simp; with_reducible rfl
    simp only [List.setIfInBounds_toArray, List.set_cons_zero, List.set_cons_succ]
    refine wpAnyT_ready (rs := [16]) (by kernel_rfl) (by simp) ?_
    refine AllReadyT.cons (o := _) rfl (fun K hK => ?_) AllReadyT.nil
    have hc := HKX.out.f2
    have hz := HKX.out.fz (i * 3 + 2)
    have HFIN : Hid (RefPost w q { st with fs := Dq.upd s (fun f => { f with safe := f.b.length }) st.fs } G (wX.setCell ⟨g, i * 3 + 2, none⟩ (.int .i64 (nb : Int)))) := by
      obtain ⟨h1, h2⟩ := HRX.out.put (p' := ({ f with safe := f.b.length }, .slice ab nb cb)) (j := 2) (u := .int .i64 (nb : Int)) HKX.out.en HKX.out.p (Below.refl _ _) (by decide) (by rw [HKX.out.enb]; rfl) HKX.out.own (fun k hk => Or.inl (HRX.out.gb _ (List.mem_of_getElem? HKX.out.p) k hk))
      exact ⟨_, _, _, h1.as (by rw [HKX.out.set HRX.out (fun f => { f with safe := f.b.length })]), HMX.out.trans h2⟩
    go_simp
    clear hc hz
    refine hK.out _ _ (fun h => absurd rfl h) ?_
    clear hK K
    refine wpAnyT_done (by kernel_rfl) ?_ _
    generalize wX.setCell ⟨g, i * 3 + 2, none⟩ (.int .i64 (nb : Int)) = wz at *
    go_wp2
    go_ret
    exact ⟨rfl, HFIN.out⟩

set_option maxRecDepth 20000 in
set_option maxHeartbeats 4000000 in
theorem refDrop_any (q : Nat) (st : Dq.St) (G : Nat → Prop) (v : Value) (ps : List (Dq.Fl × Value)) (s : ByteArray) (w : World) (hR : RefC w q st G v ps) (hf : Fine st) (hs : s.size ≤ 9223372036854775807) :
    Calls Try.prog 25 #[dptr q, .string s] w fun e w' => e = .returned (.int .i64 (Dq.drop st s).1) ∧ RefPost w q (Dq.drop st s).2 G w' := by
  have HR : Hid (RefC w q st G v ps ∧ Fine st) := ⟨hR, hf⟩
  rcases Dq.err_cases st s with ⟨e, h1⟩ | ⟨e, h1, h2⟩ | ⟨e, h1, h2, h3⟩ | ⟨e, h1, h2, f, h3⟩
  · have HZ : Hid (askZ st s = -1 ∧ Dq.err st s = 10) := ⟨by unfold askZ; rw [e]; rfl, e⟩
    have HX : Hid (Dq.drop st s = (10, st)) := by
      have h : Dq.drop st s = (10, st) := by unfold Dq.drop; rw [e]; rfl
      exact h
    rw [HX.out]
    clear hR hf e h1
    go_enter Try.func25, Try.ntmps25
    go_wp2_with fail
    refine (ask_any q st G _ ps s _ HR.out.1 (by have := HR.out.2.2.1; omega) hs).mono ?_
    rintro e w1 ⟨rfl, hw⟩
    rw [hw, HZ.out.1, HZ.out.2]
    clear hw
    go_wp2
    go_ret
    exact ⟨rfl, _, _, _, HR.out.1, Moved.refl _ _⟩
  · have HZ : Hid (askZ st s = -1 ∧ Dq.err st s = 1) := ⟨by unfold askZ; rw [e]; rfl, e⟩
    have HX : Hid (Dq.drop st s = (1, st)) := by
      have h : Dq.drop st s = (1, st) := by unfold Dq.drop; rw [e]; rfl
      exact h
    rw [HX.out]
    clear hR hf e h1 h2
    go_enter Try.func25, Try.ntmps25
    go_wp2_with fail
    refine (ask_any q st G _ ps s _ HR.out.1 (by have := HR.out.2.2.1; omega) hs).mono ?_
    rintro e w1 ⟨rfl, hw⟩
    rw [hw, HZ.out.1, HZ.out.2]
    clear hw
    go_wp2
    go_ret
    exact ⟨rfl, _, _, _, HR.out.1, Moved.refl _ _⟩
  · have HZ : Hid (askZ st s = -1 ∧ Dq.err st s = 4) := ⟨by unfold askZ; rw [e]; rfl, e⟩
    have HX : Hid (Dq.drop st s = (4, st)) := by
      have h : Dq.drop st s = (4, st) := by unfold Dq.drop; rw [e]; rfl
      exact h
    rw [HX.out]
    clear hR hf e h1 h2 h3
    go_enter Try.func25, Try.ntmps25
    go_wp2_with fail
    refine (ask_any q st G _ ps s _ HR.out.1 (by have := HR.out.2.2.1; omega) hs).mono ?_
    rintro e w1 ⟨rfl, hw⟩
    rw [hw, HZ.out.1, HZ.out.2]
    clear hw
    go_wp2
    go_ret
    exact ⟨rfl, _, _, _, HR.out.1, Moved.refl _ _⟩
  · obtain ⟨i, g, n, cap, nb, cb, ab, rfl, hpk⟩ := hR.pick hf.1.rises (by have := hf.2.1; omega) h3
    have HK : Hid (Picked w q st G ps s f i g n cap nb cb ab) := hpk
    have HZ : Hid (askZ st s = (i : Int) ∧ Dq.err st s = 0) := ⟨by unfold askZ; rw [e, if_pos rfl]; exact hpk.at_, e⟩
    have HX : Hid (Dq.drop st s = (0, { st with fs := Dq.del s st.fs })) := by
      have h : Dq.drop st s = (0, { st with fs := Dq.del s st.fs }) := by unfold Dq.drop; rw [e, if_pos rfl]
      exact h
    rw [HX.out]
    clear hR hf e h1 h2 h3 hpk
    go_enter Try.func25, Try.ntmps25
    go_wp2_with fail
    refine (ask_any q st G _ ps s _ HR.out.1 (by have := HR.out.2.2.1; omega) hs).mono ?_
    rintro e w1 ⟨rfl, hw⟩
    rw [hw, HZ.out.1, HZ.out.2]
    clear hw
    go_wp2_with fail
    refine (remove_any q i st G _ ps _ HR.out.1 (by rw [← HK.out.en]; exact HK.out.lt) (by have := HR.out.2.2.1; omega)).mono ?_
    rintro e w2 ⟨G', v', rfl, hr, hm, _⟩
    have HFIN : Hid (RefPost w q { st with fs := Dq.del s st.fs } G w2) := ⟨_, _, _, hr.as (by rw [HK.out.del, ← HR.out.1.fs]; simp [List.map_take, List.map_drop]), hm⟩
    clear hr hm
    go_wp2
    go_ret
    exact ⟨rfl, HFIN.out⟩

set_option maxRecDepth 20000 in
set_option maxHeartbeats 4000000 in
theorem refRead_any (q : Nat) (st : Dq.St) (G : Nat → Prop) (v : Value) (ps : List (Dq.Fl × Value)) (s : ByteArray) (w : World) (hR : RefC w q st G v ps) (hf : Fine st) (hs : s.size ≤ 9223372036854775807) :
    Calls Try.prog 44 #[dptr q, .string s] w fun e w' => ∃ bv, e = .returned (.tuple #[bv, .int .i64 (Dq.read st s).2]) ∧ Bs w' bv (Dq.read st s).1 ∧ w' = w ∧ ∀ k, bv.ownBlock = some k → G k := by
  have HR : Hid (RefC w q st G v ps ∧ Fine st) := ⟨hR, hf⟩
  rcases Dq.err_cases st s with ⟨e, h1⟩ | ⟨e, h1, h2⟩ | ⟨e, h1, h2, h3⟩ | ⟨e, h1, h2, f, h3⟩
  · have HZ : Hid (askZ st s = -1 ∧ Dq.err st s = 10) := ⟨by unfold askZ; rw [e]; rfl, e⟩
    have HX : Hid (Dq.read st s = ([], 10)) := by
      have h : Dq.read st s = ([], 10) := by unfold Dq.read; rw [e]; rfl
      exact h
    rw [HX.out]
    clear hR hf e h1
    go_enter Try.func44, Try.ntmps44
    go_wp2_with fail
    refine (ask_any q st G _ ps s _ HR.out.1 (by have := HR.out.2.2.1; omega) hs).mono ?_
    rintro e w1 ⟨rfl, hw⟩
    rw [hw, HZ.out.1, HZ.out.2]
    clear hw
    go_wp2
    go_ret2
    exact ⟨_, rfl, Bs.nil _, rfl, fun k hk => (by cases hk)⟩
  · have HZ : Hid (askZ st s = -1 ∧ Dq.err st s = 1) := ⟨by unfold askZ; rw [e]; rfl, e⟩
    have HX : Hid (Dq.read st s = ([], 1)) := by
      have h : Dq.read st s = ([], 1) := by unfold Dq.read; rw [e]; rfl
      exact h
    rw [HX.out]
    clear hR hf e h1 h2
    go_enter Try.func44, Try.ntmps44
    go_wp2_with fail
    refine (ask_any q st G _ ps s _ HR.out.1 (by have := HR.out.2.2.1; omega) hs).mono ?_
    rintro e w1 ⟨rfl, hw⟩
    rw [hw, HZ.out.1, HZ.out.2]
    clear hw
    go_wp2
    go_ret2
    exact ⟨_, rfl, Bs.nil _, rfl, fun k hk => (by cases hk)⟩
  · have HZ : Hid (askZ st s = -1 ∧ Dq.err st s = 4) := ⟨by unfold askZ; rw [e]; rfl, e⟩
    have HX : Hid (Dq.read st s = ([], 4)) := by
      have h : Dq.read st s = ([], 4) := by unfold Dq.read; rw [e]; rfl
      exact h
    rw [HX.out]
    clear hR hf e h1 h2 h3
    go_enter Try.func44, Try.ntmps44
    go_wp2_with fail
    refine (ask_any q st G _ ps s _ HR.out.1 (by have := HR.out.2.2.1; omega) hs).mono ?_
    rintro e w1 ⟨rfl, hw⟩
    rw [hw, HZ.out.1, HZ.out.2]
    clear hw
    go_wp2
    go_ret2
    exact ⟨_, rfl, Bs.nil _, rfl, fun k hk => (by cases hk)⟩
  · obtain ⟨i, g, n, cap, nb, cb, ab, rfl, hpk⟩ := hR.pick hf.1.rises (by have := hf.2.1; omega) h3
    have HK : Hid (Picked w q st G ps s f i g n cap nb cb ab) := hpk
    have HZ : Hid (askZ st s = (i : Int) ∧ Dq.err st s = 0) := ⟨by unfold askZ; rw [e, if_pos rfl]; exact hpk.at_, e⟩
    have HX : Hid (Dq.read st s = (f.b, 0)) := by
      have h : Dq.read st s = (f.b, 0) := by unfold Dq.read; rw [e, if_pos rfl, h3]; rfl
      exact h
    rw [HX.out]
    clear hR hf e h1 h2 h3 hpk
    have hi1 : (0 : Int) ≤ (i : Int) := by omega
    have hi2 : (i : Int) < (n : Int) := by have := HK.out.lt; omega
    have hc1 := HR.out.1.c1
    have hf1 := HK.out.f1
    go_enter Try.func44, Try.ntmps44
    go_wp2_with fail
    refine (ask_any q st G _ ps s _ HR.out.1 (by have := HR.out.2.2.1; omega) hs).mono ?_
    rintro e w1 ⟨rfl, hw⟩
    rw [hw, HZ.out.1, HZ.out.2]
    clear hw
    go_wp2
    go_ret2
    exact ⟨_, rfl, HK.out.bs, rfl, HR.out.1.gb _ (List.mem_of_getElem? HK.out.p)⟩
end Go.Proofs.Ytphmmdjefpfehaa
