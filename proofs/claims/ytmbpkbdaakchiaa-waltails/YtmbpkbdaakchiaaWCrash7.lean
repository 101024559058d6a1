/- What the landed disk's Crash does: each file is shortened, in whatever order the map tells them. -/
import Derived.Test.YtmbpkbdaakchiaaWRename7
namespace Go.Proofs.Ytmbpkbdaakchiaa
open Go.RowKit

/-- A file behind a crash, if the map has told it already. -/
def crl (keep : Int) (left : Lit → Bool) (f : Dq.Fl) : Dq.Fl := if left (fkey f.name) = true then f else { f with b := f.b.take (Dq.kept f keep), safe := Dq.kept f keep }
theorem crl_name (keep : Int) (left : Lit → Bool) (f : Dq.Fl) : (crl keep left f).name = f.name := by unfold crl; split <;> rfl
theorem rises_crl {keep : Int} {left : Lit → Bool} {fs : List Dq.Fl} (h : Dq.Rises fs) : Dq.Rises (fs.map (crl keep left)) := by
  unfold Dq.Rises
  rw [List.pairwise_map]
  refine h.imp ?_
  intro a b hab
  rw [crl_name, crl_name]
  exact hab
theorem crl_step {keep : Int} {left : Lit → Bool} {fs : List Dq.Fl} {f0 : Dq.Fl} {s : ByteArray} (hr : Dq.Rises fs) (hf : f0 ∈ fs) (hn : f0.name = s) (hl : left (fkey s) = true) (hk : Dq.kept f0 keep ≤ f0.b.length) (hlen : s.size ≤ maxLen) :
    Dq.upd s (fun f => { f with safe := Dq.kept f0 keep }) (Dq.upd s (fun f => { f with b := f.b.take (Dq.kept f0 keep), safe := min f.safe (Dq.kept f0 keep) }) (fs.map (crl keep left))) = fs.map (crl keep (fun z => left z && !z.sameKey (fkey s))) := by
  unfold Dq.upd
  rw [List.map_map, List.map_map]
  apply List.map_congr_left
  intro f hf2
  simp only [Function.comp]
  by_cases e : f.name = s
  · obtain rfl : f = f0 := hr.uniq hf2 hf (e.trans hn.symm)
    have e1 : crl keep left f = f := by unfold crl; rw [e, if_pos hl]
    have e2 : crl keep (fun z => left z && !z.sameKey (fkey s)) f = { f with b := f.b.take (Dq.kept f keep), safe := Dq.kept f keep } := by
      unfold crl
      show (if (left (fkey f.name) && !(fkey f.name).sameKey (fkey s)) = true then f else _) = _
      rw [e, WideAt.sameKey_self (fkey_lit hlen)]
      simp
    rw [e1, e2, if_pos e]
    simp only [if_pos e]
  · have e1 : crl keep (fun z => left z && !z.sameKey (fkey s)) f = crl keep left f := by
      unfold crl
      show (if (left (fkey f.name) && !(fkey f.name).sameKey (fkey s)) = true then f else _) = _
      rw [Maps.sameKey_ne (fun e3 => e (fkey_inj e3))]
      simp
    simp only [e1, crl_name, if_neg e]

theorem ranges_keep {w w' : World} {b r n : Nat} {D : DataW Nat} {left : Lit → Bool} {cnt : Nat} (h : w.ranges Try.prog 9 fElem b r n D left cnt) (hb : w'.heap[b]? = w.heap[b]?) (hr : w'.heap[r]? = w.heap[r]?) : w'.ranges Try.prog 9 fElem b r n D left cnt := by
  obtain ⟨es, clock, since, seen, c0, h1, F, hs, hD, h2, rest⟩ := h
  exact ⟨es, clock, since, seen, c0, hb.trans h1, F, hs, hD, hr.trans h2, rest⟩

/-- What a Crash has under way. -/
structure CrashS (w wr : World) (q r m : Nat) (st : Dq.St) (keep : Int) (F : Nat → Prop) (D : DataW Nat) (P : ByteArray → Nat) (left : Lit → Bool) (cnt : Nat) (G : Nat → Prop) (V : ByteArray → Value) : Prop where
  rg : wr.ranges Try.prog 9 fElem m r st.fs.length D left cnt
  d : DkU wr q { st with off := true, fs := st.fs.map (crl keep left) } G m D P V (Dq.size (st.fs.map (crl keep left)))
  mv : Moved w wr F G
  hr : ¬ G r
  lt : r < wr.heap.size
  hi : w.heap.size ≤ r

set_option maxRecDepth 20000 in
set_option maxHeartbeats 8000000 in
theorem crash_any7 (q : Nat) (st : Dq.St) (F : Nat → Prop) (keep : Int) (w : World) (h : DkD w q st F) (hf : Fine st) :
    Calls Try.prog 16 #[dptr q, .int .i64 keep] w fun e w' => ∃ F', e = .returned (.tuple #[]) ∧ DkD w' q (Dq.crash st keep) F' ∧ Moved w w' F F' := by
  obtain ⟨m, D, P, V, h⟩ := h
  have HD : Hid (DkU w q st F m D P V (Dq.size st.fs) ∧ Fine st) := ⟨h, hf⟩
  have c3 : w.cell? ⟨q, 3, none⟩ = some (.bool (!st.off)) := h.blk.cell 3
  have z3 := h.blk.free 3
  obtain ⟨w0, hw0⟩ : ∃ w0, w0 = w.setCell ⟨q, 3, none⟩ (.bool false) := ⟨_, rfl⟩
  have HW : Hid (w.setCell ⟨q, 3, none⟩ (.bool false) = w0) := hw0.symm
  have HU0 : Hid (DkU w0 q { st with off := true } F m D P V (Dq.size st.fs) ∧ Moved w w0 F F) := by
    rw [hw0]
    exact h.disk (st' := { st with off := true }) (u' := Dq.size st.fs) rfl (h.blk.set 3 (.bool false)) ⟨rfl, rfl, rfl, by rw [set_size7]; exact Nat.le_refl _, fun k hk hne => set_other7 _ _ _ hne, fun k hk => Or.inl hk⟩
  have c0 : w.cell? ⟨q, 0, none⟩ = some (.map (some m)) := h.blk.cell 0
  clear h hf hw0
  go_enter Try.func16, Try.ntmps16
  go_wp2_with (at_range; rw [HW.out]; refine wpList_range_own _ rfl _ 44 rfl 9 61 keyed7 Try.underlying44 fElem m st.fs.length D rfl HU0.out.1.own ?_)
  intro w1 hrg0 hg0 hs0
  obtain ⟨r, hr⟩ : ∃ r, r = w0.heap.size := ⟨_, rfl⟩
  have HS0 : Hid (∃ left cnt G V, CrashS w w1 q r m st keep F D P left cnt G V) := by
    have hfs : st.fs.map (crl keep (Maps.has D)) = st.fs := by
      conv => rhs; rw [← List.map_id st.fs]
      apply List.map_congr_left
      intro f hf
      unfold crl
      rw [if_pos ((HU0.out.1.has _).2 ⟨f, hf, rfl⟩)]
      rfl
    refine ⟨Maps.has D, Maps.size D, F, V, ?_, ?_, HU0.out.2.trans ⟨hg0.os, hg0.tape, hg0.output, hg0.size, fun k hk _ => hg0.block k hk (by simp), fun k hk => Or.inl hk⟩, fun e => ?_, by omega, by rw [hr]; exact HU0.out.2.size⟩
    · rw [hr]; exact hrg0
    · rw [hfs]
      exact HU0.out.1.keep hg0.size (fun k hk => hg0.block k (HU0.out.1.glt k hk) (by simp))
    · have := HU0.out.1.glt r e
      omega
  rw [← hr]
  clear hr hrg0 hg0 hs0 c0 c3 z3
  go_wp2
  go_loopw [15] (fun _ wr => ∃ left cnt G V, CrashS w wr q r m st keep F D P left cnt G V) (fun _ wr => wr.rangeLeft m r)
  case atStart => exact HS0.out
  case round =>
    obtain ⟨left, cnt, G, V, hS⟩ := hrel
    have HS : Hid (CrashS w wr q r m st keep F D P left cnt G V) := hS
    go_wp2_with (at_next; refine wpList_next_ranges _ rfl _ rfl 9 keyed7 fElem Value.string (fun o : Option Nat => .pointer (o.map fun p => ⟨p, 0, none⟩)) (fun key kl hk => by obtain ⟨x, rfl, _⟩ := Maps.keyOf_str Try.underlying9 hk; exact ⟨_, rfl⟩) (fun v y hv => fElem_inv hv) m r st.fs.length D left cnt rfl hS.rg ?_ ?_)
    · intro _ hl0
      have HFIN : Hid (DkD wr q (Dq.crash st keep) G ∧ Moved w wr F G) := by
        have e : st.fs.map (crl keep left) = st.fs.map fun f => { f with b := f.b.take (Dq.kept f keep), safe := Dq.kept f keep } := by
          apply List.map_congr_left
          intro f _
          unfold crl
          rw [hl0]
          simp
        have h := HS.out.d
        rw [e] at h
        exact ⟨h.toD rfl, HS.out.mv⟩
      clear hl0 hS
      go_wp2
      go_end0
      exact ⟨G, rfl, HFIN.out⟩
    · intro x c kl y ys w1 cnt1 hkey hlk hv hat hrg1 hlt hg1 hs1 hen
      obtain ⟨f1, hf1, hkl⟩ := (HS.out.d.has kl).1 (Maps.has_true_of_atKey hat)
      obtain ⟨f0, hf0, hfe⟩ := List.mem_map.1 hf1
      obtain ⟨s, hs⟩ : ∃ s, s = f0.name := ⟨_, rfl⟩
      have hn1 : f1.name = s := by rw [← hfe, crl_name, hs]
      rw [hn1] at hkl
      obtain ⟨p, hp⟩ : ∃ p, p = P s := ⟨_, rfl⟩
      have hyp : y = .held p := by rw [← hat .nil, hkl, ← hn1, HS.out.d.at_ f1 hf1, hn1, hp]
      have hc : (Value.pointer (c.map fun p => ⟨p, 0, none⟩)) = fptr p := fElem_held (ps := ys) (by rw [hv, hyp])
      have hfe0 : crl keep left f0 = f0 := by unfold crl; rw [← hs, ← hkl, if_pos hlk]
      have hmem : f0 ∈ st.fs.map (crl keep left) := List.mem_map.2 ⟨f0, hf0, hfe0⟩
      rw [hc] at hen ⊢
      have HF0 : Hid (f0 ∈ st.fs ∧ f0 ∈ st.fs.map (crl keep left) ∧ f0.name = s ∧ p = P s ∧ kl = fkey s ∧ left (fkey s) = true ∧ s.size ≤ maxLen) := ⟨hf0, hmem, hs.symm, hp, hkl, hkl ▸ hlk, by rw [hs]; exact may_len (HD.out.2.1.good f0 hf0)⟩
      have HD1 : Hid (DkU w1 q { st with off := true, fs := st.fs.map (crl keep left) } G m D P V (Dq.size (st.fs.map (crl keep left))) ∧ w1.ranges Try.prog 9 fElem m r st.fs.length D (fun z => left z && !z.sameKey kl) cnt1 ∧ cnt1 < cnt ∧ Moved w w1 F G ∧ r < w1.heap.size) := by
        refine ⟨HS.out.d.keep hg1.size (fun k hk => hg1.block k (HS.out.d.glt k hk) (by simp; intro e; subst e; exact HS.out.hr hk)), hrg1, hlt, ⟨hg1.os.trans HS.out.mv.os, hg1.tape.trans HS.out.mv.tape, hg1.output.trans HS.out.mv.output, Nat.le_trans HS.out.mv.size hg1.size, fun k hk hF => ?_, HS.out.mv.sub⟩, by rw [hs1]; exact HS.out.lt⟩
        have hne : k ≠ r := fun e => by have := HS.out.hi; omega
        exact (hg1.block k (Nat.lt_of_lt_of_le hk HS.out.mv.size) (by simpa using hne)).trans (HS.out.mv.block k hk hF)
      have HCN : Hid (wr.rangeLeft m r = cnt ∧ ¬ G r ∧ w.heap.size ≤ r) := ⟨HS.out.rg.left_eq, HS.out.hr, HS.out.hi⟩
      have hfd : Fd w1 p (V s) f0 := by
        have h := HD1.out.1.file f0 hmem
        rw [← hs, ← hp] at h
        exact h
      obtain ⟨av, cv, hvs, hcv⟩ := row_slice hfd.row
      obtain ⟨N, hN⟩ : ∃ N, N = f0.b.length := ⟨_, rfl⟩
      obtain ⟨sf, hsf⟩ : ∃ sf, sf = f0.safe := ⟨_, rfl⟩
      have hsN : sf ≤ N := by rw [hN, hsf]; exact HD.out.2.1.safe f0 hf0
      have hNb : N ≤ 1048576 := by have h1 := Dq.size_mem hf0; have h2 := HD.out.2.size; omega
      obtain ⟨d, hd⟩ : ∃ d, N = sf + d := ⟨N - sf, by omega⟩
      obtain ⟨l, hl⟩ : ∃ l, l = min keep.toNat d := ⟨_, rfl⟩
      obtain ⟨k, hk⟩ : ∃ k, k = sf + l := ⟨_, rfl⟩
      have HKK : Hid (k = Dq.kept f0 keep ∧ k ≤ f0.b.length) := by
        refine ⟨?_, by omega⟩
        unfold Dq.kept
        rw [← hN, ← hsf, hk, hl]
        congr 2
        omega
      have hwd : IntKind.wrap .i64 ((N : Int) - (sf : Int)) = (d : Int) := by rw [IntKind.wrap_i64]; omega
      have hml : min (max keep 0) (d : Int) = (l : Int) := by omega
      have hwk : IntKind.wrap .i64 ((sf : Int) + (l : Int)) = (k : Int) := by rw [IntKind.wrap_i64]; omega
      have p0 : w1.cell? ⟨p, 0, none⟩ = some (.slice av N cv) := by rw [hN, ← hvs]; exact hfd.blk.cell 0
      have p1 : w1.cell? ⟨p, 1, none⟩ = some (.int .i64 (sf : Int)) := by rw [hsf]; exact hfd.blk.cell 1
      clear hkey hlk hv hat hrg1 hlt hg1 hs1 hf1 hkl hfe hs hn1 hp hyp hc hfe0 hmem hfd hvs hN hsf hd hl hk hf0 hS
      go_wp2
      go_quiet (fail)
      clear hen p0
      have HD2 : Hid (DkU (w1.drewN nq) q { st with off := true, fs := st.fs.map (crl keep left) } G m D P V (Dq.size (st.fs.map (crl keep left))) ∧ (w1.drewN nq).ranges Try.prog 9 fElem m r st.fs.length D (fun z => left z && !z.sameKey kl) cnt1 ∧ cnt1 < cnt ∧ Moved w (w1.drewN nq) F G ∧ r < (w1.drewN nq).heap.size) := ⟨HD1.out.1.below (below_drewN (Below.refl _ _) _), ranges_keep HD1.out.2.1 rfl rfl, HD1.out.2.2.1, HD1.out.2.2.2.1.trans (Moved.of_below G (below_drewN (Below.refl _ _) _)), HD1.out.2.2.2.2⟩
      have p1 : (w1.drewN nq).cell? ⟨p, 1, none⟩ = some (.int .i64 (sf : Int)) := p1
      generalize w1.drewN nq = w2 at *
      have HSH : Hid (Calls Try.prog 33 #[dptr q, fptr p, .int .i64 (k : Int)] w2 fun e w' => e = .returned (.tuple #[]) ∧ ∃ V', DkU w' q { st with off := true, fs := Dq.upd s (fun f => { f with b := f.b.take k, safe := min f.safe k }) (st.fs.map (crl keep left)) } (Gd w2 w' G) m D P V' (Dq.size (st.fs.map (crl keep left)) - (f0.b.length - k)) ∧ Moved w2 w' G (Gd w2 w' G) ∧ w'.heap[m]? = w2.heap[m]?) := by
        obtain ⟨hf0, hmem, hn, hp, hkl, hlk, hlen⟩ := HF0.out
        rw [hp]
        have hsz : Dq.size (st.fs.map (crl keep left)) ≤ 1048576 := by
          refine Nat.le_trans (Dq.size_map_le (fun f => ?_) _) HD.out.2.size
          unfold crl
          split
          · exact Nat.le_refl _
          · simp only [List.length_take]; omega
        exact shorten_any7 HD2.out.1 (rises_crl HD.out.2.1.rises) hmem hn HKK.out.2 (Dq.size_mem hmem) (by omega)
      go_wp2_with fail
      refine HSH.out.mono ?_
      rintro e w3 ⟨rfl, V3, hd3, hm3, hmm3⟩
      obtain ⟨hf0, hmem, hn, hp, hkl, hlk, hlen⟩ := HF0.out
      have hmem3 : ({ f0 with b := f0.b.take k, safe := min f0.safe k } : Dq.Fl) ∈ Dq.upd s (fun f => { f with b := f.b.take k, safe := min f.safe k }) (st.fs.map (crl keep left)) := Dq.upd_mem (g := fun f => { f with b := f.b.take k, safe := min f.safe k }) hmem hn
      have hfd : Fd w3 p (V3 s) { f0 with b := f0.b.take k, safe := min f0.safe k } := by
        have h := hd3.file _ hmem3
        simp only [hn, ← hp] at h
        rw [← hn]
        rw [← hn] at h
        exact h
      have hkl3 : (f0.b.take k).length = k := by rw [List.length_take]; have := HKK.out.2; omega
      have hrow := hfd.row
      simp only [hkl3] at hrow
      obtain ⟨a3, c3, hv3, hc3⟩ := row_slice hrow
      have p0 : w3.cell? ⟨p, 0, none⟩ = some (.slice a3 k c3) := by rw [← hv3]; exact hfd.blk.cell 0
      have p1 : w3.cell? ⟨p, 1, none⟩ = some (.int .i64 ((min f0.safe k : Nat) : Int)) := hfd.blk.cell 1
      have z1 := hfd.blk.free 1
      have HFIN : Hid (∃ G4 V4, CrashS w (w3.setCell ⟨p, 1, none⟩ (.int .i64 (k : Int))) q r m st keep F D P (fun z => left z && !z.sameKey kl) cnt1 G4 V4) := by
        have hr3 : Dq.Rises (Dq.upd s (fun f => { f with b := f.b.take k, safe := min f.safe k }) (st.fs.map (crl keep left))) := Dq.rises_upd (fun _ => rfl) (rises_crl HD.out.2.1.rises)
        have key := hd3.setSafe (g := fun f => { f with safe := k }) hr3 hmem3 hn (fun _ => rfl) rfl
        simp only [] at key
        rw [← hp] at key
        have hsz1 := Dq.size_upd (g := fun f => { f with b := f.b.take k, safe := min f.safe k }) (rises_crl HD.out.2.1.rises) (Dq.get_mem (rises_crl HD.out.2.1.rises) hmem hn)
        have hsz2 := Dq.size_upd (g := fun f => { f with safe := k }) hr3 (Dq.get_mem hr3 hmem3 hn)
        simp only [hkl3] at hsz1 hsz2
        have hss := Dq.size_mem hmem
        have hstep := crl_step (left := left) (keep := keep) HD.out.2.1.rises hf0 hn hlk (by rw [← HKK.out.1]; exact HKK.out.2) hlen
        rw [← HKK.out.1] at hstep
        have hu : Dq.size (st.fs.map (crl keep left)) - (f0.b.length - k) = Dq.size (st.fs.map (crl keep (fun z => left z && !z.sameKey kl))) := by
          rw [hkl, ← hstep]
          have := HKK.out.2
          omega
        have hG3 : ¬ Gd w2 w3 G r := by
          rintro (e | e)
          · exact HCN.out.2.1 e
          · have := HD2.out.2.2.2.2
            omega
        have hlt3 : r < w3.heap.size := Nat.lt_of_lt_of_le HD2.out.2.2.2.2 hm3.size
        have hsz4 : (w3.setCell ⟨p, 1, none⟩ (.int .i64 (k : Int))).heap.size = w3.heap.size := set_size7 _ _ _
        refine ⟨_, (fun x => if x = s then V3 s else V3 x), ranges_keep HD2.out.2.1 (key.2.2.trans hmm3) ((key.2.1.block r hlt3 hG3).trans (hm3.block r HD2.out.2.2.2.2 HCN.out.2.1)), ?_, (HD2.out.2.2.2.1.trans hm3).trans key.2.1, ?_, by rw [hsz4]; exact hlt3, HCN.out.2.2⟩
        · rw [← hu, hkl, ← hstep]
          exact key.1
        · rintro (e | e)
          · exact hG3 e
          · omega
      clear hf0 hmem hn hp hkl hlk hlen hmem3 hfd hkl3 hrow hv3 hc3 hd3 hm3 hmm3
      have HME : Hid ((w3.setCell ⟨p, 1, none⟩ (.int .i64 (k : Int))).rangeLeft m r < wr.rangeLeft m r) := by
        obtain ⟨_, _, h⟩ := HFIN.out
        have h1 := h.rg.left_eq
        have h2 := HCN.out.1
        have h3 := HD2.out.2.2.1
        show (w3.setCell ⟨p, 1, none⟩ (.int .i64 (k : Int))).rangeLeft m r < wr.rangeLeft m r
        rw [h1, h2]
        exact h3
      go_wp2
      go_roundw
      case rel =>
        obtain ⟨G4, V4, h⟩ := HFIN.out
        exact ⟨_, _, G4, V4, h⟩
      case measure => exact HME.out
end Go.Proofs.Ytmbpkbdaakchiaa
