/- What the landed network answers to Send. -/
import Derived.Test.YtkldecdjokfajaaNtH9
namespace Go.Proofs.Ytkldecdjokfajaa
open Go.RowKit

theorem Mp.lt9 {w : World} {m : Nq.Ms} {a b : Value} {K : Nat → Prop} (h : Mp w m a b K) : Mp w m a b (fun k => K k ∧ k < w.heap.size) := ⟨h.ns.lt9, h.bs.lt9⟩

set_option maxRecDepth 20000 in
set_option maxHeartbeats 8000000 in
theorem send_any9 (q : Nat) (n : Nq.Nt) (F K : Nat → Prop) (v : Value) (ms : List Nq.Ms) (w : World) (h : LNt w q n F) (hf : FineN n) (hv : Ml w v ms K) (hK : ∀ k, K k → ¬ F k) (hlt : ∀ k, K k → k < w.heap.size) (hl : ms.length ≤ 1000) (hm : ∀ m ∈ ms, Lite m) :
    Calls Try.prog 10 #[dptr q, v] w fun e w' => e = .returned (.int .i64 (Nq.sent n ms : Int)) ∧ PostN w w' q (Nq.puts n ms) F := by
  have HH : Hid (LNt w q n F ∧ FineN n ∧ Ml w v ms K ∧ (∀ k, K k → ¬ F k) ∧ (∀ k, K k → k < w.heap.size) ∧ (∀ m ∈ ms, Lite m)) := ⟨h, hf, hv, hK, hlt, hm⟩
  obtain ⟨av, N, c, rfl, hN, hz, hc⟩ := hv
  have HN : Hid (N = ms.length) := hN
  have hN1 : N ≤ 1000 := by omega
  clear h hf hK hlt hl hm hN hz hc
  go_enter Try.func10, Try.ntmps10
  go_wp2
  go_loopw [5, 10] (fun s i wr => ∃ k : Nat, k ≤ N ∧ s = .int .i64 (Nq.sent n (ms.take k) : Int) ∧ i = .int .i64 (k : Int) ∧ PostN w wr q (Nq.puts n (ms.take k)) F) (fun _ i _ => N - (intOf i).toNat)
  case atStart => exact ⟨0, Nat.zero_le _, rfl, rfl, F, HH.out.1, Moved.refl _ _⟩
  case round =>
    obtain ⟨k, hk, rfl, rfl, hp⟩ := hrel
    obtain ⟨F1, hL, hM⟩ := hp
    have HP : Hid (LNt wr q (Nq.puts n (ms.take k)) F1 ∧ Moved w wr F F1 ∧ FineN (Nq.puts n (ms.take k))) := ⟨hL, hM, fine_puts HH.out.2.1 (fun m hm => HH.out.2.2.2.2.2 m (List.mem_of_mem_take hm))⟩
    clear hL hM
    obtain ⟨s, hs⟩ : ∃ s, s = Nq.sent n (ms.take k) := ⟨_, rfl⟩
    have HS : Hid (s = Nq.sent n (ms.take k)) := hs
    have hs9 : s ≤ 1000 := by
      have h1 := Nq.sent_le n (ms.take k)
      have h2 := HN.out
      rw [List.length_take] at h1
      omega
    rw [← hs]
    clear hs
    by_cases hlt : k < N
    · have hlt' : (k : Int) < (N : Int) := by omega
      have hk0 : (0 : Int) ≤ (k : Int) := by omega
      have hwk : IntKind.wrap .i64 ((k : Int) + 1) = (k : Int) + 1 := by rw [IntKind.wrap_i64]; omega
      have hws : IntKind.wrap .i64 ((s : Int) + 1) = (s : Int) + 1 := by rw [IntKind.wrap_i64]; omega
      have hkl : k < ms.length := by rw [← HN.out]; exact hlt
      obtain ⟨m, hm⟩ : ∃ m, ms[k]? = some m := ⟨_, List.getElem?_eq_getElem hkl⟩
      have HX : Hid (ms.take (k + 1) = ms.take k ++ [m] ∧ Lite m) := ⟨by rw [List.take_add_one, hm]; rfl, HH.out.2.2.2.2.2 m (List.mem_of_getElem? hm)⟩
      have HST : Hid (Nq.puts n (ms.take (k + 1)) = Nq.put (Nq.puts n (ms.take k)) m ∧ Nq.sent n (ms.take (k + 1)) = s + (if Nq.may (Nq.puts n (ms.take k)) m then 1 else 0)) := ⟨by rw [HX.out.1, Nq.puts_snoc], by rw [HX.out.1, Nq.sent_snoc, HS.out]⟩
      obtain ⟨av9, k9, c9, hv9, _, _, hc9⟩ := HH.out.2.2.1
      rename_i hj1 hj2
      obtain ⟨g, o, a, b, hav, hKg, c0, c1, c2, c3, c4, hmp⟩ := hc9 k m hm
      simp only [Value.slice.injEq] at hv9
      obtain ⟨hv1, hv2, hv3⟩ := hv9
      rw [← hv1] at hav
      subst hav
      have HKK : Hid (∀ j, K j → wr.heap[j]? = w.heap[j]?) := fun j hj => HP.out.2.1.block j (HH.out.2.2.2.2.1 j hj) (HH.out.2.2.2.1 j hj)
      have HMP : Hid (Mp wr m a b K) := hmp.keep HKK.out
      obtain ⟨a1, n1, d1, rfl, h7, _⟩ := hmp.ns
      obtain ⟨a2, n2, d2, rfl, h8, _⟩ := hmp.bs
      rename_i h9 h10
      have ec : ∀ i, wr.cell? ⟨g, i, none⟩ = w.cell? ⟨g, i, none⟩ := fun i => cell_same (HKK.out g hKg)
      have y0 := (ec _).trans c0
      have y1 := (ec _).trans c1
      have y2 := (ec _).trans c2
      have y3 := (ec _).trans c3
      have y4 := (ec _).trans c4
      clear hv1 hv2 hv3 hc9 hj1 hj2 hKg c0 c1 c2 c3 c4 hmp h7 h8 h9 h10 ec hm hkl
      obtain ⟨p, hp⟩ : ∃ z, z = wr.heap.size := ⟨_, rfl⟩
      have k1 := Nk.made wr (m5 m (.slice a1 n1 d1) (.slice a2 n2 d2)) 31
      have B1 := (Below.refl _ wr).alloc (Nat.le_refl _) (.cells (m5 m (.slice a1 n1 d1) (.slice a2 n2 d2)).toArray 31)
      rw [← hp] at k1
      unfold m5 at k1 B1
      have x0 := k1.cell 0
      have x1 := k1.cell 1
      simp only [List.getElem?_cons_zero, List.getElem?_cons_succ] at x0 x1
      obtain ⟨st, hst⟩ : ∃ z, z = Nq.puts n (ms.take k) := ⟨_, rfl⟩
      rw [← hst] at HP HST
      clear hst
      go_wp2_with fail
      rw [← hp]
      generalize wr.alloc (.cells [.int .i64 m.fr, .int .i64 m.to, .int .i64 m.kind, .slice a1 n1 d1, .slice a2 n2 d2].toArray 31) = w1 at *
      have H1 : Hid (Nk w1 p (m5 m (.slice a1 n1 d1) (.slice a2 n2 d2)) 31 ∧ Below wr.heap.size wr w1) := ⟨k1, B1⟩
      clear k1 B1 hp y0 y1 y2 y3 y4 x0 x1
      obtain ⟨G, mm, D, vr, ps, hN1', hF1⟩ := HP.out.1
      have HU : Hid (NtU wr q st G mm D vr ps ∧ ∀ k, F1 k ↔ Fq q mm vr G k) := ⟨hN1', hF1⟩
      clear hN1' hF1
      have HPS : Hid (Calls Try.prog 25 #[dptr q, .int .i64 m.fr, .int .i64 m.to] w1 fun e w' => e = .returned (.bool (Nq.node st m.fr && Nq.node st m.to && !st.cut m.fr.toNat m.to.toNat)) ∧ Below w1.heap.size w1 w') := passes_any9 m.fr m.to (HU.out.1.below H1.out.2) HP.out.2.2.nodes
      cases hpass : (Nq.node st m.fr && Nq.node st m.to && !st.cut m.fr.toNat m.to.toNat) with
      | false =>
        rw [hpass] at HPS
        have hmay : Nq.may st m = false := by unfold Nq.may; rw [hpass]; rfl
        have HE : Hid (Nq.sent n (ms.take (k + 1)) = s ∧ Nq.puts n (ms.take (k + 1)) = st) := by
          have h := HST.out
          rw [hmay, Nq.put_no hmay] at h
          exact ⟨h.2, h.1⟩
        clear hpass hmay
        refine HPS.out.mono ?_
        rintro e w2 ⟨rfl, hb⟩
        have HB : Hid (Below wr.heap.size wr w2) := H1.out.2.trans (hb.mono H1.out.2.size)
        clear hb
        have HQ : Hid (PostN w w2 q (Nq.puts n (ms.take (k + 1))) F) := by
          have h : PostN w w2 q (Nq.puts n (ms.take (k + 1))) F := by
            rw [HE.out.2]
            exact ⟨F1, lnt_keep HP.out.1 (fun j hj => HB.out.block j (NtU.le HP.out.1 j hj)), HP.out.2.1.trans (Moved.of_below F1 HB.out)⟩
          exact h
        go_wp2
        go_roundw
        case rel => exact ⟨k + 1, by omega, by rw [HE.out.1], by go_num, HQ.out⟩
        case measure => simp [intOf]; omega
      | true =>
        rw [hpass] at HPS
        refine HPS.out.mono ?_
        rintro e w2 ⟨rfl, hb⟩
        have H2 : Hid (Below wr.heap.size wr w2 ∧ Nk w2 p (m5 m (.slice a1 n1 d1) (.slice a2 n2 d2)) 31) := ⟨H1.out.2.trans (hb.mono H1.out.2.size), H1.out.1.keep (hb.block p H1.out.1.lt)⟩
        clear hb
        have hU2 := HU.out.1.below H2.out.1
        obtain ⟨ar, cr, er, _⟩ := hU2.slice
        rename_i hjr
        have HR : Hid (Calls Try.prog 26 #[dptr q] w2 fun e w' => e = .returned (.bool (decide (st.l.length < st.room))) ∧ Below w2.heap.size w2 w') := by
          have hbk := hU2.blk
          rw [er] at hbk
          exact hasRoom_any9 hbk
        clear hjr er hU2
        by_cases hroom : st.l.length < st.room
        · rw [decide_eq_true hroom] at HR
          have hmay : Nq.may st m = true := by unfold Nq.may; rw [hpass, decide_eq_true hroom]; rfl
          have HE : Hid (Nq.sent n (ms.take (k + 1)) = s + 1 ∧ Nq.puts n (ms.take (k + 1)) = { st with l := st.l ++ [m] }) := by
            have h := HST.out
            rw [hmay, Nq.put_yes hmay] at h
            exact ⟨h.2, h.1⟩
          clear hpass hmay
          have hll : st.l.length ≤ 100000 := by have h1 := HP.out.2.2.fits; have h2 := HP.out.2.2.room; omega
          clear hroom
          go_wp2_with fail
          refine HR.out.mono ?_
          rintro e w3 ⟨rfl, hb⟩
          have H3 : Hid (Below wr.heap.size wr w3 ∧ Nk w3 p (m5 m (.slice a1 n1 d1) (.slice a2 n2 d2)) 31) := ⟨H2.out.1.trans (hb.mono H2.out.1.size), H2.out.2.keep (hb.block p H2.out.2.lt)⟩
          clear hb
          have x0 := H3.out.2.cell 0
          have x1 := H3.out.2.cell 1
          have x2 := H3.out.2.cell 2
          have x3 := H3.out.2.cell 3
          have x4 := H3.out.2.cell 4
          simp only [m5, List.getElem?_cons_zero, List.getElem?_cons_succ] at x0 x1 x2 x3 x4
          go_wp2_with fail
          refine (lay_any9 (HU.out.1.below H3.out.1) hll m _ _ _ (HMP.out.lt9.keep (fun j hj => H3.out.1.block j hj.2)) HX.out.2).mono ?_
          rintro e w4 ⟨rfl, G', v', ps', hn, hm⟩
          have HQ : Hid (PostN w w4 q (Nq.puts n (ms.take (k + 1))) F) := by
            have h : PostN w w4 q (Nq.puts n (ms.take (k + 1))) F := by
              rw [HE.out.2]
              exact ⟨_, ⟨G', mm, D, v', ps', hn, fun _ => Iff.rfl⟩, HP.out.2.1.trans (((Moved.of_below _ H3.out.1).trans hm).of_iff HU.out.2)⟩
            exact h
          clear hn hm x0 x1 x2 x3 x4
          go_wp2
          go_roundw
          case rel => exact ⟨k + 1, by omega, by rw [HE.out.1]; go_num, by go_num, HQ.out⟩
          case measure => simp [intOf]; omega
        · rw [decide_eq_false hroom] at HR
          have hmay : Nq.may st m = false := by unfold Nq.may; rw [decide_eq_false hroom, Bool.and_false]
          have HE : Hid (Nq.sent n (ms.take (k + 1)) = s ∧ Nq.puts n (ms.take (k + 1)) = st) := by
            have h := HST.out
            rw [hmay, Nq.put_no hmay] at h
            exact ⟨h.2, h.1⟩
          clear hpass hmay hroom
          go_wp2_with fail
          refine HR.out.mono ?_
          rintro e w3 ⟨rfl, hb⟩
          have HB : Hid (Below wr.heap.size wr w3) := H2.out.1.trans (hb.mono H2.out.1.size)
          clear hb
          have HQ : Hid (PostN w w3 q (Nq.puts n (ms.take (k + 1))) F) := by
            have h : PostN w w3 q (Nq.puts n (ms.take (k + 1))) F := by
              rw [HE.out.2]
              exact ⟨F1, lnt_keep HP.out.1 (fun j hj => HB.out.block j (NtU.le HP.out.1 j hj)), HP.out.2.1.trans (Moved.of_below F1 HB.out)⟩
            exact h
          go_wp2
          go_roundw
          case rel => exact ⟨k + 1, by omega, by rw [HE.out.1], by go_num, HQ.out⟩
          case measure => simp [intOf]; omega
    · have hlt' : ¬ (k : Int) < (N : Int) := by omega
      have HE : Hid (s = Nq.sent n ms ∧ PostN w wr q (Nq.puts n ms) F) := by
        have e : ms.take k = ms := List.take_of_length_le (by rw [← HN.out]; omega)
        have h1 := HS.out
        have h2 := HP.out
        rw [e] at h1 h2
        exact ⟨h1, F1, h2.1, h2.2.1⟩
      go_wp2
      go_ret
      exact ⟨by rw [HE.out.1]; rfl, HE.out.2⟩
end Go.Proofs.Ytkldecdjokfajaa
