/- What the landed log's Open answers: its walk. -/
import Derived.Test.YtmbpkbdaakchiaaWlD8
namespace Go.Proofs.Ytmbpkbdaakchiaa
open Go.RowKit

theorem lives_cut (st : Dq.St) (s : ByteArray) (n : Int) : (Dq.cut st s n).2.lives = st.lives := by
  unfold Dq.cut
  split
  · split <;> rfl
  · rfl

/-- What Open comes to. -/
def OpenP8 (w : World) (qd : Nat) (F : Nat → Prop) (o : Int × Option Wq.Lg × Dq.St) (e : Ending) (w' : World) : Prop :=
  ∃ F', DkD w' qd o.2.2 F' ∧ Moved w w' F F' ∧ (o.2.1 = none → e = .returned (.tuple #[.pointer none, .int .i64 o.1])) ∧
    ∀ g, o.2.1 = some g → ∃ ql G, e = .returned (.tuple #[dptr ql, .int .i64 o.1]) ∧ WlD w' ql qd g G ∧ (∀ k, G k → w.heap.size ≤ k) ∧ ∀ k, F' k → ¬ G k

theorem open_no {w w' : World} {qd : Nat} {st : Dq.St} {F F' : Nat → Prop} {z : Int} (h : OnW w w' qd st F F') : OpenP8 w qd F (z, none, st) (.returned (.tuple #[.pointer none, .int .i64 z])) w' :=
  ⟨F', h.dk, h.mv, fun _ => rfl, fun g hg => by cases hg⟩

/-- A log is made of a scan's records. -/
theorem open_yes {w w2 wC : World} {qd B : Nat} {st st' : Dq.St} {F F1 F2 : Nat → Prop} {n : Int} {recs : List (List UInt8)} {l : Value} (h2 : OnW w w2 qd st F F1) (hB : w.heap.size ≤ B) (hF : ∀ k, F1 k → k < B) (hL : Lo w2 B l recs) (hd : DkD wC qd st' F2) (hm : Moved w2 wC F1 F2) (hf : FineG ⟨n, recs, st.lives, false⟩) :
    OpenP8 w qd F (0, some ⟨n, recs, st.lives, false⟩, st') (.returned (.tuple #[dptr wC.heap.size, .int .i64 0])) (wC.alloc (.cells #[dptr qd, .int .i64 (st.lives : Int), .bool false, .int .i64 n, l, .int .i64 ((Fr.frames recs).length : Int)] 56)) := by
  obtain ⟨us, ho, hrows⟩ := hL
  have hs2 := h2.mv.size
  have hsz := hm.size
  have far : ∀ {t : TypeId} {m : Nat} {u : Value} {xs : List Value}, w2.ownsRow B t 1 u m xs → ∀ k, u.ownBlock = some k → k < wC.heap.size ∧ w.heap.size ≤ k ∧ ¬ F2 k := fun {t m u xs} hu k e => by
    have h3 := hu.lt k e
    refine ⟨by omega, by omega, fun hk => ?_⟩
    rcases hm.sub k hk with e1 | e1
    · have := hF k e1
      omega
    · omega
  have keep : ∀ {t : TypeId} {m : Nat} {u : Value} {xs : List Value}, w2.ownsRow B t 1 u m xs → wC.ownsRow 0 t 1 u m xs := fun {t m u xs} hu => (row_keep hu (fun k e => hm.block k (hu.lt k e).2 (fun hk => by have h3 := hF k hk; have h4 := (hu.lt k e).1; omega))).mono (Nat.zero_le _)
  have hbl : Below wC.heap.size wC (wC.alloc (.cells #[dptr qd, .int .i64 (st.lives : Int), .bool false, .int .i64 n, l, .int .i64 ((Fr.frames recs).length : Int)] 56)) := (Below.refl _ wC).alloc (Nat.le_refl _) _
  refine ⟨F2, hd.below hbl, (h2.mv.trans hm).trans (Moved.of_below F2 hbl), (fun e => by cases e), fun g hg => ?_⟩
  simp only [Option.some.injEq] at hg
  subst hg
  refine ⟨wC.heap.size, fun k => k = wC.heap.size ∨ (k < wC.heap.size ∧ w.heap.size ≤ k ∧ ¬ F2 k), rfl, ⟨l, us, ⟨Blk.made wC [dptr qd, .int .i64 (st.lives : Int), .bool false, .int .i64 n, l, .int .i64 ((Fr.frames recs).length : Int)] _, (keep ho).alloc _, fun j u x hu hx => ⟨(keep (hrows j x u hx hu)).alloc _, fun k e => Or.inr (far (hrows j x u hx hu) k e)⟩, Or.inl rfl, fun k e => Or.inr (far ho k e), fun k hk => ?_, hf⟩⟩, fun k hk => ?_, fun k hk hG => ?_⟩
  · have h3 := hbl.size
    have h4 : (wC.alloc (.cells #[dptr qd, .int .i64 (st.lives : Int), .bool false, .int .i64 n, l, .int .i64 ((Fr.frames recs).length : Int)] 56)).heap.size = wC.heap.size + 1 := by simp
    rw [h4]
    rcases hk with rfl | hk
    · omega
    · omega
  · rcases hk with rfl | hk
    · omega
    · exact hk.2.1
  · rcases hG with rfl | hG
    · exact absurd (hd.lt hk) (Nat.lt_irrefl _)
    · exact hG.2.2 hk

set_option maxRecDepth 20000 in
set_option maxHeartbeats 4000000 in
theorem openW_any (qd : Nat) (st : Dq.St) (F : Nat → Prop) (w : World) (hd : DkD w qd st F) (hf : FineW st) :
    Calls Try.prog 10 #[dptr qd] w fun e w' => OpenP8 w qd F (Wq.opn st) e w' := by
  have HD : Hid (DkD w qd st F ∧ FineW st) := ⟨hd, hf⟩
  clear hd hf
  by_cases hz : (baseE st).2 = 0
  · obtain ⟨b1, b2, b3, b4⟩ := base_ok hz
    obtain ⟨n, hn⟩ : ∃ n, n = (baseE st).1 := ⟨_, rfl⟩
    rw [← hn] at b2 b3 b4
    have HN : Hid (n = (baseE st).1 ∧ (baseE st).2 = 0) := ⟨hn, hz⟩
    have HO : Hid (st.off = false) := b1
    have HOP : Hid (Wq.opn st =
    if (Fr.scan (Dq.read st Wq.logN).1).2.2 = 2 then (3, none, st)
    else (0, some ⟨n, (Fr.scan (Dq.read st Wq.logN).1).1, st.lives, false⟩, if (Fr.scan (Dq.read st Wq.logN).1).2.2 = 1 then (Dq.cut st Wq.logN (Fr.scan (Dq.read st Wq.logN).1).2.1).2 else st)) := opn_log2 b1 b2
    have HNB : Hid (1 ≤ n ∧ n ≤ 1099511627776) := ⟨b3, b4⟩
    clear b1 b2 b3 b4 hn hz
    obtain ⟨b, hb⟩ : ∃ b, b = (Dq.read st Wq.logN).1 := ⟨_, rfl⟩
    have HBL : Hid (b.length ≤ 100000 ∧ b = (Dq.read st Wq.logN).1) := ⟨by rw [hb]; have h1 := read_len8 HD.out.2.1.1 Wq.logN; have h2 := HD.out.2.2.1; omega, hb⟩
    rw [← hb] at HOP
    clear hb
    obtain ⟨y, hy⟩ : ∃ y, y = (Dq.read st Wq.logN).2 := ⟨_, rfl⟩
    have HY : Hid (y = (Dq.read st Wq.logN).2 ∧ (if y = 4 then 0 else y) = 0) := by
      refine ⟨hy, ?_⟩
      rcases read_on HO.out Wq.may_log with h | h
      · rw [hy, h]; rfl
      · rw [hy, h]; rfl
    clear hy
    obtain ⟨hw, hhw⟩ : ∃ hw, hw = (Fr.scan b).2.2 := ⟨_, rfl⟩
    have HH : Hid (hw = (Fr.scan b).2.2) := hhw
    rw [← hhw] at HOP
    clear hhw
    obtain ⟨us1, hus1⟩ : ∃ z, z = (Fr.scan b).2.1 := ⟨_, rfl⟩
    have HUS : Hid (us1 = (Fr.scan b).2.1 ∧ us1 = (Fr.frames (Fr.scan b).1).length) := ⟨hus1, by rw [hus1]; exact (Fr.scan_says _ b (Nat.le_refl _)).1.symm⟩
    rw [← hus1] at HOP
    clear hus1
    obtain ⟨recs, hrecs⟩ : ∃ z, z = (Fr.scan b).1 := ⟨_, rfl⟩
    have HRC : Hid (recs = (Fr.scan b).1 ∧ FineG ⟨n, recs, st.lives, false⟩) := by
      have h := Fr.scan_says _ b (Nat.le_refl _)
      have h1 := HBL.out.1
      exact ⟨hrecs, ⟨HNB.out.1, HNB.out.2, by rw [hrecs]; show (Fr.scan b).1.length ≤ 10000; omega, by rw [hrecs]; exact h.2.2.1⟩⟩
    rw [← hrecs] at HOP HUS
    clear hrecs
    by_cases h2 : hw = 2
    · have HX : Hid (Wq.opn st = (3, none, st)) := by
        have h : Wq.opn st = (3, none, st) := by rw [HOP.out, if_pos h2]
        exact h
      rw [HX.out]
      subst h2
      go_enter Try.func10, Try.ntmps10
      go_wp2_with fail
      refine (base_any qd st F w HD.out.1 HD.out.2).mono ?_
      rintro e w1 ⟨F0, rfl, ho1⟩
      rw [← HN.out.1, HN.out.2]
      have HW1 : Hid (OnW w w1 qd st F F0) := ho1
      clear ho1
      go_wp2_with fail
      refine (specs_any7.read qd st F0 Wq.logN w1 HW1.out.dk HD.out.2.1).mono ?_
      rintro e wR ⟨F1, v, rfl, hr1, hr2, hr3, hr4⟩
      rw [← HBL.out.2] at hr1
      rw [← HY.out.1]
      have HWR : Hid (OnW w wR qd st F F1 ∧ Bs wR v b) := ⟨⟨hr3, HW1.out.mv.trans hr4⟩, hr1⟩
      obtain ⟨vb, nb, cb, rfl, hy1, hy2⟩ := hr1
      clear hr2 hr3 hr4 hy1 hy2
      go_wp2_with fail
      refine (ifThere_any y wR).mono ?_
      rintro e wI ⟨rfl, hwI⟩
      rw [hwI, HY.out.2]
      clear hwI wI
      go_wp2_with fail
      refine (scan_own (.slice vb nb cb) b wR HWR.out.2 HBL.out.1).mono ?_
      rintro e w2 ⟨l, rfl, hlo, hb2⟩
      rw [← HH.out, ← HUS.out.1]
      rw [← HRC.out.1] at hlo
      have HW2 : Hid (OnW w w2 qd st F F1 ∧ Lo w2 wR.heap.size l recs ∧ w.heap.size ≤ wR.heap.size ∧ ∀ k, F1 k → k < wR.heap.size) := ⟨HWR.out.1.later hb2, hlo, HWR.out.1.mv.size, fun k hk => HWR.out.1.dk.lt hk⟩
      obtain ⟨us, hu1, hu2⟩ := hlo
      obtain ⟨al, cl, rfl, _⟩ := row_slice hu1
      clear hu1 hu2 hb2
      go_wp2
      go_ret2
      exact open_no HW2.out.1
    · have h2b : ((hw : Int) == 2) = false := by simp; omega
      by_cases h1 : hw = 1
      · have HX : Hid (Wq.opn st = (0, some ⟨n, recs, st.lives, false⟩, (Dq.cut st Wq.logN us1).2) ∧ (Dq.cut st Wq.logN us1).1 = 0) := by
          refine ⟨by rw [HOP.out, if_neg h2, if_pos h1], ?_⟩
          have h := cut_used (st := st) HO.out (by rw [← HBL.out.2, ← HH.out]; exact h1)
          rw [← HBL.out.2, ← HUS.out.1] at h
          exact h
        rw [HX.out.1]
        subst h1
        clear h2 h2b
        go_enter Try.func10, Try.ntmps10
        go_wp2_with fail
        refine (base_any qd st F w HD.out.1 HD.out.2).mono ?_
        rintro e w1 ⟨F0, rfl, ho1⟩
        rw [← HN.out.1, HN.out.2]
        have HW1 : Hid (OnW w w1 qd st F F0) := ho1
        clear ho1
        go_wp2_with fail
        refine (specs_any7.read qd st F0 Wq.logN w1 HW1.out.dk HD.out.2.1).mono ?_
        rintro e wR ⟨F1, v, rfl, hr1, hr2, hr3, hr4⟩
        rw [← HBL.out.2] at hr1
        rw [← HY.out.1]
        have HWR : Hid (OnW w wR qd st F F1 ∧ Bs wR v b) := ⟨⟨hr3, HW1.out.mv.trans hr4⟩, hr1⟩
        obtain ⟨vb, nb, cb, rfl, hy1, hy2⟩ := hr1
        clear hr2 hr3 hr4 hy1 hy2
        go_wp2_with fail
        refine (ifThere_any y wR).mono ?_
        rintro e wI ⟨rfl, hwI⟩
        rw [hwI, HY.out.2]
        clear hwI wI
        go_wp2_with fail
        refine (scan_own (.slice vb nb cb) b wR HWR.out.2 HBL.out.1).mono ?_
        rintro e w2 ⟨l, rfl, hlo, hb2⟩
        rw [← HH.out, ← HUS.out.1]
        rw [← HRC.out.1] at hlo
        have HW2 : Hid (OnW w w2 qd st F F1 ∧ Lo w2 wR.heap.size l recs ∧ w.heap.size ≤ wR.heap.size ∧ ∀ k, F1 k → k < wR.heap.size) := ⟨HWR.out.1.later hb2, hlo, HWR.out.1.mv.size, fun k hk => HWR.out.1.dk.lt hk⟩
        obtain ⟨us, hu1, hu2⟩ := hlo
        obtain ⟨al, cl, rfl, _⟩ := row_slice hu1
        clear hu1 hu2 hb2
        go_wp2_with fail
        refine (specs_any7.cut qd st F1 Wq.logN (us1 : Int) w2 HW2.out.1.dk HD.out.2.1).mono ?_
        rintro e w3 ⟨F2, rfl, h3, h4⟩
        rw [HX.out.2]
        have HW3 : Hid (DkD w3 qd (Dq.cut st Wq.logN us1).2 F2 ∧ Moved w2 w3 F1 F2) := ⟨h3, h4⟩
        have HC4 : Hid (w3.cell? ⟨qd, 4, none⟩ = some (.int .i64 (st.lives : Int))) := by
          obtain ⟨m, D, P, V, h⟩ := h3
          have h5 : w3.cell? ⟨qd, 4, none⟩ = some (.int .i64 ((Dq.cut st Wq.logN us1).2.lives : Int)) := h.blk.cell 4
          rw [lives_cut] at h5
          exact h5
        clear h3 h4
        go_wp2_with fail
        refine (lives_same qd st.lives w3 HC4.out).mono ?_
        rintro e w4 ⟨rfl, hw4⟩
        rw [hw4]
        clear hw4 w4
        go_wp2
        go_ret2
        have h := open_yes HW2.out.1 HW2.out.2.2.1 HW2.out.2.2.2 HW2.out.2.1 HW3.out.1 HW3.out.2 HRC.out.2
        rw [← HUS.out.2] at h
        exact h
      · have HX : Hid (Wq.opn st = (0, some ⟨n, recs, st.lives, false⟩, st)) := by
          have h : Wq.opn st = (0, some ⟨n, recs, st.lives, false⟩, st) := by rw [HOP.out, if_neg h2, if_neg h1]
          exact h
        rw [HX.out]
        have h1b : ((hw : Int) == 1) = false := by simp; omega
        go_enter Try.func10, Try.ntmps10
        go_wp2_with fail
        refine (base_any qd st F w HD.out.1 HD.out.2).mono ?_
        rintro e w1 ⟨F0, rfl, ho1⟩
        rw [← HN.out.1, HN.out.2]
        have HW1 : Hid (OnW w w1 qd st F F0) := ho1
        clear ho1
        go_wp2_with fail
        refine (specs_any7.read qd st F0 Wq.logN w1 HW1.out.dk HD.out.2.1).mono ?_
        rintro e wR ⟨F1, v, rfl, hr1, hr2, hr3, hr4⟩
        rw [← HBL.out.2] at hr1
        rw [← HY.out.1]
        have HWR : Hid (OnW w wR qd st F F1 ∧ Bs wR v b) := ⟨⟨hr3, HW1.out.mv.trans hr4⟩, hr1⟩
        obtain ⟨vb, nb, cb, rfl, hy1, hy2⟩ := hr1
        clear hr2 hr3 hr4 hy1 hy2
        go_wp2_with fail
        refine (ifThere_any y wR).mono ?_
        rintro e wI ⟨rfl, hwI⟩
        rw [hwI, HY.out.2]
        clear hwI wI
        go_wp2_with fail
        refine (scan_own (.slice vb nb cb) b wR HWR.out.2 HBL.out.1).mono ?_
        rintro e w2 ⟨l, rfl, hlo, hb2⟩
        rw [← HH.out, ← HUS.out.1]
        rw [← HRC.out.1] at hlo
        have HW2 : Hid (OnW w w2 qd st F F1 ∧ Lo w2 wR.heap.size l recs ∧ w.heap.size ≤ wR.heap.size ∧ ∀ k, F1 k → k < wR.heap.size) := ⟨HWR.out.1.later hb2, hlo, HWR.out.1.mv.size, fun k hk => HWR.out.1.dk.lt hk⟩
        obtain ⟨us, hu1, hu2⟩ := hlo
        obtain ⟨al, cl, rfl, _⟩ := row_slice hu1
        clear hu1 hu2 hb2
        have HC4 : Hid (w2.cell? ⟨qd, 4, none⟩ = some (.int .i64 (st.lives : Int))) := by
          obtain ⟨m, D, P, V, h⟩ := HW2.out.1.dk
          have h5 : w2.cell? ⟨qd, 4, none⟩ = some (.int .i64 (st.lives : Int)) := h.blk.cell 4
          exact h5
        go_wp2_with fail
        refine (lives_same qd st.lives w2 HC4.out).mono ?_
        rintro e w4 ⟨rfl, hw4⟩
        rw [hw4]
        clear hw4 w4
        go_wp2
        go_ret2
        have h := open_yes HW2.out.1 HW2.out.2.2.1 HW2.out.2.2.2 HW2.out.2.1 HW2.out.1.dk (Moved.refl _ _) HRC.out.2
        rw [← HUS.out.2] at h
        exact h
  · have HX : Hid (Wq.opn st = ((baseE st).2, none, st)) := opn_base hz
    rw [HX.out]
    obtain ⟨z1, hz1⟩ : ∃ z, z = (baseE st).1 := ⟨_, rfl⟩
    obtain ⟨z2, hz2⟩ : ∃ z, z = (baseE st).2 := ⟨_, rfl⟩
    have HZ : Hid (z1 = (baseE st).1 ∧ z2 = (baseE st).2) := ⟨hz1, hz2⟩
    rw [← hz2] at hz ⊢
    clear hz1 hz2
    go_enter Try.func10, Try.ntmps10
    go_wp2_with fail
    refine (base_any qd st F w HD.out.1 HD.out.2).mono ?_
    rintro e w1 ⟨F1, rfl, h1⟩
    rw [← HZ.out.1, ← HZ.out.2]
    have HW1 : Hid (OnW w w1 qd st F F1) := h1
    clear h1
    go_wp2
    go_ret2
    exact open_no HW1.out
end Go.Proofs.Ytmbpkbdaakchiaa
