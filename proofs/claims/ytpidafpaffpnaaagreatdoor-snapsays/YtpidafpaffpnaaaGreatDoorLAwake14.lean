/- What the statements' own awake and grown answer; trees written and read back. -/
import Derived.Test.YtpidafpaffpnaaaGreatDoorTwo14
import Derived.Test.YtpidafpaffpnaaaGreatDoorLong14
namespace Go.Proofs.YtpidafpaffpnaaaGreatDoor.Tq
theorem room_doo14 (t : Tr) (o : O) (s z : Int) : (doo t o s z).2.room = t.room := by
  obtain ⟨x, t', hd⟩ : ∃ x t', doo t o s z = (x, t') := ⟨_, _, rfl⟩
  rw [hd]
  rcases doo_ok hd with ⟨_, rfl⟩ | ⟨_, _, _, ⟨_, _, _, rfl⟩ | ⟨_, _, rfl⟩ | ⟨_, n, hn, rfl⟩ | ⟨_, rfl⟩⟩ <;> rfl
theorem Gr.room {t : Tr} {m : Nat} (h : Gr t m) {r : Int} (hr : ¬ (r < 1 ∨ 500 < r)) (hl : ¬ r < (t.l.length : Int)) : Gr ⟨r, t.l⟩ m :=
  ⟨⟨h.fine.rise, by simp only []; omega, by simp only []; omega, h.fine.nodes⟩, h.few, ⟨h.snd.par, h.snd.kid, h.snd.eph, h.snd.cnt⟩, h.nums, h.own⟩
theorem Gr.dat {t : Tr} {m : Nat} (h : Gr t m) : ∀ e ∈ t.l, e.2.data.size ≤ 2000 := fun e he => by have := (h.nums e he).data; omega
theorem Gr.sixty {t : Tr} {m : Nat} (h : Gr t m) (hr : t.room = 60) : t.l.length ≤ 60 := by have := h.fine.len; omega
end Go.Proofs.YtpidafpaffpnaaaGreatDoor.Tq
namespace Go.Proofs.YtpidafpaffpnaaaGreatDoor
open Go.RowKit
section
variable {LT : Rep11} {W w : World} {q : Nat} {t : Tq.Tr} {F : Nat → Prop}
theorem Mine11.put14 (S : Specs11 LT) (G : SpecS14 LT) (h : Mine11 LT W w q t F) {m : Nat} (hg : Tq.Gr t m) :
    Calls Tryz.prog 40 #[dptr q] w fun e w' => ∃ a n c, e = .returned (.slice a n c) ∧ n = (Tq.image t.l).length ∧ w'.ownsRow w.heap.size 5 1 (.slice a n c) n (bc (Tq.image t.l)) ∧ Mine11 LT W w' q t F ∧ Below w.heap.size w w' := by
  refine (G.put q t F w h.ld h.fine hg.dat).mono ?_
  rintro e w' ⟨a, n, c, rfl, ho, hb⟩
  exact ⟨a, n, c, rfl, (Sl.own ho).1, ho, h.later S hb, hb⟩
theorem Mine11.back14 (S : Specs11 LT) (G : SpecS14 LT) (h : Mine11 LT W w q t F) (hS : Pa.Std W) (v : Value) (hv : Bs w v (Tq.image t.l)) {m : Nat} (hg : Tq.Gr t m) (hm : m ≤ 40) (hl : t.l.length ≤ 60) (room : Int) (hr : ¬ (room < 1 ∨ 500 < room)) (hle : ¬ room < (t.l.length : Int)) :
    Calls Tryz.prog 44 #[v, .int .i64 room] w fun e w' => ∃ q2 F2, e = .returned (.tuple #[dptr q2, .int .i64 0]) ∧ Two14 LT W w' q t F q2 ⟨room, t.l⟩ F2 ∧ Below w.heap.size w w' := by
  refine (G.get v (Tq.image t.l) room w hv (hg.long hm hl) (hS.below h.below)).mono ?_
  rintro e w' ⟨_, h2, hb⟩
  have hgt := hg.back (by omega) hr
  rw [if_neg hle] at hgt
  rw [hgt] at h2
  obtain ⟨q2, F2, rfl, h3, h4, h5⟩ := h2 _ rfl
  exact ⟨q2, F2, rfl, h.and14 S hb h3 h4 h5, hb⟩
theorem Mine11.less14 (G : SpecS14 LT) (h : Mine11 LT W w q t F) (hS : Pa.Std W) (v : Value) (hv : Bs w v (Tq.image t.l)) {m : Nat} (hg : Tq.Gr t m) (hm : m ≤ 40) (hl : t.l.length ≤ 60) (room : Int) (hr : ¬ (room < 1 ∨ 500 < room)) (hle : room < (t.l.length : Int)) :
    Calls Tryz.prog 44 #[v, .int .i64 room] w fun e w' => e = .returned (.tuple #[.pointer none, .int .i64 2]) ∧ Below w.heap.size w w' := by
  refine (G.get v (Tq.image t.l) room w hv (hg.long hm hl) (hS.below h.below)).mono ?_
  rintro e w' ⟨h1, _, hb⟩
  have hgt := hg.back (by omega) hr
  rw [if_pos hle] at hgt
  rw [hgt] at h1
  exact ⟨h1 rfl, hb⟩
/-- Nothing of it is read. -/
theorem get_no14 (G : SpecS14 LT) (v : Value) (ys : List UInt8) (room x : Int) (w : World) (hv : Bs w v ys) (hl : ys.length ≤ 200000) (hS : Pa.Std w) (hx : Tq.getT ys room = (x, none)) :
    Calls Tryz.prog 44 #[v, .int .i64 room] w fun e w' => e = .returned (.tuple #[.pointer none, .int .i64 x]) ∧ Below w.heap.size w w' := by
  refine (G.get v ys room w hv hl hS).mono ?_
  rintro e w' ⟨h1, _, hb⟩
  rw [hx] at h1
  exact ⟨h1 rfl, hb⟩
end
set_option maxRecDepth 20000 in
set_option maxHeartbeats 4000000 in
theorem awake_any14 {LT : Rep11} (S : Specs11 LT) (Q : SpecQ14 LT) (G : SpecS14 LT) (W : World) (hS : Pa.Std W) :
    Calls Tryz.prog 38 #[] W fun e w' => e = .returned (.bool true) ∧ Below W.heap.size W w' := by
  have HS : Hid (Specs11 LT ∧ SpecQ14 LT ∧ SpecS14 LT ∧ Pa.Std W) := ⟨S, Q, G, hS⟩
  clear S Q G hS
  go_enter Tryz.func38, Tryz.ntmps38
  go_wp2_with fail
  refine (Mine11.made14 HS.out.1 5 (by decide) (Below.refl _ W)).mono ?_
  rintro e w1 ⟨q, F1, rfl, hM, hb, hF⟩
  have M1 : Hid (Mine11 LT W w1 q ⟨5, []⟩ F1 ∧ Tq.Gr ⟨5, []⟩ 0) := ⟨hM, Tq.gr_new (by decide)⟩
  clear hM hb hF
  unfold dptr
  go_wp2_with fail
  refine (M1.out.1.put14 HS.out.1 HS.out.2.2.1 M1.out.2).mono ?_
  rintro e w2 ⟨a, n, c, rfl, hn, ho, hM, hb⟩
  have M2 : Hid (Mine11 LT W w2 q ⟨5, []⟩ F1 ∧ Bs w2 (.slice a n c) (Tq.image [])) := ⟨hM, Bs.own ho⟩
  obtain rfl : n = 8 := by rw [hn]; rfl
  clear hn ho hM hb
  go_wp2_with fail
  refine (M2.out.1.back14 HS.out.1 HS.out.2.2.1 HS.out.2.2.2 (.slice a 8 c) M2.out.2 M1.out.2 (by omega) (by simp) 5 (by decide) (by simp)).mono ?_
  rintro e w3 ⟨q2, F2, rfl, hT, hb⟩
  have M3 : Hid (Two14 LT W w3 q ⟨5, []⟩ F1 q2 ⟨5, []⟩ F2) := hT
  clear hT hb
  unfold dptr
  go_wp2_with fail
  refine (HS.out.2.1.len q2 ⟨5, []⟩ F2 w3 M3.out.two.ld).mono ?_
  rintro e w4 ⟨rfl, hb⟩
  have M4 : Hid (Two14 LT W w4 q ⟨5, []⟩ F1 q2 ⟨5, []⟩ F2) := M3.out.later HS.out.1 hb
  clear hb
  simp only [List.length_nil]
  go_wp2_with fail
  refine (HS.out.2.2.1.same q ⟨5, []⟩ F1 q2 ⟨5, []⟩ F2 w4 M4.out.one.ld M4.out.one.fine M4.out.two.ld M4.out.two.fine).mono ?_
  rintro e w5 ⟨R, rfl, hR, hb⟩
  obtain rfl : R = true := hR.2 rfl
  have M5 : Hid (Below W.heap.size W w5) := M4.out.one.below.trans (hb.mono M4.out.one.below.size)
  clear hR hb
  go_wp2
  go_ret
  exact ⟨rfl, M5.out⟩
/-- What grown answers. -/
def GrownP14 (LT : Rep11) (w : World) (os : List O) (e : Ending) (w' : World) : Prop :=
  (greatB os = true → e = .returned (.pointer none)) ∧
  (greatB os = false → ∃ q t F, e = .returned (dptr q) ∧ LT w' q t F ∧ Tq.Gr t os.length ∧ t.room = 60 ∧ ∀ k, F k → w.heap.size ≤ k) ∧ Below w.heap.size w w'
set_option maxRecDepth 20000 in
set_option maxHeartbeats 4000000 in
theorem grown_any14 {LT : Rep11} (S : Specs11 LT) (v : Value) (os : List O) (w : World) (hS : Pa.Std w) (hv : Ol w v os) (hl : os.length ≤ maxLen) (hf : ∀ o ∈ os, OFit o) :
    Calls Tryz.prog 39 #[v, .int .i64 60] w (GrownP14 LT w os) := by
  have HS : Hid (Specs11 LT ∧ Pa.Std w) := ⟨S, hS⟩
  have HA : Hid (Ol w v os ∧ os.length ≤ maxLen ∧ ∀ o ∈ os, OFit o) := ⟨hv, hl, hf⟩
  obtain ⟨aa, n, ac, rfl, hn, hjj⟩ := hv
  have HN : Hid (n = os.length) := hn
  clear S hS hl hf hn hjj
  go_enter Tryz.func39, Tryz.ntmps39
  go_wp2_with fail
  refine (long_any14 (.slice aa n ac) os w HA.out.1 HA.out.2.1).mono ?_
  rintro e w1 ⟨rfl, hb1⟩
  have HB1 : Hid (Below w.heap.size w w1) := hb1
  clear hb1
  cases hga : greatB os with
  | true =>
    have HG : Hid (greatB os = true) := hga
    clear hga
    go_wp2
    go_ret
    exact ⟨fun _ => rfl, fun h => (by rw [HG.out] at h; cases h), HB1.out⟩
  | false =>
  have HG : Hid (greatB os = false) := hga
  clear hga
  have hn20 : n ≤ 20 := by have h1 := HN.out; have h2 := (great_no14 HG.out); omega
  go_wp2_with fail
  refine (Mine11.made14 HS.out.1 60 (by decide) HB1.out).mono ?_
  rintro e w3 ⟨q, F3, rfl, hM, hb3, hF⟩
  have M3 : Hid (Mine11 LT w w3 q ⟨60, []⟩ F3) := hM
  clear hM hb3 hF
  unfold dptr
  go_wp2
  go_loopw [7] (fun i wr => ∃ (k : Nat) (t : Tq.Tr) (F : Nat → Prop), k ≤ n ∧ i = .int .i64 (k : Int) ∧ Mine11 LT w wr q t F ∧ Tq.Gr t k ∧ t.room = 60) (fun i _ => n - (intOf i).toNat)
  case atStart => exact ⟨0, _, F3, Nat.zero_le _, rfl, M3.out, Tq.gr_new (by decide), rfl⟩
  case round =>
  obtain ⟨k, t, F, hk, rfl, hM, hgr, hrm⟩ := hrel
  have M4 : Hid (Mine11 LT w wr q t F ∧ Tq.Gr t k ∧ t.room = 60) := ⟨hM, hgr, hrm⟩
  clear hM hgr hrm M3
  by_cases hlt : k < n
  · have hlt' : (k : Int) < (n : Int) := by omega
    have hk0 : (0 : Int) ≤ (k : Int) := by omega
    have hwk : IntKind.wrap .i64 ((k : Int) + 1) = (k : Int) + 1 := by rw [IntKind.wrap_i64]; omega
    have hkl : k < os.length := by rw [← HN.out]; exact hlt
    obtain ⟨g, bb, c', hv', hcs⟩ := (HA.out.1.below M4.out.1.below).at (by omega)
    simp only [Value.slice.injEq] at hv'
    obtain ⟨rfl, hq, rfl⟩ := hv'
    obtain ⟨c0, c1, c2, c3, c4⟩ := hcs k os[k] (List.getElem?_eq_getElem hkl)
    have HO : Hid (OFit os[k]) := HA.out.2.2 _ (List.getElem_mem hkl)
    generalize os[k] = o at *
    clear hcs hq hkl
    go_wp2_with fail
    clear c0 c1 c2 c3 c4
    obtain ⟨x, t5, hx⟩ : ∃ x t5, Tq.doo t o 1 (k : Int) = (x, t5) := ⟨_, _, rfl⟩
    have HX : Hid (Tq.doo t o 1 (k : Int) = (x, t5) ∧ Tq.Gr t5 (k + 1) ∧ t5.room = 60) := by
      have h1 := M4.out.2.1.doo (o := o) (s := 1) (z := (k : Int)) (by omega) (by decide) (by omega)
      have h2 := Tq.room_doo14 t o 1 (k : Int)
      rw [hx] at h1 h2
      exact ⟨hx, h1, h2.trans M4.out.2.2⟩
    clear hx
    refine (M4.out.1.doo HS.out.1 HS.out.2 o 1 (k : Int) HO.out x t5 HX.out.1 HX.out.2.1.fine).mono ?_
    rintro e w5 ⟨F5, v5, rfl, hsq, hof, hM, hmv⟩
    have M5 : Hid (Mine11 LT w w5 q t5 F5) := hM
    clear hsq hof hM hmv
    unfold rv
    go_wp2
    go_roundw
    case rel => exact ⟨k + 1, t5, F5, by omega, by go_num, M5.out, HX.out.2.1, HX.out.2.2⟩
    case measure => simp [intOf]; omega
  · have hlt' : ¬ (k : Int) < (n : Int) := by omega
    have HK : Hid (Tq.Gr t os.length) := by
      have h := M4.out.2.1
      rw [show k = os.length by have := HN.out; omega] at h
      exact h
    go_wp2
    go_ret
    exact ⟨fun h => (by rw [HG.out] at h; cases h), fun _ => ⟨q, t, F, rfl, M4.out.1.ld, HK.out, M4.out.2.2, M4.out.1.hi⟩, M4.out.1.below⟩
end Go.Proofs.YtpidafpaffpnaaaGreatDoor
