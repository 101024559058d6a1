/- What WalFull answers. -/
import Derived.Test.YtmbpkbdaakchiaaLAwake8
namespace Go.Proofs.Ytmbpkbdaakchiaa
open Go.RowKit

set_option maxRecDepth 20000 in
set_option maxHeartbeats 4000000 in
theorem full_any8 {LD : Rep} {LG : RepG} (S7 : Specs7 LD) (S : Specs8 LD LG) (room size : Int) (W : World) :
    Calls Try.prog 7 #[.int .i64 room, .int .i64 size] W fun e w' => e = .returned (.bool true) ∧ Below W.heap.size W w' := by
  have H7 : Hid (Specs7 LD) := S7
  have HS : Hid (Specs8 LD LG) := S
  clear S7 S
  have kc := fun (w : World) (C : Array Value) (n c : Nat) => Lib.run_convert_bytes_const (P := Try.prog) w 31 5 C n c Try.underlying31 Try.underlying5
  go_enter Try.func7, Try.ntmps7
  go_wp2_with fail
  refine (awake_any8 H7.out HS.out W).mono ?_
  rintro e w0 ⟨rfl, hb⟩
  have B0 : Hid (Below W.heap.size W w0) := hb
  clear hb
  by_cases g1 : room < 64
  · go_wp2
    go_ret
    exact ⟨rfl, B0.out⟩
  by_cases g2 : 2000 < room
  · go_wp2
    go_ret
    exact ⟨rfl, B0.out⟩
  by_cases g3 : size < 0
  · go_wp2
    go_ret
    exact ⟨rfl, B0.out⟩
  by_cases g4 : 300 < size
  · go_wp2
    go_ret
    exact ⟨rfl, B0.out⟩
  obtain ⟨R, rfl⟩ : ∃ z : Nat, room = (z : Int) := ⟨room.toNat, by omega⟩
  obtain ⟨s, rfl⟩ : ∃ z : Nat, size = (z : Int) := ⟨size.toNat, by omega⟩
  go_wp2_with fail
  refine (mine_new H7.out B0.out R (by omega)).mono ?_
  rintro e w1 ⟨qd, F1, rfl, hM⟩
  have M1 : Hid (Mine LD W w1 qd ⟨R, Wq.Fs [] false (Fr.frames []) 0, false, 1⟩ F1) := hM
  clear hM
  go_wp2_with fail
  refine (Mine.opn HS.out M1.out (roomy_fs (by omega) (by simp)) (Wq.opn_none (Or.inl ⟨rfl, rfl⟩))).mono ?_
  rintro e w2 ⟨ql, F2, G2, rfl, hD, hmv, hnw⟩
  have D2 : Hid (Duo LD LG W w2 qd ⟨R, Wq.Fs [] false (Fr.frames []) 0, false, 1⟩ F2 ql ⟨1, [], 1, false⟩ G2) := hD
  clear hD hmv hnw
  have A0 : Hid (AddS LD LG W w2 qd ql R 0 [] 1 []) := ⟨_, _, false, D2.out, fun _ => ⟨rfl, rfl⟩⟩
  go_wp2
  go_loopw [9] (fun i wr => ∃ (k : Nat) (l : List (List UInt8)), i = .int .i64 (k : Int) ∧ k ≤ 170 ∧ l.length = k ∧ (∀ r ∈ l, r.length = s) ∧ k * (12 + s) ≤ R ∧ AddS LD LG W wr qd ql R 0 [] 1 l) (fun i _ => 300 - (intOf i).toNat)
  case atStart => exact ⟨0, [], rfl, Nat.zero_le _, rfl, fun x hx => (by cases hx), by simp, A0.out⟩
  case round =>
    obtain ⟨k, l, rfl, hk, hlk, hall, hkR, hrs⟩ := hrel
    have HR : Hid (l.length = k ∧ (∀ r ∈ l, r.length = s) ∧ AddS LD LG W wr qd ql R 0 [] 1 l ∧ (Fr.frames l).length = k * (12 + s)) := ⟨hlk, hall, hrs, by rw [Fr.frames_exact l s hall, hlk]⟩
    clear hlk hall hrs
    obtain ⟨u, hu⟩ : ∃ u, u = k * (12 + s) := ⟨_, rfl⟩
    have HU : Hid (u = k * (12 + s)) := hu
    have hk12 : k * 12 ≤ u := by rw [hu]; exact Nat.mul_le_mul_left _ (by omega)
    rw [← hu] at hkR HR
    clear hu
    have hs0 : (0 : Int) ≤ (s : Int) := by omega
    go_wp2_with (at_make; refine make_some rfl _ _ rfl s _ rfl rfl (by omega) ?_)
    intro wm xs hxs hx0 hown hbm
    have HM : Hid (wm.ownsRow wr.heap.size 5 1 (.slice (some ⟨wr.heap.size, 0, none⟩) s s) s (bc xs) ∧ Below wr.heap.size wr wm ∧ xs.length = s) := ⟨hown, hbm, hxs⟩
    obtain ⟨qm, hqm⟩ : ∃ z, z = wr.heap.size := ⟨_, rfl⟩
    have HQ : Hid (qm = wr.heap.size) := hqm
    rw [← hqm]
    clear hown hbm hxs hx0 hqm
    by_cases hfit : u + (12 + s) ≤ R
    · go_wp2_with fail
      rw [HQ.out]
      refine (HR.out.2.2.1.addMade H7.out HS.out (Wq.BaseIs.low (n := 1) (Or.inl ⟨rfl, rfl⟩)) (by simp) (by omega) (by have := HR.out.1; omega) _ xs HM.out.2.1 HM.out.1 (by rw [HM.out.2.2]; omega) (by have h1 := HR.out.2.2.2; have h2 := HM.out.2.2; simp only [Dq.size, List.map_nil, List.sum_nil]; omega)).mono ?_
      rintro e wB ⟨rfl, hA⟩
      have HRB : Hid ((l ++ [xs]).length = k + 1 ∧ (∀ r ∈ l ++ [xs], r.length = s) ∧ (k + 1) * (12 + s) ≤ R ∧ AddS LD LG W wB qd ql R 0 [] 1 (l ++ [xs])) := by
        refine ⟨by rw [List.length_append, HR.out.1]; rfl, fun y hy => ?_, by rw [Nat.add_mul, ← HU.out]; omega, hA⟩
        rcases List.mem_append.1 hy with h1 | h1
        · exact HR.out.2.1 y h1
        · simp only [List.mem_singleton] at h1
          rw [h1]
          exact HM.out.2.2
      clear hA
      have hk2 : ¬ (200 : Int) < (k : Int) + 1 := by omega
      go_wp2
      go_roundw
      case rel => exact ⟨k + 1, l ++ [xs], by go_num, by omega, HRB.out.1, HRB.out.2.1, HRB.out.2.2.1, HRB.out.2.2.2⟩
      case measure => simp [intOf]; omega
    · go_wp2_with fail
      rw [HQ.out]
      refine (HR.out.2.2.1.fullMade H7.out HS.out (Wq.BaseIs.low (n := 1) (Or.inl ⟨rfl, rfl⟩)) (by simp) (by omega) (by have := HR.out.1; omega) _ xs HM.out.2.1 HM.out.1 (by rw [HM.out.2.2]; omega) (by have h1 := HR.out.2.2.2; have h2 := HM.out.2.2; simp only [Dq.size, List.map_nil, List.sum_nil]; omega)).mono ?_
      rintro e w100 ⟨rfl, F100, G100, has, g2, hD, hlk, hhas⟩
      rw [← HQ.out]
      have D100 : Hid (Duo LD LG W w100 qd ⟨R, Wq.Fs [] has (Fr.frames l) 0, false, 1⟩ F100 ql g2 G100) := hD
      have HG2 : Hid (Wq.off g2 ⟨R, Wq.Fs [] has (Fr.frames l) 0, false, 1⟩ = true ∧ g2.recs.length ≤ 9999) := ⟨hlk.off.trans (by simp [Wq.off]), by rw [hlk.recs]; have := HR.out.1; simp only []; omega⟩
      have HOP : Hid (Wq.opn ⟨R, Wq.Fs [] has (Fr.frames l) 0, false, 1⟩ = (0, some ⟨1, l, 1, false⟩, ⟨R, Wq.Fs [] has (Fr.frames l) 0, false, 1⟩)) := by
        cases has with
        | true => exact Wq.opn_whole (Or.inl ⟨rfl, rfl⟩) (fun r hr => by rw [HR.out.2.1 r hr]; omega)
        | false =>
          obtain ⟨rfl, _⟩ := hhas rfl
          exact Wq.opn_none (Or.inl ⟨rfl, rfl⟩)
      clear hD hlk hhas
      go_wp2_with fail
      refine (Mine.opn HS.out D100.out.mine (roomy_fs (by omega) (by simp)) HOP.out).mono ?_
      rintro e w101 ⟨qb, F101, Gb, rfl, hD, hmv, hnw⟩
      have D101 : Hid (Duo LD LG W w101 qd ⟨R, Wq.Fs [] has (Fr.frames l) 0, false, 1⟩ F101 ql g2 G100) := D100.out.disk HS.out hD.mine hmv
      have HB : Hid (LG w101 qb qd ⟨1, l, 1, false⟩ Gb ∧ ∀ k, Gb k → ¬ both F101 G100 k) := by
        refine ⟨hD.lg, fun k hk hb => ?_⟩
        rcases hb with h1 | h1
        · exact hD.ap k h1 hk
        · have h2 := HS.out.lt D100.out.lg h1
          have h3 := hnw k hk
          omega
      clear hD hmv hnw
      go_wp2_with fail
      refine (Duo.addAny HS.out D101.out rfl (roomy_fs (by omega) (by simp)) HG2.out.2 (.slice none 0 0) [] (Bs.nil _) (by decide) (fun h => absurd h (by decide)) (fun h => absurd h (by decide)) _ _ _ (Wq.add_dead HG2.out.1 _)).mono ?_
      rintro e w102 ⟨F102, G102, g3, rfl, hD, _, hmv⟩
      have HB2 : Hid (LG w102 qb qd ⟨1, l, 1, false⟩ Gb ∧ Below W.heap.size W w102) := ⟨(HS.out.other HB.out.1 hmv HB.out.2).1, hD.mine.below⟩
      clear hD hmv
      have hnx : Wq.next ⟨1, l, 1, false⟩ = ((k + 1 : Nat) : Int) := by
        have := HR.out.1
        simp only [Wq.next]
        omega
      go_wp2_with fail
      refine (HS.out.next qb qd ⟨1, l, 1, false⟩ Gb w102 HB2.out.1).mono ?_
      rintro e w103 ⟨rfl, hb⟩
      have HBE : Hid (Below W.heap.size W w103) := HB2.out.2.trans (hb.mono HB2.out.2.size)
      rw [hnx]
      clear hb hnx
      have hk1 : IntKind.wrap .i64 ((k : Int) + 1) = ((k + 1 : Nat) : Int) := by rw [IntKind.wrap_i64]; omega
      have hs12 : IntKind.wrap .i64 ((s : Int) + 12) = ((s + 12 : Nat) : Int) := by rw [IntKind.wrap_i64]; omega
      have hdiv : R / (s + 12) = k := by
        rw [Nat.div_eq_of_lt_le]
        · have h := HU.out; rw [Nat.add_comm 12 s] at h; omega
        · have h := HU.out; rw [Nat.add_comm 12 s] at h; rw [Nat.add_mul]; omega
      have hdd : (R : Int) / ((s : Int) + 12) = (k : Int) := by
        have h := Int.natCast_ediv R (s + 12)
        rw [hdiv] at h
        rw [h]
        congr 1
      have hw64 : wrap64 (k : Int) = (k : Int) := by unfold wrap64; omega
      clear hfit
      go_wp2
      go_ret
      exact ⟨rfl, HBE.out⟩
end Go.Proofs.Ytmbpkbdaakchiaa
