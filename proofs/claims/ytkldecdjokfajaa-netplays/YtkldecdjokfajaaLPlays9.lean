/- What NetPlays answers. -/
import Derived.Test.YtkldecdjokfajaaPlay9
import Derived.Deep.DeepCutAuto
import Derived.Deep.CutBlock
namespace Go.Proofs.Ytkldecdjokfajaa
open Go.RowKit

set_option maxRecDepth 20000 in
set_option maxHeartbeats 16000000 in
theorem plays_any9 {LN : RepN} (S : Specs9 LN) (nodes room : Int) (vl : Value) (acs : List Ac9) (W : World) (hl : Acl9 W vl acs) (hll : acs.length ≤ maxLen) (hfit : ∀ a ∈ acs, a.l.length ≤ maxLen) (hrow : ∀ a ∈ acs, ∀ m ∈ a.l, ∀ x ∈ m.bs, x.length ≤ 140737488355328) :
    Calls Try.prog 4 #[.int .i64 nodes, .int .i64 room, vl] W fun e w' => e = .returned (.bool true) ∧ Below W.heap.size W w' := by
  have HS : Hid (Specs9 LN) := S
  have HL : Hid (Acl9 W vl acs ∧ (∀ a ∈ acs, a.l.length ≤ maxLen) ∧ ∀ a ∈ acs, ∀ m ∈ a.l, ∀ x ∈ m.bs, x.length ≤ 140737488355328) := ⟨hl, hfit, hrow⟩
  obtain ⟨al, n, cl, rfl, hn, hX⟩ := hl
  have HN : Hid (n = acs.length) := hn
  have hn1 : n ≤ 9223372036854775807 := by unfold maxLen at hll; omega
  clear S hX hn hll hfit hrow
  go_enter Try.func4, Try.ntmps4
  go_wp2_with fail
  refine (awake_any9 HS.out W).mono ?_
  rintro e w0 ⟨rfl, hb⟩
  have B0 : Hid (Below W.heap.size W w0) := hb
  clear hb
  by_cases hbad : nodes < 1 ∨ 64 < nodes ∨ room < 1 ∨ 65536 < room
  · go_wp2_with fail
    refine (mine9_no HS.out nodes room hbad w0).mono ?_
    rintro e w1 ⟨rfl, hb⟩
    have B1 : Hid (Below W.heap.size W w1) := B0.out.trans (hb.mono B0.out.size)
    clear hb
    by_cases h1 : nodes < 1
    · go_wp2
      go_ret
      exact ⟨rfl, B1.out⟩
    · by_cases h2 : 64 < nodes
      · go_wp2
        go_ret
        exact ⟨rfl, B1.out⟩
      · by_cases h3 : room < 1
        · go_wp2
          go_ret
          exact ⟨rfl, B1.out⟩
        · have h4 : 65536 < room := by omega
          go_wp2
          go_ret
          exact ⟨rfl, B1.out⟩
  have hb1 : ¬ nodes < 1 := by omega
  have hb2 : ¬ 64 < nodes := by omega
  have hb3 : ¬ room < 1 := by omega
  have hb4 : ¬ 65536 < room := by omega
  clear hbad
  go_wp2_with fail
  refine (mine9_new HS.out B0.out nodes room (by omega) (by omega)).mono ?_
  rintro e w1 ⟨q, F1, rfl, hM⟩
  have M1 : Hid (Mine9 LN W w1 q (Nq.made nodes.toNat room.toNat) F1) := hM
  clear hM
  by_cases h80 : 80 < n
  · have h80' : (80 : Int) < (n : Int) := by omega
    go_wp2
    go_ret
    exact ⟨rfl, M1.out.below⟩
  have h80' : ¬ (80 : Int) < (n : Int) := by omega
  obtain ⟨A, rfl⟩ : ∃ z : Nat, nodes = (z : Int) := ⟨nodes.toNat, by omega⟩
  obtain ⟨R, rfl⟩ : ∃ z : Nat, room = (z : Int) := ⟨room.toNat, by omega⟩
  rw [Int.toNat_natCast, Int.toNat_natCast] at M1
  have hz := zero_net
  have hl := zways_len
  have HT1 : Hid (Two9 LN W (w1.alloc (.cells ((.int .i64 (A : Int)) :: (.int .i64 (R : Int)) :: (.slice none 0 0) :: zways).toArray 42)) q w1.heap.size (Nq.made A R) (Nq.made A R) F1 (fun _ => False) (.slice none 0 0) [] ((.int .i64 (A : Int)) :: (.int .i64 (R : Int)) :: (.slice none 0 0) :: zways)) := two9_new HS.out M1.out (by omega) (by omega) _ hl (fun i hi => zways_at hi)
  generalize zways = Z at *
  go_upto_region 9 with fail
  clear hz hl
  obtain ⟨qr, hqr⟩ : ∃ z, z = w1.heap.size := ⟨_, rfl⟩
  rw [← hqr] at HT1 ⊢
  clear hqr
  generalize w1.alloc (.cells ((.int .i64 (A : Int)) :: (.int .i64 (R : Int)) :: (.slice none 0 0) :: Z).toArray 42) = w2 at *
  go_wp2
  go_loopw [10] (fun i wr => ∃ (k : Nat) (st : Nq.Nt) (F G : Nat → Prop) (v : Value) (ts : List Mt) (C : List Value), k ≤ n ∧ i = .int .i64 (k : Int) ∧ Two9 LN W wr q qr st st F G v ts C) (fun i _ => ((n : Int) - intOf i).toNat)
  case atStart => exact ⟨0, _, _, _, _, _, _, Nat.zero_le _, rfl, HT1.out⟩
  case round =>
    obtain ⟨k, st, F, G, v, ts, C, hk, rfl, hps⟩ := hrel
    have HP : Hid (Two9 LN W wr q qr st st F G v ts C) := hps
    clear hps
    by_cases hlt : k < n
    · have hlt' : (k : Int) < (n : Int) := by omega
      have hk0 : (0 : Int) ≤ (k : Int) := by omega
      have hwk : IntKind.wrap .i64 ((k : Int) + 1) = (k : Int) + 1 := by rw [IntKind.wrap_i64]; omega
      have hkl : k < acs.length := by rw [← HN.out]; exact hlt
      obtain ⟨X, hX⟩ : ∃ X, acs[k]? = some X := ⟨_, List.getElem?_eq_getElem hkl⟩
      obtain ⟨av9, kv, cv9, hv, hkv, hz9, hcs⟩ := HL.out.1
      obtain ⟨g, o, lv, hal, hms, hcell⟩ := hcs k X hX
      simp only [Value.slice.injEq] at hv
      obtain ⟨hv1, hv2, hv3⟩ := hv
      rw [← hv1] at hal
      subst hal
      have HROW : Hid (∀ m ∈ X.l, ∀ x ∈ m.bs, x.length ≤ 140737488355328) := HL.out.2.2 X (List.mem_of_getElem? hX)
      clear hv1 hv2 hv3 hkv hz9 hcs hX hkl
      obtain ⟨op, xk, xa, xb, lost, xl⟩ := X
      obtain ⟨am, mn, cm, hlv, hz1, hz2, hz3⟩ := id hms
      subst hlv
      have HMS : Hid (Mls W (.slice am mn cm) xl ∧ mn = xl.length) := ⟨hms, hz1⟩
      clear hms hz1 hz2 hz3
      have y0 : wr.cell? ⟨g, o + k * 6, none⟩ = some (.int .i64 op) := Below.kept HP.out.below (hcell 0 _ rfl)
      have y1 : wr.cell? ⟨g, o + k * 6 + 1, none⟩ = some (.int .i64 xk) := Below.kept HP.out.below (by rw [Nat.add_assoc]; exact hcell 1 _ rfl)
      have y2 : wr.cell? ⟨g, o + k * 6 + 2, none⟩ = some (.int .i64 xa) := Below.kept HP.out.below (by rw [Nat.add_assoc]; exact hcell 2 _ rfl)
      have y3 : wr.cell? ⟨g, o + k * 6 + 3, none⟩ = some (.int .i64 xb) := Below.kept HP.out.below (by rw [Nat.add_assoc]; exact hcell 3 _ rfl)
      have y4 : wr.cell? ⟨g, o + k * 6 + 4, none⟩ = some (.bool lost) := Below.kept HP.out.below (by rw [Nat.add_assoc]; exact hcell 4 _ rfl)
      have y5 : wr.cell? ⟨g, o + k * 6 + 5, none⟩ = some (.slice am mn cm) := Below.kept HP.out.below (by rw [Nat.add_assoc]; exact hcell 5 _ rfl)
      clear hcell
      by_cases h5 : 5 < mn
      · have h5' : (5 : Int) < (mn : Int) := by omega
        have HB3 : Hid (Below W.heap.size W wr) := HP.out.below
        go_wp2
        go_ret
        exact ⟨rfl, HB3.out.alloc HB3.out.size _⟩
      have h5' : ¬ (5 : Int) < (mn : Int) := by omega
      obtain ⟨qx, hqx⟩ : ∃ z, z = wr.heap.size := ⟨_, rfl⟩
      have HPL : Hid (Pl9 LN W (wr.alloc (.cells [.int .i64 op, .int .i64 xk, .int .i64 xa, .int .i64 xb, .bool lost, .slice am mn cm].toArray 45)) q qr st st qx [.int .i64 op, .int .i64 xk, .int .i64 xa, .int .i64 xb, .bool lost, .slice am mn cm]) := by
        have hb : Below wr.heap.size wr (wr.alloc (.cells [.int .i64 op, .int .i64 xk, .int .i64 xa, .int .i64 xb, .bool lost, .slice am mn cm].toArray 45)) := (Below.refl _ wr).alloc (Nat.le_refl _) _
        refine ⟨F, G, v, ts, C, HP.out.later HS.out hb, by rw [hqx]; exact Nk.made wr _ _, fun hF => ?_, fun hG => ?_⟩
        · have := HS.out.lt HP.out.mine.ln hF
          omega
        · have := HP.out.ref.lt hG
          omega
      go_upto_region 15 with fail
      rw [← hqx]
      clear hqx y0 y1 y2 y3 y4 y5
      generalize wr.alloc (.cells [.int .i64 op, .int .i64 xk, .int .i64 xa, .int .i64 xb, .bool lost, .slice am mn cm].toArray 45) = wA at *
      have x0 : wA.cell? ⟨qx, 0, none⟩ = some (.int .i64 op) := HPL.out.cell 0
      go_upto_block 2 with fail
      go_cut [12] (fun ok wx => ok = .bool true ∧ ∃ st', Pl9 LN W wx q qr st' st' qx [.int .i64 op, .int .i64 xk, .int .i64 xa, .int .i64 xb, .bool lost, .slice am mn cm])
      case first =>
        by_cases o0 : op = 0
        · subst o0
          as_aux_lemma =>
            have HZ0 : Hid (mn ≤ 5) := by
              have h : mn ≤ 5 := by omega
              exact h
            go_wp2
            go_loopw [13, 14] (fun s i wx => ∃ j : Nat, j ≤ mn ∧ s = .int .i64 (Nq.sent st (xl.take j) : Int) ∧ i = .int .i64 (j : Int) ∧ (∀ m ∈ xl.take j, Lite m) ∧ Pl9 LN W wx q qr st (Nq.puts st (xl.take j)) qx [.int .i64 0, .int .i64 xk, .int .i64 xa, .int .i64 xb, .bool lost, .slice am mn cm]) (fun _ i _ => mn - (intOf i).toNat)
            case atStart => exact ⟨0, Nat.zero_le _, rfl, rfl, fun m hm => (by simp at hm), HPL.out⟩
            case round =>
              obtain ⟨j, hj, rfl, rfl, hlite, hpl⟩ := hrel
              have HPJ : Hid ((∀ m ∈ xl.take j, Lite m) ∧ Pl9 LN W wr q qr st (Nq.puts st (xl.take j)) qx [.int .i64 0, .int .i64 xk, .int .i64 xa, .int .i64 xb, .bool lost, .slice am mn cm]) := ⟨hlite, hpl⟩
              clear hlite hpl x0
              obtain ⟨s, hs⟩ : ∃ s, s = Nq.sent st (xl.take j) := ⟨_, rfl⟩
              have HSS : Hid (s = Nq.sent st (xl.take j)) := hs
              have hs9 : s ≤ 5 := by
                have h1 := Nq.sent_le st (xl.take j)
                have h2 := HZ0.out
                rw [List.length_take] at h1
                omega
              rw [← hs]
              clear hs
              have x5 : wr.cell? ⟨qx, 5, none⟩ = some (.slice am mn cm) := HPJ.out.2.cell 5
              by_cases hjm : j < mn
              · have hjm' : (j : Int) < (mn : Int) := by omega
                have hj0 : (0 : Int) ≤ (j : Int) := by omega
                have hwj : IntKind.wrap .i64 ((j : Int) + 1) = (j : Int) + 1 := by rw [IntKind.wrap_i64]; omega
                have hws : IntKind.wrap .i64 ((s : Int) + 1) = (s : Int) + 1 := by rw [IntKind.wrap_i64]; omega
                have hjl : j < xl.length := by rw [← HMS.out.2]; exact hjm
                obtain ⟨m, hm⟩ : ∃ m, xl[j]? = some m := ⟨_, List.getElem?_eq_getElem hjl⟩
                have HX : Hid (xl.take (j + 1) = xl.take j ++ [m] ∧ m ∈ xl) := ⟨by rw [List.take_add_one, hm]; rfl, List.mem_of_getElem? hm⟩
                obtain ⟨av8, k8, c8, hv8, hk8, hz8, hc8⟩ := HMS.out.1
                obtain ⟨gm, om, ma, mb, ham, hmpi, hcell⟩ := hc8 j m hm
                simp only [Value.slice.injEq] at hv8
                obtain ⟨hv1, hv2, hv3⟩ := hv8
                rw [← hv1] at ham
                subst ham
                have HMI : Hid (Mpi W m ma mb) := hmpi
                obtain ⟨a1, n1, c1, ea, hl1, hz1⟩ := hmpi.mp.ns
                obtain ⟨a2, n2, c2, eb, hl2, hz2⟩ := hmpi.mp.bs
                subst ea eb
                have HLL : Hid (n1 = m.ns.length ∧ n2 = m.bs.length) := ⟨hl1, hl2⟩
                have z0 : wr.cell? ⟨gm, om + j * 5, none⟩ = some (.int .i64 m.fr) := Below.kept HPJ.out.2.below (hcell 0 _ rfl)
                have z1 : wr.cell? ⟨gm, om + j * 5 + 1, none⟩ = some (.int .i64 m.to) := Below.kept HPJ.out.2.below (by rw [Nat.add_assoc]; exact hcell 1 _ rfl)
                have z2 : wr.cell? ⟨gm, om + j * 5 + 2, none⟩ = some (.int .i64 m.kind) := Below.kept HPJ.out.2.below (by rw [Nat.add_assoc]; exact hcell 2 _ rfl)
                have z3 : wr.cell? ⟨gm, om + j * 5 + 3, none⟩ = some (.slice a1 n1 c1) := Below.kept HPJ.out.2.below (by rw [Nat.add_assoc]; exact hcell 3 _ rfl)
                have z4 : wr.cell? ⟨gm, om + j * 5 + 4, none⟩ = some (.slice a2 n2 c2) := Below.kept HPJ.out.2.below (by rw [Nat.add_assoc]; exact hcell 4 _ rfl)
                clear hv1 hv2 hv3 hk8 hz8 hc8 hm hjl hmpi hcell hl1 hl2 hz1 hz2
                by_cases hn5 : 5 < n1
                · have hn5' : (5 : Int) < (n1 : Int) := by omega
                  have bn5 : decide ((5 : Int) < (n1 : Int)) = true := decide_eq_true hn5'
                  have bn6 : decide (5 < n1) = true := decide_eq_true hn5
                  go_wp2
                  go_ret
                  exact ⟨rfl, HPJ.out.2.below⟩
                have hn5' : ¬ (5 : Int) < (n1 : Int) := by omega
                have bn5 : decide ((5 : Int) < (n1 : Int)) = false := decide_eq_false hn5'
                have bn6 : decide (5 < n1) = false := decide_eq_false hn5
                by_cases hb5 : 5 < n2
                · have hb5' : (5 : Int) < (n2 : Int) := by omega
                  have bb5 : decide ((5 : Int) < (n2 : Int)) = true := decide_eq_true hb5'
                  have bb6 : decide (5 < n2) = true := decide_eq_true hb5
                  go_wp2
                  go_ret
                  exact ⟨rfl, HPJ.out.2.below⟩
                have hb5' : ¬ (5 : Int) < (n2 : Int) := by omega
                have bb5 : decide ((5 : Int) < (n2 : Int)) = false := decide_eq_false hb5'
                have bb6 : decide (5 < n2) = false := decide_eq_false hb5
                have HLI : Hid (Lite m) := ⟨by rw [← HLL.out.1]; omega, by rw [← HLL.out.2]; omega, HROW.out m HX.out.2⟩
                have HLA : Hid (∀ m ∈ xl.take (j + 1), Lite m) := fun x hx => by
                  rw [HX.out.1] at hx
                  rcases List.mem_append.1 hx with hx | hx
                  · exact HPJ.out.1 x hx
                  · simp at hx
                    rw [hx]
                    exact HLI.out
                go_wp2_with fail
                refine (nm_any m (.slice a1 n1 c1) (.slice a2 n2 c2) ⟨_, _, _, rfl⟩ ⟨_, _, _, rfl⟩ wr).mono ?_
                rintro e w5 ⟨rfl, hb⟩
                have HP5 : Hid (Pl9 LN W w5 q qr st (Nq.puts st (xl.take j)) qx [.int .i64 0, .int .i64 xk, .int .i64 xa, .int .i64 xb, .bool lost, .slice (some ⟨gm, om, none⟩) mn cm]) := HPJ.out.2.later HS.out hb
                clear hb x5 z0 z1 z2 z3 z4
                unfold mv
                cases htm : Nq.may (Nq.puts st (xl.take j)) m with
                | true =>
                  have HST : Hid (Nq.sent st (xl.take (j + 1)) = s + 1 ∧ Nq.may (Nq.puts st (xl.take j)) m = true ∧ Nq.put (Nq.puts st (xl.take j)) m = Nq.puts st (xl.take (j + 1))) := ⟨by rw [HX.out.1, Nq.sent_snoc, htm, HSS.out]; rfl, htm, by rw [HX.out.1, Nq.puts_snoc]⟩
                  clear htm
                  go_wp2_with fail
                  refine (HP5.out.refSend HS.out m a1 a2 n1 c1 n2 c2 HMI.out HLI.out true _ HST.out.2.1 HST.out.2.2).mono ?_
                  rintro e w6 ⟨rfl, h⟩
                  have HP6 : Hid (Pl9 LN W w6 q qr st (Nq.puts st (xl.take (j + 1))) qx [.int .i64 0, .int .i64 xk, .int .i64 xa, .int .i64 xb, .bool lost, .slice (some ⟨gm, om, none⟩) mn cm]) := h
                  clear h
                  go_wp2
                  go_roundw
                  case rel => exact ⟨j + 1, by omega, by rw [HST.out.1]; go_num, by go_num, HLA.out, HP6.out⟩
                  case measure => simp [intOf]; omega
                | false =>
                  have HST : Hid (Nq.sent st (xl.take (j + 1)) = s ∧ Nq.may (Nq.puts st (xl.take j)) m = false ∧ Nq.put (Nq.puts st (xl.take j)) m = Nq.puts st (xl.take (j + 1))) := ⟨by rw [HX.out.1, Nq.sent_snoc, htm, HSS.out]; rfl, htm, by rw [HX.out.1, Nq.puts_snoc]⟩
                  clear htm
                  go_wp2_with fail
                  refine (HP5.out.refSend HS.out m a1 a2 n1 c1 n2 c2 HMI.out HLI.out false _ HST.out.2.1 HST.out.2.2).mono ?_
                  rintro e w6 ⟨rfl, h⟩
                  have HP6 : Hid (Pl9 LN W w6 q qr st (Nq.puts st (xl.take (j + 1))) qx [.int .i64 0, .int .i64 xk, .int .i64 xa, .int .i64 xb, .bool lost, .slice (some ⟨gm, om, none⟩) mn cm]) := h
                  clear h
                  go_wp2
                  go_roundw
                  case rel => exact ⟨j + 1, by omega, by rw [HST.out.1], by go_num, HLA.out, HP6.out⟩
                  case measure => simp [intOf]; omega
              · have hjm' : ¬ (j : Int) < (mn : Int) := by omega
                have HE : Hid (xl.take j = xl) := by
                  have h : xl.take j = xl := List.take_of_length_le (by rw [← HMS.out.2]; omega)
                  exact h
                have HPE : Hid ((∀ m ∈ xl, Lite m) ∧ Nq.sent st xl = s ∧ Pl9 LN W wr q qr st (Nq.puts st xl) qx [.int .i64 0, .int .i64 xk, .int .i64 xa, .int .i64 xb, .bool lost, .slice am mn cm]) := by
                  have h1 := HPJ.out
                  have h2 := HSS.out
                  rw [HE.out] at h1 h2
                  exact ⟨h1.1, h2.symm, h1.2⟩
                have bS : ((s : Int) == (s : Int)) = true := by simp
                go_wp2_with fail
                refine (HPE.out.2.2.send HS.out _ xl HMS.out.1 (by have := HMS.out.2; omega) HPE.out.1 s (Nq.puts st xl) HPE.out.2.1 rfl).mono ?_
                rintro e w5 ⟨rfl, h⟩
                have HP5 : Hid (Pl9 LN W w5 q qr (Nq.puts st xl) (Nq.puts st xl) qx [.int .i64 0, .int .i64 xk, .int .i64 xa, .int .i64 xb, .bool lost, .slice am mn cm]) := h
                clear h x5
                go_wp2
                go_meet
                case rel => exact ⟨rfl, _, HP5.out⟩
        · have e0 : (op == 0) = false := by simp [o0]
          have d0 : decide (op = 0) = false := decide_eq_false o0
          by_cases o1 : op = 1
          · subst o1
            as_aux_lemma =>
              obtain ⟨tc, htc⟩ : ∃ z, z = Nq.has st xk := ⟨_, rfl⟩
              have HTC : Hid (Nq.has st xk = tc) := htc.symm
              clear htc
              obtain ⟨m, hm⟩ : ∃ z, z = Nq.at_ st xk := ⟨_, rfl⟩
              have HMM : Hid (Nq.at_ st xk = m ∧ Lite m) := ⟨hm.symm, by rw [hm]; obtain ⟨F9, G9, v9, ts9, C9, h9⟩ := HPL.out; exact lite_at h9.two.mine.fine xk⟩
              clear hm
              have b3 : (tc == tc) = true := by simp
              have x1 : wA.cell? ⟨qx, 1, none⟩ = some (.int .i64 xk) := HPL.out.cell 1
              go_wp2_with fail
              refine (HPL.out.take HS.out xk m tc HMM.out.1 HTC.out).mono ?_
              rintro e w5 ⟨a1, n1, c1, a2, n2, c2, rfl, F5, G5, v5, ts5, C5, K5, hpc, hmp, hK5⟩
              have H5 : Hid (Pc9 LN W w5 q qr (Nq.lose st xk) st F5 G5 v5 ts5 C5 qx [.int .i64 1, .int .i64 xk, .int .i64 xa, .int .i64 xb, .bool lost, .slice am mn cm] ∧ Mp w5 m (.slice a1 n1 c1) (.slice a2 n2 c2) K5 ∧ ∀ j, K5 j → ¬ Gq qr G5 j) := ⟨hpc, hmp, hK5⟩
              clear hpc hmp hK5 x0 x1
              unfold mv
              obtain ⟨p15, hp15⟩ : ∃ z, z = w5.heap.size := ⟨_, rfl⟩
              have k15 := Nk.made w5 [.int .i64 m.fr, .int .i64 m.to, .int .i64 m.kind, .slice a1 n1 c1, .slice a2 n2 c2] 31
              have b15 := (Below.refl _ w5).alloc (Nat.le_refl _) (.cells [.int .i64 m.fr, .int .i64 m.to, .int .i64 m.kind, .slice a1 n1 c1, .slice a2 n2 c2].toArray 31)
              rw [← hp15] at k15
              have H6 : Hid (Pc9 LN W (w5.alloc (.cells [.int .i64 m.fr, .int .i64 m.to, .int .i64 m.kind, .slice a1 n1 c1, .slice a2 n2 c2].toArray 31)) q qr (Nq.lose st xk) st F5 G5 v5 ts5 C5 qx [.int .i64 1, .int .i64 xk, .int .i64 xa, .int .i64 xb, .bool lost, .slice am mn cm] ∧ Mp (w5.alloc (.cells [.int .i64 m.fr, .int .i64 m.to, .int .i64 m.kind, .slice a1 n1 c1, .slice a2 n2 c2].toArray 31)) m (.slice a1 n1 c1) (.slice a2 n2 c2) (fun j => K5 j ∧ j < w5.heap.size) ∧ Nk (w5.alloc (.cells [.int .i64 m.fr, .int .i64 m.to, .int .i64 m.kind, .slice a1 n1 c1, .slice a2 n2 c2].toArray 31)) p15 [.int .i64 m.fr, .int .i64 m.to, .int .i64 m.kind, .slice a1 n1 c1, .slice a2 n2 c2] 31 ∧ ¬ Gq qr G5 p15) := ⟨H5.out.1.later HS.out b15, H5.out.2.1.lt9.keep (fun j hj => b15.block j hj.2), k15, fun hG => by have := H5.out.1.two.ref.lt hG; omega⟩
              clear k15 b15
              have x1 : (w5.alloc (.cells [.int .i64 m.fr, .int .i64 m.to, .int .i64 m.kind, .slice a1 n1 c1, .slice a2 n2 c2].toArray 31)).cell? ⟨qx, 1, none⟩ = some (.int .i64 xk) := H6.out.1.act.cell 1
              go_wp2_with fail
              rw [← hp15]
              clear hp15
              generalize w5.alloc (.cells [.int .i64 m.fr, .int .i64 m.to, .int .i64 m.kind, .slice a1 n1 c1, .slice a2 n2 c2].toArray 31) = w6 at *
              refine (H6.out.1.refTakeN HS.out H6.out.2.1 (fun j hj => H5.out.2.2 j hj.1) H6.out.2.2.1 H6.out.2.2.2 xk tc HMM.out.1 HTC.out).mono ?_
              rintro e w7 ⟨a3, n3, c3, a4, n4, c4, rfl, hbo, hnk, hpl⟩
              have H7 : Hid (Both9 w7 m (.slice a1 n1 c1) (.slice a2 n2 c2) (.slice a3 n3 c3) (.slice a4 n4 c4) ∧ Nk w7 p15 [.int .i64 m.fr, .int .i64 m.to, .int .i64 m.kind, .slice a1 n1 c1, .slice a2 n2 c2] 31 ∧ Pl9 LN W w7 q qr (Nq.lose st xk) (Nq.lose st xk) qx [.int .i64 1, .int .i64 xk, .int .i64 xa, .int .i64 xb, .bool lost, .slice am mn cm]) := ⟨hbo, hnk, hpl⟩
              clear hbo hnk hpl x1
              unfold mv
              obtain ⟨p17, hp17⟩ : ∃ z, z = w7.heap.size := ⟨_, rfl⟩
              have k17 := Nk.made w7 [.int .i64 m.fr, .int .i64 m.to, .int .i64 m.kind, .slice a3 n3 c3, .slice a4 n4 c4] 47
              have b17 := (Below.refl _ w7).alloc (Nat.le_refl _) (.cells [.int .i64 m.fr, .int .i64 m.to, .int .i64 m.kind, .slice a3 n3 c3, .slice a4 n4 c4].toArray 47)
              rw [← hp17] at k17
              go_upto_region 32 with fail
              rw [← hp17]
              generalize w7.alloc (.cells [.int .i64 m.fr, .int .i64 m.to, .int .i64 m.kind, .slice a3 n3 c3, .slice a4 n4 c4].toArray 47) = w8 at *
              have H8 : Hid (Both9 w8 m (.slice a1 n1 c1) (.slice a2 n2 c2) (.slice a3 n3 c3) (.slice a4 n4 c4) ∧ Nk w8 p15 [.int .i64 m.fr, .int .i64 m.to, .int .i64 m.kind, .slice a1 n1 c1, .slice a2 n2 c2] 31 ∧ Nk w8 p17 [.int .i64 m.fr, .int .i64 m.to, .int .i64 m.kind, .slice a3 n3 c3, .slice a4 n4 c4] 47 ∧ Pl9 LN W w8 q qr (Nq.lose st xk) (Nq.lose st xk) qx [.int .i64 1, .int .i64 xk, .int .i64 xa, .int .i64 xb, .bool lost, .slice am mn cm]) := ⟨H7.out.1.later b17, H7.out.2.1.keep (b17.block _ H7.out.2.1.lt), k17, H7.out.2.2.later HS.out b17⟩
              clear k17 b17 hp17
              have HSB : Hid (∀ w', Below w8.heap.size w8 w' → w'.cell? ⟨p15, 0, none⟩ = some (.int .i64 m.fr) ∧ w'.cell? ⟨p15, 1, none⟩ = some (.int .i64 m.to) ∧ w'.cell? ⟨p15, 2, none⟩ = some (.int .i64 m.kind) ∧ w'.cell? ⟨p15, 3, none⟩ = some (.slice a1 n1 c1) ∧ w'.cell? ⟨p15, 4, none⟩ = some (.slice a2 n2 c2) ∧ w'.cell? ⟨p17, 0, none⟩ = some (.int .i64 m.fr) ∧ w'.cell? ⟨p17, 1, none⟩ = some (.int .i64 m.to) ∧ w'.cell? ⟨p17, 2, none⟩ = some (.int .i64 m.kind) ∧ w'.cell? ⟨p17, 3, none⟩ = some (.slice a3 n3 c3) ∧ w'.cell? ⟨p17, 4, none⟩ = some (.slice a4 n4 c4)) := fun w' hb => by
                have g15 := H8.out.2.1.keep (hb.block _ H8.out.2.1.lt)
                have g17 := H8.out.2.2.1.keep (hb.block _ H8.out.2.2.1.lt)
                exact ⟨g15.cell 0, g15.cell 1, g15.cell 2, g15.cell 3, g15.cell 4, g17.cell 0, g17.cell 1, g17.cell 2, g17.cell 3, g17.cell 4⟩
              refine wp_region_held_drew (S := fun w' => w'.cell? ⟨p15, 0, none⟩ = some (.int .i64 m.fr) ∧ w'.cell? ⟨p15, 1, none⟩ = some (.int .i64 m.to) ∧ w'.cell? ⟨p15, 2, none⟩ = some (.int .i64 m.kind) ∧ w'.cell? ⟨p15, 3, none⟩ = some (.slice a1 n1 c1) ∧ w'.cell? ⟨p15, 4, none⟩ = some (.slice a2 n2 c2) ∧ w'.cell? ⟨p17, 0, none⟩ = some (.int .i64 m.fr) ∧ w'.cell? ⟨p17, 1, none⟩ = some (.int .i64 m.to) ∧ w'.cell? ⟨p17, 2, none⟩ = some (.int .i64 m.kind) ∧ w'.cell? ⟨p17, 3, none⟩ = some (.slice a3 n3 c3) ∧ w'.cell? ⟨p17, 4, none⟩ = some (.slice a4 n4 c4)) (by kernel_rfl) (HSB.out _ (Below.refl _ _).drew) (fun _ => ?_)
              have B0 : Hid (Below w8.heap.size w8 w8.drew) := (Below.refl _ _).drew
              generalize w8.drew = wX at *
              refine' take_at (i := 0) (d := 144) (v := _) rfl rfl (by kernel_rfl) (by kernel_rfl) (by kernel_rfl) (fun _ _ _ h => h) (Or.inl ⟨by rfl, ?h0⟩) ((HSB.out _ B0.out)) ?_
              case h0 => intro w hSw; go_simp; with_reducible rfl
              simp only [List.setIfInBounds_toArray, List.set_cons_zero, List.set_cons_succ]
              refine' take_at (i := 1) (d := 145) (v := _) rfl rfl (by kernel_rfl) (by kernel_rfl) (by kernel_rfl) (fun _ _ _ h => h) (Or.inl ⟨by rfl, ?h1⟩) ((HSB.out _ B0.out)) ?_
              case h1 => intro w hSw; go_simp; with_reducible rfl
              simp only [List.setIfInBounds_toArray, List.set_cons_zero, List.set_cons_succ]
              refine' take_at (i := 2) (d := 146) (v := _) rfl rfl (by kernel_rfl) (by kernel_rfl) (by kernel_rfl) (fun _ _ _ h => h) (Or.inl ⟨by rfl, ?h2⟩) ((HSB.out _ B0.out)) ?_
              case h2 => intro w hSw; go_simp; with_reducible rfl
              simp only [List.setIfInBounds_toArray, List.set_cons_zero, List.set_cons_succ]
              refine' take_at (i := 3) (d := 147) (v := _) rfl rfl (by kernel_rfl) (by kernel_rfl) (by kernel_rfl) (fun _ _ _ h => h) (Or.inl ⟨by rfl, ?h3⟩) ((HSB.out _ B0.out)) ?_
              case h3 => intro w hSw; go_simp; with_reducible rfl
              simp only [List.setIfInBounds_toArray, List.set_cons_zero, List.set_cons_succ]
              refine' take_at (i := 4) (d := 148) (v := _) rfl rfl (by kernel_rfl) (by kernel_rfl) (by kernel_rfl) (fun _ _ _ h => h) (Or.inl ⟨by rfl, ?h4⟩) ((HSB.out _ B0.out)) ?_
              case h4 => intro w hSw; obtain ⟨q0, q1, q2, q3, q4, q5, q6, q7, q8, q9⟩ := hSw; go_simp; with_reducible rfl
              simp only [List.setIfInBounds_toArray, List.set_cons_zero, List.set_cons_succ]
              refine' take_at (i := 6) (d := 150) (v := _) rfl rfl (by kernel_rfl) (by kernel_rfl) (by kernel_rfl) (fun _ _ _ h => h) (Or.inl ⟨by rfl, ?h6⟩) ((HSB.out _ B0.out)) ?_
              case h6 => intro w hSw; obtain ⟨q0, q1, q2, q3, q4, q5, q6, q7, q8, q9⟩ := hSw; go_simp; with_reducible rfl
              simp only [List.setIfInBounds_toArray, List.set_cons_zero, List.set_cons_succ]
              refine wpAnyH_ready (rs := [5]) (by kernel_rfl) (by simp) ?_
              refine AllReadyH.cons (o := _) rfl (fun K hK => ?_) AllReadyH.nil
              go_simp
              refine (nm_any m (.slice a1 n1 c1) (.slice a2 n2 c2) ⟨_, _, _, rfl⟩ ⟨_, _, _, rfl⟩ wX).mono ?_
              rintro e wY ⟨rfl, hb⟩
              have B1 : Hid (Below w8.heap.size w8 wY) := B0.out.trans (hb.mono B0.out.size)
              clear hb
              unfold mv
              refine hK.out _ _ (HSB.out _ B1.out) (fun _ => ?_)
              clear hK K
              refine wpAnyH_ready (rs := [7]) (by kernel_rfl) (by simp) ?_
              refine AllReadyH.cons (o := _) rfl (fun K hK => ?_) AllReadyH.nil
              go_simp
              refine ((H8.out.1.later B1.out).same HMM.out.2).mono ?_
              rintro e wZ ⟨rfl, hb⟩
              have B2 : Hid (Below w8.heap.size w8 wZ) := B1.out.trans (hb.mono B1.out.size)
              clear hb
              refine hK.out _ _ (HSB.out _ B2.out) (fun _ => ?_)
              clear hK K
              have HP9 : Hid (Pl9 LN W wZ q qr (Nq.lose st xk) (Nq.lose st xk) qx [.int .i64 1, .int .i64 xk, .int .i64 xa, .int .i64 xb, .bool lost, .slice am mn cm]) := H8.out.2.2.2.later HS.out B2.out
              refine' take_at (i := 8) (d := 152) (v := _) rfl rfl (by kernel_rfl) (by kernel_rfl) (by kernel_rfl) (fun _ _ _ h => h) (Or.inl ⟨by rfl, ?h8⟩) ((HSB.out _ B2.out)) ?_
              case h8 => intro w hSw; go_simp; with_reducible rfl
              simp only [List.setIfInBounds_toArray, List.set_cons_zero, List.set_cons_succ]
              refine' take_at (i := 9) (d := 12) (v := _) rfl rfl (by kernel_rfl) (by kernel_rfl) (by kernel_rfl) (fun _ _ _ h => h) (Or.inl ⟨by rfl, ?h9⟩) ((HSB.out _ B2.out)) ?_
              case h9 => intro w hSw; go_simp; with_reducible rfl
              simp only [List.setIfInBounds_toArray, List.set_cons_zero, List.set_cons_succ]
              refine wpAnyH_done (by kernel_rfl) ?_ _
              go_wp2
              go_meet
              case rel => exact ⟨rfl, _, HP9.out⟩
          · have e1 : (op == 1) = false := by simp [o1]
            have d1 : decide (op = 1) = false := decide_eq_false o1
            by_cases o2 : op = 2
            · subst o2
              as_aux_lemma =>
                obtain ⟨tc, htc⟩ : ∃ z, z = Nq.has st xk := ⟨_, rfl⟩
                have HTC : Hid (Nq.has st xk = tc) := htc.symm
                clear htc
                obtain ⟨m, hm⟩ : ∃ z, z = Nq.at_ st xk := ⟨_, rfl⟩
                have HMM : Hid (Nq.at_ st xk = m) := hm.symm
                clear hm
                have b3 : (tc == tc) = true := by simp
                have x1 : wA.cell? ⟨qx, 1, none⟩ = some (.int .i64 xk) := HPL.out.cell 1
                go_wp2_with fail
                refine (HPL.out.refTake HS.out xk m tc HMM.out HTC.out).mono ?_
                rintro e w5 ⟨a1, n1, c1, a2, n2, c2, rfl, h⟩
                have HP5 : Hid (Pl9 LN W w5 q qr st (Nq.lose st xk) qx [.int .i64 2, .int .i64 xk, .int .i64 xa, .int .i64 xb, .bool lost, .slice am mn cm]) := h
                clear h x0 x1
                unfold mv
                have HP6 : Hid (Pl9 LN W (w5.alloc (.cells [.int .i64 m.fr, .int .i64 m.to, .int .i64 m.kind, .slice a1 n1 c1, .slice a2 n2 c2].toArray 47)) q qr st (Nq.lose st xk) qx [.int .i64 2, .int .i64 xk, .int .i64 xa, .int .i64 xb, .bool lost, .slice am mn cm]) := HP5.out.later HS.out ((Below.refl _ w5).alloc (Nat.le_refl _) _)
                have x1 : (w5.alloc (.cells [.int .i64 m.fr, .int .i64 m.to, .int .i64 m.kind, .slice a1 n1 c1, .slice a2 n2 c2].toArray 47)).cell? ⟨qx, 1, none⟩ = some (.int .i64 xk) := HP6.out.cell 1
                go_wp2_with fail
                refine (HP6.out.lose HS.out xk tc HTC.out).mono ?_
                rintro e w7 ⟨rfl, h⟩
                have HP7 : Hid (Pl9 LN W w7 q qr (Nq.lose st xk) (Nq.lose st xk) qx [.int .i64 2, .int .i64 xk, .int .i64 xa, .int .i64 xb, .bool lost, .slice am mn cm]) := h
                clear h x1
                go_wp2
                go_meet
                case rel => exact ⟨rfl, _, HP7.out⟩
            · have e2 : (op == 2) = false := by simp [o2]
              have d2 : decide (op = 2) = false := decide_eq_false o2
              by_cases o3 : op = 3
              · subst o3
                as_aux_lemma =>
                  obtain ⟨tc, htc⟩ : ∃ z, z = Nq.mayCopy st xk := ⟨_, rfl⟩
                  have HTC : Hid (Nq.mayCopy st xk = tc) := htc.symm
                  clear htc
                  have b3 : (tc == tc) = true := by simp
                  go_wp2_with fail
                  refine wp_region_held_drew (S := fun w' => w'.cell? ⟨qx, 1, none⟩ = some (.int .i64 xk)) (by kernel_rfl) (HPL.out.cell 1) (fun _ => ?_)
                  have HPD : Hid (Pl9 LN W wA.drew q qr st st qx [.int .i64 3, .int .i64 xk, .int .i64 xa, .int .i64 xb, .bool lost, .slice am mn cm]) := HPL.out.later HS.out (Below.refl _ _).drew
                  clear x0
                  generalize wA.drew = wX at *
                  have SD : Hid (wX.cell? ⟨qx, 1, none⟩ = some (.int .i64 xk)) := HPD.out.cell 1
                  refine' take_at (i := 0) (d := 170) (v := _) rfl rfl (by kernel_rfl) (by kernel_rfl) (by kernel_rfl) (fun _ _ _ h => h) (Or.inl ⟨by rfl, ?h0⟩) (SD.out) ?_
                  case h0 => intro w hSw; go_simp; with_reducible rfl
                  simp only [List.setIfInBounds_toArray, List.set_cons_zero, List.set_cons_succ]
                  refine' take_at (i := 1) (d := 171) (v := _) rfl rfl (by kernel_rfl) (by kernel_rfl) (by kernel_rfl) (fun _ _ _ h => h) (Or.inl ⟨by rfl, ?h1⟩) (SD.out) ?_
                  case h1 => intro w hSw; go_simp; with_reducible rfl
                  simp only [List.setIfInBounds_toArray, List.set_cons_zero, List.set_cons_succ]
                  refine' take_at (i := 2) (d := 172) (v := _) rfl rfl (by kernel_rfl) (by kernel_rfl) (by kernel_rfl) (fun _ _ _ h => h) (Or.inl ⟨by rfl, ?h2⟩) (SD.out) ?_
                  case h2 => intro w hSw; go_simp; with_reducible rfl
                  simp only [List.setIfInBounds_toArray, List.set_cons_zero, List.set_cons_succ]
                  refine' take_at (i := 4) (d := 174) (v := _) rfl rfl (by kernel_rfl) (by kernel_rfl) (by kernel_rfl) (fun _ _ _ h => h) (Or.inl ⟨by rfl, ?h4⟩) (SD.out) ?_
                  case h4 => intro w hSw; go_simp; with_reducible rfl
                  simp only [List.setIfInBounds_toArray, List.set_cons_zero, List.set_cons_succ]
                  refine' take_at (i := 5) (d := 175) (v := _) rfl rfl (by kernel_rfl) (by kernel_rfl) (by kernel_rfl) (fun _ _ _ h => h) (Or.inl ⟨by rfl, ?h5⟩) (SD.out) ?_
                  case h5 => intro w hSw; go_simp; with_reducible rfl
                  simp only [List.setIfInBounds_toArray, List.set_cons_zero, List.set_cons_succ]
                  refine' take_at (i := 6) (d := 176) (v := _) rfl rfl (by kernel_rfl) (by kernel_rfl) (by kernel_rfl) (fun _ _ _ h => h) (Or.inl ⟨by rfl, ?h6⟩) (SD.out) ?_
                  case h6 => intro w hSw; go_simp; with_reducible rfl
                  simp only [List.setIfInBounds_toArray, List.set_cons_zero, List.set_cons_succ]
                  refine wpAnyH_ready (rs := [3]) (by kernel_rfl) (by simp) ?_
                  refine AllReadyH.cons (o := _) rfl (fun K hK => ?_) AllReadyH.nil
                  go_simp
                  refine (HPD.out.copy HS.out xk tc HTC.out).mono ?_
                  rintro e w5 ⟨rfl, h⟩
                  have HP5 : Hid (Pl9 LN W w5 q qr (Nq.copy st xk) st qx [.int .i64 3, .int .i64 xk, .int .i64 xa, .int .i64 xb, .bool lost, .slice am mn cm]) := h
                  clear h
                  have S5 : Hid (w5.cell? ⟨qx, 1, none⟩ = some (.int .i64 xk)) := HP5.out.cell 1
                  refine hK.out _ _ S5.out (fun _ => ?_)
                  clear hK K
                  refine wpAnyH_ready (rs := [7]) (by kernel_rfl) (by simp) ?_
                  refine AllReadyH.cons (o := _) rfl (fun K hK => ?_) AllReadyH.nil
                  go_simp
                  refine (HP5.out.refCopy HS.out xk tc HTC.out).mono ?_
                  rintro e w6 ⟨rfl, h⟩
                  have HP6 : Hid (Pl9 LN W w6 q qr (Nq.copy st xk) (Nq.copy st xk) qx [.int .i64 3, .int .i64 xk, .int .i64 xa, .int .i64 xb, .bool lost, .slice am mn cm]) := h
                  clear h
                  have S6 : Hid (w6.cell? ⟨qx, 1, none⟩ = some (.int .i64 xk)) := HP6.out.cell 1
                  refine hK.out _ _ S6.out (fun _ => ?_)
                  clear hK K
                  refine' take_at (i := 8) (d := 178) (v := _) rfl rfl (by kernel_rfl) (by kernel_rfl) (by kernel_rfl) (fun _ _ _ h => h) (Or.inl ⟨by rfl, ?h8⟩) (S6.out) ?_
                  case h8 => intro w hSw; go_simp; with_reducible rfl
                  simp only [List.setIfInBounds_toArray, List.set_cons_zero, List.set_cons_succ]
                  refine' take_at (i := 9) (d := 12) (v := _) rfl rfl (by kernel_rfl) (by kernel_rfl) (by kernel_rfl) (fun _ _ _ h => h) (Or.inl ⟨by rfl, ?h9⟩) (S6.out) ?_
                  case h9 => intro w hSw; go_simp; with_reducible rfl
                  simp only [List.setIfInBounds_toArray, List.set_cons_zero, List.set_cons_succ]
                  refine wpAnyH_done (by kernel_rfl) ?_ _
                  go_wp2
                  go_meet
                  case rel => exact ⟨rfl, _, HP6.out⟩
              · have e3 : (op == 3) = false := by simp [o3]
                have d3 : decide (op = 3) = false := decide_eq_false o3
                by_cases o4 : op = 4
                · subst o4
                  as_aux_lemma =>
                    have x2 : wA.cell? ⟨qx, 2, none⟩ = some (.int .i64 xa) := HPL.out.cell 2
                    have x3 : wA.cell? ⟨qx, 3, none⟩ = some (.int .i64 xb) := HPL.out.cell 3
                    have x4 : wA.cell? ⟨qx, 4, none⟩ = some (.bool lost) := HPL.out.cell 4
                    go_wp2_with fail
                    refine (HPL.out.cut HS.out xa xb lost).mono ?_
                    rintro e w5 ⟨rfl, h⟩
                    have HP5 : Hid (Pl9 LN W w5 q qr (Nq.cutW st xa xb lost) st qx [.int .i64 4, .int .i64 xk, .int .i64 xa, .int .i64 xb, .bool lost, .slice am mn cm]) := h
                    clear h x0 x2 x3 x4
                    have x2 : w5.cell? ⟨qx, 2, none⟩ = some (.int .i64 xa) := HP5.out.cell 2
                    have x3 : w5.cell? ⟨qx, 3, none⟩ = some (.int .i64 xb) := HP5.out.cell 3
                    have x4 : w5.cell? ⟨qx, 4, none⟩ = some (.bool lost) := HP5.out.cell 4
                    go_wp2_with fail
                    refine (HP5.out.refCut HS.out xa xb lost).mono ?_
                    rintro e w6 ⟨rfl, h⟩
                    have HP6 : Hid (Pl9 LN W w6 q qr (Nq.cutW st xa xb lost) (Nq.cutW st xa xb lost) qx [.int .i64 4, .int .i64 xk, .int .i64 xa, .int .i64 xb, .bool lost, .slice am mn cm]) := h
                    clear h x2 x3 x4
                    go_wp2
                    go_meet
                    case rel => exact ⟨rfl, _, HP6.out⟩
                · have e4 : (op == 4) = false := by simp [o4]
                  have d4 : decide (op = 4) = false := decide_eq_false o4
                  as_aux_lemma =>
                    go_wp2_with fail
                    refine (HPL.out.heal HS.out).mono ?_
                    rintro e w5 ⟨rfl, h⟩
                    have HP5 : Hid (Pl9 LN W w5 q qr (Nq.heal st) st qx [.int .i64 op, .int .i64 xk, .int .i64 xa, .int .i64 xb, .bool lost, .slice am mn cm]) := h
                    clear h
                    go_wp2_with fail
                    refine (HP5.out.refHeal HS.out).mono ?_
                    rintro e w6 ⟨rfl, h⟩
                    have HP6 : Hid (Pl9 LN W w6 q qr (Nq.heal st) (Nq.heal st) qx [.int .i64 op, .int .i64 xk, .int .i64 xa, .int .i64 xb, .bool lost, .slice am mn cm]) := h
                    clear h
                    go_wp2
                    go_meet
                    case rel => exact ⟨rfl, _, HP6.out⟩
      case rest =>
        as_aux_lemma =>
          obtain ⟨rfl, st5, hpl⟩ := hcut
          have HP5 : Hid (Pl9 LN W wc q qr st5 st5 qx [.int .i64 op, .int .i64 xk, .int .i64 xa, .int .i64 xb, .bool lost, .slice am mn cm]) := hpl
          clear hpl x0 HPL HP
          obtain ⟨M, hM⟩ : ∃ M, M = st5.l.length := ⟨_, rfl⟩
          have HMM : Hid (M = st5.l.length) := hM
          obtain ⟨ra, rc, hrow⟩ := HP5.out.row
          rw [← hM] at hrow
          have HRW : Hid (∀ w', Below wc.heap.size wc w' → w'.cell? ⟨qr, 2, none⟩ = some (.slice ra M rc)) := fun w' hb => Below.kept hb hrow
          clear hM hrow
          go_wp2_with fail
          refine wp_region_held_drew (S := fun w' => w'.cell? ⟨qr, 2, none⟩ = some (.slice ra M rc)) (by kernel_rfl) (HRW.out _ (Below.refl _ _).drew) (fun _ => ?_)
          have B0 : Hid (Below wc.heap.size wc wc.drew) := (Below.refl _ _).drew
          generalize wc.drew = wX at *
          refine' take_at (i := 0) (d := 197) (v := _) rfl rfl (by kernel_rfl) (by kernel_rfl) (by kernel_rfl) (fun _ _ _ h => h) (Or.inl ⟨by rfl, ?h0⟩) ((HRW.out _ B0.out)) ?_
          case h0 => intro w hSw; go_simp; with_reducible rfl
          simp only [List.setIfInBounds_toArray, List.set_cons_zero, List.set_cons_succ]
          refine' take_at (i := 1) (d := 198) (v := _) rfl rfl (by kernel_rfl) (by kernel_rfl) (by kernel_rfl) (fun _ _ _ h => h) (Or.inl ⟨by rfl, ?h1⟩) ((HRW.out _ B0.out)) ?_
          case h1 => intro w hSw; go_simp; with_reducible rfl
          simp only [List.setIfInBounds_toArray, List.set_cons_zero, List.set_cons_succ]
          refine' take_at (i := 2) (d := 199) (v := _) rfl rfl (by kernel_rfl) (by kernel_rfl) (by kernel_rfl) (fun _ _ _ h => h) (Or.inl ⟨by rfl, ?h2⟩) ((HRW.out _ B0.out)) ?_
          case h2 => intro w hSw; go_simp; with_reducible rfl
          simp only [List.setIfInBounds_toArray, List.set_cons_zero, List.set_cons_succ]
          refine' take_at (i := 3) (d := 200) (v := _) rfl rfl (by kernel_rfl) (by kernel_rfl) (by kernel_rfl) (fun _ _ _ h => h) (Or.inl ⟨by rfl, ?h3⟩) ((HRW.out _ B0.out)) ?_
          case h3 => intro w hSw; go_simp; with_reducible rfl
          simp only [List.setIfInBounds_toArray, List.set_cons_zero, List.set_cons_succ]
          refine' take_at (i := 5) (d := 202) (v := _) rfl rfl (by kernel_rfl) (by kernel_rfl) (by kernel_rfl) (fun _ _ _ h => h) (Or.inl ⟨by rfl, ?h5⟩) ((HRW.out _ B0.out)) ?_
          case h5 => intro w hSw; go_simp; with_reducible rfl
          simp only [List.setIfInBounds_toArray, List.set_cons_zero, List.set_cons_succ]
          refine' take_at (i := 6) (d := 203) (v := _) rfl rfl (by kernel_rfl) (by kernel_rfl) (by kernel_rfl) (fun _ _ _ h => h) (Or.inl ⟨by rfl, ?h6⟩) ((HRW.out _ B0.out)) ?_
          case h6 => intro w hSw; go_simp; with_reducible rfl
          simp only [List.setIfInBounds_toArray, List.set_cons_zero, List.set_cons_succ]
          refine' take_at (i := 7) (d := 204) (v := _) rfl rfl (by kernel_rfl) (by kernel_rfl) (by kernel_rfl) (fun _ _ _ h => h) (Or.inl ⟨by rfl, ?h7⟩) ((HRW.out _ B0.out)) ?_
          case h7 => intro w hSw; go_simp; with_reducible rfl
          simp only [List.setIfInBounds_toArray, List.set_cons_zero, List.set_cons_succ]
          refine' take_at (i := 8) (d := 205) (v := _) rfl rfl (by kernel_rfl) (by kernel_rfl) (by kernel_rfl) (fun _ _ _ h => h) (Or.inl ⟨by rfl, ?h8⟩) ((HRW.out _ B0.out)) ?_
          case h8 => intro w hSw; go_simp; with_reducible rfl
          simp only [List.setIfInBounds_toArray, List.set_cons_zero, List.set_cons_succ]
          refine' take_at (i := 9) (d := 206) (v := _) rfl rfl (by kernel_rfl) (by kernel_rfl) (by kernel_rfl) (fun _ _ _ h => h) (Or.inl ⟨by rfl, ?h9⟩) ((HRW.out _ B0.out)) ?_
          case h9 => intro w hSw; go_simp; with_reducible rfl
          simp only [List.setIfInBounds_toArray, List.set_cons_zero, List.set_cons_succ]
          refine wpAnyH_ready (rs := [4]) (by kernel_rfl) (by simp) ?_
          refine AllReadyH.cons (o := _) rfl (fun K hK => ?_) AllReadyH.nil
          go_simp
          refine ((HP5.out.later HS.out B0.out).len HS.out).mono ?_
          rintro e wY ⟨rfl, hb⟩
          rw [← HMM.out]
          have B1 : Hid (Below wc.heap.size wc wY) := B0.out.trans (hb.mono B0.out.size)
          clear hb
          refine hK.out _ _ (HRW.out _ B1.out) (fun _ => ?_)
          clear hK K
          have bM : ((M : Int) != (M : Int)) = false := by simp
          refine' take_at (i := 10) (d := 207) (v := _) rfl rfl (by kernel_rfl) (by kernel_rfl) (by kernel_rfl) (fun _ _ _ h => h) (Or.inl ⟨by rfl, ?h10⟩) ((HRW.out _ B1.out)) ?_
          case h10 => intro w hSw; go_simp; with_reducible rfl
          simp only [List.setIfInBounds_toArray, List.set_cons_zero, List.set_cons_succ]
          refine' take_at (i := 11) (d := 208) (v := _) rfl rfl (by kernel_rfl) (by kernel_rfl) (by kernel_rfl) (fun _ _ _ h => h) (Or.inl ⟨by rfl, ?h11⟩) ((HRW.out _ B1.out)) ?_
          case h11 => intro w hSw; go_simp; with_reducible rfl
          simp only [List.setIfInBounds_toArray, List.set_cons_zero, List.set_cons_succ]
          refine wpAnyH_done (by kernel_rfl) ?_ _
          have HP6 : Hid (Pl9 LN W wY q qr st5 st5 qx [.int .i64 op, .int .i64 xk, .int .i64 xa, .int .i64 xb, .bool lost, .slice am mn cm]) := HP5.out.later HS.out B1.out
          clear HP5 B0 B1 HRW
          have hM9 : M ≤ 65536 := by
            rw [HMM.out]
            obtain ⟨F9, G9, v9, ts9, C9, h9⟩ := HP6.out
            have h1 := h9.two.mine.fine.fits
            have h2 := h9.two.mine.fine.room
            omega
          go_wp2
          go_loopw [21] (fun i wx => ∃ j : Nat, j ≤ M ∧ i = .int .i64 (j : Int) ∧ Pl9 LN W wx q qr st5 st5 qx [.int .i64 op, .int .i64 xk, .int .i64 xa, .int .i64 xb, .bool lost, .slice am mn cm]) (fun i _ => M - (intOf i).toNat)
          case atStart => exact ⟨0, Nat.zero_le _, rfl, HP6.out⟩
          case round =>
            obtain ⟨j, hj, rfl, hpl⟩ := hrel
            have HPJ : Hid (Pl9 LN W wr q qr st5 st5 qx [.int .i64 op, .int .i64 xk, .int .i64 xa, .int .i64 xb, .bool lost, .slice am mn cm]) := hpl
            clear hpl HP6
            obtain ⟨ra, rc, hrow⟩ := HPJ.out.row
            rw [← HMM.out] at hrow
            by_cases hjM : j < M
            · have hjM' : (j : Int) < (M : Int) := by omega
              have hj0 : (0 : Int) ≤ (j : Int) := by omega
              have hwj : IntKind.wrap .i64 ((j : Int) + 1) = (j : Int) + 1 := by rw [IntKind.wrap_i64]; omega
              obtain ⟨m, hlm, hat⟩ := HPJ.out.at_ HS.out j (by rw [← HMM.out]; exact hjM)
              have HAT := hid_mk hat
              have HLM : Hid (Lite m) := hlm
              clear hat hlm
              go_wp2_with fail
              refine HAT.out.mono ?_
              rintro e w5 ⟨a1, n1, c1, a2, n2, c2, a3, n3, c3, a4, n4, c4, g9, c9, rfl, hbo, hpl, hb5, hcells⟩
              rw [← HMM.out] at hcells
              have H5 : Hid (Both9 w5 m (.slice a1 n1 c1) (.slice a2 n2 c2) (.slice a3 n3 c3) (.slice a4 n4 c4) ∧ Pl9 LN W w5 q qr st5 st5 qx [.int .i64 op, .int .i64 xk, .int .i64 xa, .int .i64 xb, .bool lost, .slice am mn cm]) := ⟨hbo, hpl⟩
              have HCL := hid_mk hcells
              clear hbo hpl hb5 hcells hrow
              unfold mv
              obtain ⟨p22, hp22⟩ : ∃ z, z = w5.heap.size := ⟨_, rfl⟩
              have k22 := Nk.made w5 [.int .i64 m.fr, .int .i64 m.to, .int .i64 m.kind, .slice a1 n1 c1, .slice a2 n2 c2] 31
              have b22 := (Below.refl _ w5).alloc (Nat.le_refl _) (.cells [.int .i64 m.fr, .int .i64 m.to, .int .i64 m.kind, .slice a1 n1 c1, .slice a2 n2 c2].toArray 31)
              rw [← hp22] at k22
              go_upto_region 47 with fail
              rw [← hp22]
              generalize w5.alloc (.cells [.int .i64 m.fr, .int .i64 m.to, .int .i64 m.kind, .slice a1 n1 c1, .slice a2 n2 c2].toArray 31) = w6 at *
              have H6 : Hid (Both9 w6 m (.slice a1 n1 c1) (.slice a2 n2 c2) (.slice a3 n3 c3) (.slice a4 n4 c4) ∧ Pl9 LN W w6 q qr st5 st5 qx [.int .i64 op, .int .i64 xk, .int .i64 xa, .int .i64 xb, .bool lost, .slice am mn cm]) := ⟨H5.out.1.later b22, H5.out.2.later HS.out b22⟩
              have HSB : Hid (∀ w', Below w6.heap.size w6 w' → w'.cell? ⟨p22, 0, none⟩ = some (.int .i64 m.fr) ∧ w'.cell? ⟨p22, 1, none⟩ = some (.int .i64 m.to) ∧ w'.cell? ⟨p22, 2, none⟩ = some (.int .i64 m.kind) ∧ w'.cell? ⟨p22, 3, none⟩ = some (.slice a1 n1 c1) ∧ w'.cell? ⟨p22, 4, none⟩ = some (.slice a2 n2 c2) ∧ w'.cell? ⟨qr, 2, none⟩ = some (.slice (some ⟨g9, 0, none⟩) M c9) ∧ w'.cell? ⟨g9, j * 5, none⟩ = some (.int .i64 m.fr) ∧ w'.cell? ⟨g9, j * 5 + 1, none⟩ = some (.int .i64 m.to) ∧ w'.cell? ⟨g9, j * 5 + 2, none⟩ = some (.int .i64 m.kind) ∧ w'.cell? ⟨g9, j * 5 + 3, none⟩ = some (.slice a3 n3 c3) ∧ w'.cell? ⟨g9, j * 5 + 4, none⟩ = some (.slice a4 n4 c4)) := fun w' hb => by
                have g22 := k22.keep (hb.block _ k22.lt)
                have hc := HCL.out w' (b22.trans (hb.mono b22.size))
                exact ⟨g22.cell 0, g22.cell 1, g22.cell 2, g22.cell 3, g22.cell 4, hc⟩
              clear k22 b22 hp22
              refine wp_region_held_drew (S := fun w' => w'.cell? ⟨p22, 0, none⟩ = some (.int .i64 m.fr) ∧ w'.cell? ⟨p22, 1, none⟩ = some (.int .i64 m.to) ∧ w'.cell? ⟨p22, 2, none⟩ = some (.int .i64 m.kind) ∧ w'.cell? ⟨p22, 3, none⟩ = some (.slice a1 n1 c1) ∧ w'.cell? ⟨p22, 4, none⟩ = some (.slice a2 n2 c2) ∧ w'.cell? ⟨qr, 2, none⟩ = some (.slice (some ⟨g9, 0, none⟩) M c9) ∧ w'.cell? ⟨g9, j * 5, none⟩ = some (.int .i64 m.fr) ∧ w'.cell? ⟨g9, j * 5 + 1, none⟩ = some (.int .i64 m.to) ∧ w'.cell? ⟨g9, j * 5 + 2, none⟩ = some (.int .i64 m.kind) ∧ w'.cell? ⟨g9, j * 5 + 3, none⟩ = some (.slice a3 n3 c3) ∧ w'.cell? ⟨g9, j * 5 + 4, none⟩ = some (.slice a4 n4 c4)) (by kernel_rfl) (HSB.out _ (Below.refl _ _).drew) (fun _ => ?_)
              have B0 : Hid (Below w6.heap.size w6 w6.drew) := (Below.refl _ _).drew
              generalize w6.drew = wX at *
              refine' take_at (i := 0) (d := 224) (v := _) rfl rfl (by kernel_rfl) (by kernel_rfl) (by kernel_rfl) (fun _ _ _ h => h) (Or.inl ⟨by rfl, ?h0⟩) ((HSB.out _ B0.out)) ?_
              case h0 => intro w hSw; go_simp; with_reducible rfl
              simp only [List.setIfInBounds_toArray, List.set_cons_zero, List.set_cons_succ]
              refine' take_at (i := 1) (d := 225) (v := _) rfl rfl (by kernel_rfl) (by kernel_rfl) (by kernel_rfl) (fun _ _ _ h => h) (Or.inl ⟨by rfl, ?h1⟩) ((HSB.out _ B0.out)) ?_
              case h1 => intro w hSw; go_simp; with_reducible rfl
              simp only [List.setIfInBounds_toArray, List.set_cons_zero, List.set_cons_succ]
              refine' take_at (i := 2) (d := 226) (v := _) rfl rfl (by kernel_rfl) (by kernel_rfl) (by kernel_rfl) (fun _ _ _ h => h) (Or.inl ⟨by rfl, ?h2⟩) ((HSB.out _ B0.out)) ?_
              case h2 => intro w hSw; go_simp; with_reducible rfl
              simp only [List.setIfInBounds_toArray, List.set_cons_zero, List.set_cons_succ]
              refine' take_at (i := 3) (d := 227) (v := _) rfl rfl (by kernel_rfl) (by kernel_rfl) (by kernel_rfl) (fun _ _ _ h => h) (Or.inl ⟨by rfl, ?h3⟩) ((HSB.out _ B0.out)) ?_
              case h3 => intro w hSw; obtain ⟨q0, q1, q2, q3, q4, q5, q6, q7, q8, q9, q10⟩ := hSw; go_simp; with_reducible rfl
              simp only [List.setIfInBounds_toArray, List.set_cons_zero, List.set_cons_succ]
              refine' take_at (i := 5) (d := 229) (v := _) rfl rfl (by kernel_rfl) (by kernel_rfl) (by kernel_rfl) (fun _ _ _ h => h) (Or.inl ⟨by rfl, ?h5⟩) ((HSB.out _ B0.out)) ?_
              case h5 => intro w hSw; go_simp; with_reducible rfl
              simp only [List.setIfInBounds_toArray, List.set_cons_zero, List.set_cons_succ]
              refine' take_at (i := 6) (d := 230) (v := _) rfl rfl (by kernel_rfl) (by kernel_rfl) (by kernel_rfl) (fun _ _ _ h => h) (Or.inl ⟨by rfl, ?h6⟩) ((HSB.out _ B0.out)) ?_
              case h6 => intro w hSw; go_simp; with_reducible rfl
              simp only [List.setIfInBounds_toArray, List.set_cons_zero, List.set_cons_succ]
              refine' take_at (i := 7) (d := 231) (v := _) rfl rfl (by kernel_rfl) (by kernel_rfl) (by kernel_rfl) (fun _ _ _ h => h) (Or.inl ⟨by rfl, ?h7⟩) ((HSB.out _ B0.out)) ?_
              case h7 => intro w hSw; go_simp; with_reducible rfl
              simp only [List.setIfInBounds_toArray, List.set_cons_zero, List.set_cons_succ]
              refine' take_at (i := 8) (d := 232) (v := _) rfl rfl (by kernel_rfl) (by kernel_rfl) (by kernel_rfl) (fun _ _ _ h => h) (Or.inl ⟨by rfl, ?h8⟩) ((HSB.out _ B0.out)) ?_
              case h8 => intro w hSw; obtain ⟨q0, q1, q2, q3, q4, q5, q6, q7, q8, q9, q10⟩ := hSw; go_simp; with_reducible rfl
              simp only [List.setIfInBounds_toArray, List.set_cons_zero, List.set_cons_succ]
              refine' take_at (i := 9) (d := 233) (v := _) rfl rfl (by kernel_rfl) (by kernel_rfl) (by kernel_rfl) (fun _ _ _ h => h) (Or.inl ⟨by rfl, ?h9⟩) ((HSB.out _ B0.out)) ?_
              case h9 => intro w hSw; go_simp; with_reducible rfl
              simp only [List.setIfInBounds_toArray, List.set_cons_zero, List.set_cons_succ]
              refine' take_at (i := 10) (d := 234) (v := _) rfl rfl (by kernel_rfl) (by kernel_rfl) (by kernel_rfl) (fun _ _ _ h => h) (Or.inl ⟨by rfl, ?h10⟩) ((HSB.out _ B0.out)) ?_
              case h10 => intro w hSw; go_simp; with_reducible rfl
              simp only [List.setIfInBounds_toArray, List.set_cons_zero, List.set_cons_succ]
              refine' take_at (i := 11) (d := 235) (v := _) rfl rfl (by kernel_rfl) (by kernel_rfl) (by kernel_rfl) (fun _ _ _ h => h) (Or.inl ⟨by rfl, ?h11⟩) ((HSB.out _ B0.out)) ?_
              case h11 => intro w hSw; obtain ⟨q0, q1, q2, q3, q4, q5, q6, q7, q8, q9, q10⟩ := hSw; go_simp; with_reducible rfl
              simp only [List.setIfInBounds_toArray, List.set_cons_zero, List.set_cons_succ]
              refine wpAnyH_ready (rs := [4]) (by kernel_rfl) (by simp) ?_
              refine AllReadyH.cons (o := _) rfl (fun K hK => ?_) AllReadyH.nil
              go_simp
              refine (nm_any m (.slice a1 n1 c1) (.slice a2 n2 c2) ⟨_, _, _, rfl⟩ ⟨_, _, _, rfl⟩ wX).mono ?_
              rintro e wY ⟨rfl, hb⟩
              have B1 : Hid (Below w6.heap.size w6 wY) := B0.out.trans (hb.mono B0.out.size)
              clear hb
              unfold mv
              refine hK.out _ _ (HSB.out _ B1.out) (fun _ => ?_)
              clear hK K
              refine wpAnyH_ready (rs := [12]) (by kernel_rfl) (by simp) ?_
              refine AllReadyH.cons (o := _) rfl (fun K hK => ?_) AllReadyH.nil
              go_simp
              refine ((H6.out.1.later B1.out).same HLM.out).mono ?_
              rintro e wZ ⟨rfl, hb⟩
              have B2 : Hid (Below w6.heap.size w6 wZ) := B1.out.trans (hb.mono B1.out.size)
              clear hb
              refine hK.out _ _ (HSB.out _ B2.out) (fun _ => ?_)
              clear hK K
              have HP7 : Hid (Pl9 LN W wZ q qr st5 st5 qx [.int .i64 op, .int .i64 xk, .int .i64 xa, .int .i64 xb, .bool lost, .slice am mn cm]) := H6.out.2.later HS.out B2.out
              refine' take_at (i := 13) (d := 237) (v := _) rfl rfl (by kernel_rfl) (by kernel_rfl) (by kernel_rfl) (fun _ _ _ h => h) (Or.inl ⟨by rfl, ?h13⟩) ((HSB.out _ B2.out)) ?_
              case h13 => intro w hSw; go_simp; with_reducible rfl
              simp only [List.setIfInBounds_toArray, List.set_cons_zero, List.set_cons_succ]
              refine' take_at (i := 14) (d := 238) (v := _) rfl rfl (by kernel_rfl) (by kernel_rfl) (by kernel_rfl) (fun _ _ _ h => h) (Or.inl ⟨by rfl, ?h14⟩) ((HSB.out _ B2.out)) ?_
              case h14 => intro w hSw; go_simp; with_reducible rfl
              simp only [List.setIfInBounds_toArray, List.set_cons_zero, List.set_cons_succ]
              refine wpAnyH_done (by kernel_rfl) ?_ _
              go_wp2
              go_roundw
              case rel => exact ⟨j + 1, by omega, by go_num, HP7.out⟩
              case measure => simp [intOf]; omega
            · have hjM' : ¬ (j : Int) < (M : Int) := by omega
              go_wp2
              go_roundw
              case rel =>
                obtain ⟨F9, G9, v9, ts9, C9, h9⟩ := HPJ.out
                exact ⟨k + 1, st5, F9, G9, v9, ts9, C9, by omega, by go_num, h9.two⟩
              case measure => simp [intOf]; omega
    · have hlt' : ¬ (k : Int) < (n : Int) := by omega
      go_wp2
      go_ret
      exact ⟨rfl, HP.out.below⟩
end Go.Proofs.Ytkldecdjokfajaa
