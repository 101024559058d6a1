/- What the landed stat.Put answers. -/
import Derived.Test.YtpidafpaffpnaaaGreatDoorWnd
import Derived.Test.YtpidafpaffpnaaaGreatDoorSpecB10
import Derived.Test.YtpidafpaffpnaaaGreatDoorBas
namespace Go.Proofs.YtpidafpaffpnaaaGreatDoor
open Go.RowKit

theorem flat_snoc10 {l : List ByteArray} {k : Nat} {x : ByteArray} (h : l[k]? = some x) : (l.take (k + 1)).flatMap Kq.tx = (l.take k).flatMap Kq.tx ++ Kq.tx x := by
  rw [List.take_add_one, h]
  simp
theorem bytes_flat10 (n : Kq.Kn) : Kq.bytes n = (([n.made, n.changed, n.ver, n.kids, n.owner, n.next].flatMap Pk.be8 ++ Pk.txt n.data.data.toList) ++ Pk.be8 (n.names.length : Int)) ++ n.names.flatMap Kq.tx := by
  unfold Kq.bytes Kq.tx
  simp only [List.flatMap_cons, List.flatMap_nil, List.append_assoc, List.nil_append]

set_option maxRecDepth 20000 in
set_option maxHeartbeats 8000000 in
theorem put_core10 (n : Kq.Kn) (a : Option Addr) (N c : Nat) (w : World) (h : Ss w (.slice a N c) n.names) (hN : N ≤ 1000) (hs : ∀ s ∈ n.names, s.size ≤ 150) (hd : n.data.size ≤ 2000) :
    Calls Tryz.prog 87 #[kv n (.slice a N c)] w fun e w' => ∃ u, e = .returned u ∧ Bs w' u (Kq.bytes n) ∧ (∀ k, u.ownBlock = some k → w.heap.size ≤ k) ∧ Below w.heap.size w w' := by
  have HC : Hid ((∀ (j : Nat) s, n.names[j]? = some s → ∃ g o, a = some ⟨g, o, none⟩ ∧ w.cell? ⟨g, o + j, none⟩ = some (.string s)) ∧ N = n.names.length) := by
    obtain ⟨av, k, c', e, hk, hc⟩ := h
    simp only [Value.slice.injEq] at e
    obtain ⟨rfl, rfl, rfl⟩ := e
    exact ⟨hc, hk⟩
  have HSZ : Hid (∀ s ∈ n.names, s.size ≤ 150) := hs
  have HBY : Hid (Kq.bytes n = (([n.made, n.changed, n.ver, n.kids, n.owner, n.next].flatMap Pk.be8 ++ Pk.txt n.data.data.toList) ++ Pk.be8 (N : Int)) ++ n.names.flatMap Kq.tx) := by
    have e := bytes_flat10 n
    rw [← HC.out.2] at e
    exact e
  clear h hs
  obtain ⟨q, hq⟩ : ∃ z, z = w.heap.size := ⟨_, rfl⟩
  obtain ⟨q1, hq1⟩ : ∃ z, z = w.heap.size + 1 := ⟨_, rfl⟩
  have H0 : Hid (Cb (w.alloc (.cells #[.int .i64 n.made, .int .i64 n.changed, .int .i64 n.ver, .int .i64 n.kids, .int .i64 n.owner, .int .i64 n.len, .int .i64 n.cnt, .string n.data, .int .i64 n.next, .slice a N c] 38)) q (k10 n (.slice a N c)) 38 ∧ Below w.heap.size w (w.alloc (.cells #[.int .i64 n.made, .int .i64 n.changed, .int .i64 n.ver, .int .i64 n.kids, .int .i64 n.owner, .int .i64 n.len, .int .i64 n.cnt, .string n.data, .int .i64 n.next, .slice a N c] 38))) := ⟨by rw [hq]; exact Cb.made w _ _, (Below.refl _ w).alloc (Nat.le_refl _) _⟩
  unfold kv
  go_enter Tryz.func87, Tryz.ntmps87
  go_wp2_with fail
  rw [← hq1, ← hq]
  have hq2 : q1 = (w.alloc (.cells #[.int .i64 n.made, .int .i64 n.changed, .int .i64 n.ver, .int .i64 n.kids, .int .i64 n.owner, .int .i64 n.len, .int .i64 n.cnt, .string n.data, .int .i64 n.next, .slice a N c] 38)).heap.size := by rw [hq1]; simp
  clear hq hq1
  generalize w.alloc (.cells #[.int .i64 n.made, .int .i64 n.changed, .int .i64 n.ver, .int .i64 n.kids, .int .i64 n.owner, .int .i64 n.len, .int .i64 n.cnt, .string n.data, .int .i64 n.next, .slice a N c] 38) = w0 at *
  have HZ : Hid (Bi (w0.alloc (.cells #[.int .i64 n.made, .int .i64 n.changed, .int .i64 n.ver, .int .i64 n.kids, .int .i64 n.owner, .int .i64 n.next] 2)) (.slice (some ⟨q1, 0, none⟩) 6 6) [n.made, n.changed, n.ver, n.kids, n.owner, n.next]) := by
    refine ⟨_, _, _, rfl, rfl, fun j z hz => ⟨_, _, rfl, ?_⟩⟩
    rw [Nat.zero_add, hq2]
    refine cell?_alloc_at _ _ _ _ _ _ ?_
    have e : (#[.int .i64 n.made, .int .i64 n.changed, .int .i64 n.ver, .int .i64 n.kids, .int .i64 n.owner, .int .i64 n.next] : Array Value)[j]? = ([n.made, n.changed, n.ver, n.kids, n.owner, n.next][j]?).map (Value.int .i64) := by
      rw [← List.getElem?_map, ← List.getElem?_toArray]
      rfl
    rw [e, hz]
    rfl
  have hb1 := (Below.refl _ w0).alloc (Nat.le_refl _) (.cells #[.int .i64 n.made, .int .i64 n.changed, .int .i64 n.ver, .int .i64 n.kids, .int .i64 n.owner, .int .i64 n.next] 2)
  have H1 : Hid (Cb (w0.alloc (.cells #[.int .i64 n.made, .int .i64 n.changed, .int .i64 n.ver, .int .i64 n.kids, .int .i64 n.owner, .int .i64 n.next] 2)) q (k10 n (.slice a N c)) 38 ∧ Below w.heap.size w (w0.alloc (.cells #[.int .i64 n.made, .int .i64 n.changed, .int .i64 n.ver, .int .i64 n.kids, .int .i64 n.owner, .int .i64 n.next] 2))) := ⟨H0.out.1.below hb1, H0.out.2.trans (hb1.mono H0.out.2.size)⟩
  clear hb1
  clear hq2
  generalize w0.alloc (.cells #[.int .i64 n.made, .int .i64 n.changed, .int .i64 n.ver, .int .i64 n.kids, .int .i64 n.owner, .int .i64 n.next] 2) = w1 at *
  refine (Pw.all_bs (.slice none 0 0) (.slice (some ⟨q1, 0, none⟩) 6 6) [] [n.made, n.changed, n.ver, n.kids, n.owner, n.next] w1 (Bs.nil _) HZ.out (by simp) (by show 6 ≤ 10000; decide)).mono ?_
  rintro e w2 ⟨v2, rfl, hbs, hb⟩
  rw [List.nil_append] at hbs
  have HP2 : Hid (([n.made, n.changed, n.ver, n.kids, n.owner, n.next].flatMap Pk.be8).length = 48) := by
    have e : ([n.made, n.changed, n.ver, n.kids, n.owner, n.next].flatMap Pk.be8).length = 48 := by rw [Pw.flat_len]; rfl
    exact e
  have H2 : Hid (Cb w2 q (k10 n (.slice a N c)) 38 ∧ Below w.heap.size w w2 ∧ Bs w2 v2 ([n.made, n.changed, n.ver, n.kids, n.owner, n.next].flatMap Pk.be8)) := ⟨H1.out.1.below hb, H1.out.2.trans (hb.mono H1.out.2.size), hbs⟩
  generalize [n.made, n.changed, n.ver, n.kids, n.owner, n.next].flatMap Pk.be8 = p2 at *
  obtain ⟨a2, m2, c2, rfl, hx1, hx2⟩ := hbs
  clear hb hx1 hx2
  go_wp2_with fail
  refine wp_region_held_drew (S := fun w' => w'.cell? ⟨q, 7, none⟩ = some (.string n.data) ∧ w'.cell? ⟨q, 9, none⟩ = some (.slice a N c)) (by kernel_rfl) ⟨H2.out.1.cell 7, H2.out.1.cell 9⟩ (fun _ => ?_)
  have H3 : Hid (Cb w2.drew q (k10 n (.slice a N c)) 38 ∧ Below w.heap.size w w2.drew ∧ Bs w2.drew (.slice a2 m2 c2) p2) := ⟨H2.out.1, H2.out.2.1.drew, H2.out.2.2.below (Below.refl _ _).drew⟩
  clear H2
  generalize w2.drew = w3 at *
  have HS3 : Hid (w3.cell? ⟨q, 7, none⟩ = some (.string n.data) ∧ w3.cell? ⟨q, 9, none⟩ = some (.slice a N c)) := ⟨H3.out.1.cell 7, H3.out.1.cell 9⟩
  refine' take_at (i := 0) (d := 25) (v := _) rfl rfl (by kernel_rfl) (by kernel_rfl) (by kernel_rfl) (fun _ _ _ h => h) (Or.inl ⟨by rfl, ?h0⟩) (HS3.out) ?_
  case h0 =>
    intro w hSw
    obtain ⟨hS7, hS9⟩ := hSw
    go_simp
    with_reducible rfl
  simp only [List.setIfInBounds_toArray, List.set_cons_zero, List.set_cons_succ]
  refine' take_at (i := 1) (d := 26) (v := _) rfl rfl (by kernel_rfl) (by kernel_rfl) (by kernel_rfl) (fun _ _ _ h => h) (Or.inl ⟨by rfl, ?h1⟩) (HS3.out) ?_
  case h1 =>
    intro w hSw
    obtain ⟨hS7, hS9⟩ := hSw
    go_simp
    with_reducible rfl
  simp only [List.setIfInBounds_toArray, List.set_cons_zero, List.set_cons_succ]
  refine' take_at (i := 2) (d := 27) (v := _) rfl rfl (by kernel_rfl) (by kernel_rfl) (by kernel_rfl) (fun _ _ _ h => h) (Or.inl ⟨by rfl, ?h2⟩) (HS3.out) ?_
  case h2 =>
    intro w hSw
    obtain ⟨hS7, hS9⟩ := hSw
    go_simp
    with_reducible rfl
  simp only [List.setIfInBounds_toArray, List.set_cons_zero, List.set_cons_succ]
  refine' take_at (i := 4) (d := 29) (v := _) rfl rfl (by kernel_rfl) (by kernel_rfl) (by kernel_rfl) (fun _ _ _ h => h) (Or.inl ⟨by rfl, ?h4⟩) (HS3.out) ?_
  case h4 =>
    intro w hSw
    obtain ⟨hS7, hS9⟩ := hSw
    go_simp
    with_reducible rfl
  simp only [List.setIfInBounds_toArray, List.set_cons_zero, List.set_cons_succ]
  refine' take_at (i := 5) (d := 30) (v := _) rfl rfl (by kernel_rfl) (by kernel_rfl) (by kernel_rfl) (fun _ _ _ h => h) (Or.inl ⟨by rfl, ?h5⟩) (HS3.out) ?_
  case h5 =>
    intro w hSw
    obtain ⟨hS7, hS9⟩ := hSw
    go_simp
    with_reducible rfl
  simp only [List.setIfInBounds_toArray, List.set_cons_zero, List.set_cons_succ]
  refine' take_at (i := 6) (d := 31) (v := _) rfl rfl (by kernel_rfl) (by kernel_rfl) (by kernel_rfl) (fun _ _ _ h => h) (Or.inl ⟨by rfl, ?h6⟩) (HS3.out) ?_
  case h6 =>
    intro w hSw
    obtain ⟨hS7, hS9⟩ := hSw
    go_simp
    with_reducible rfl
  simp only [List.setIfInBounds_toArray, List.set_cons_zero, List.set_cons_succ]
  refine wpAnyH_ready (rs := [3]) (by kernel_rfl) (by simp) ?_
  refine AllReadyH.cons (o := _) rfl (fun K hK => ?_) AllReadyH.nil
  go_simp
  refine (Pw.text_bs (.slice a2 m2 c2) p2 n.data w3 H3.out.2.2 (by rw [HP2.out]; decide) (by omega)).mono ?_
  rintro e w4 ⟨v4, rfl, hbs, hb⟩
  have HP4 : Hid ((p2 ++ Pk.txt n.data.data.toList).length ≤ 2056) := by
    have e : (p2 ++ Pk.txt n.data.data.toList).length ≤ 2056 := by
      have e1 : (Pk.txt n.data.data.toList).length = 8 + n.data.size := Kq.tx_len n.data
      rw [List.length_append, HP2.out, e1]
      omega
    exact e
  have H4 : Hid (Cb w4 q (k10 n (.slice a N c)) 38 ∧ Below w.heap.size w w4 ∧ Bs w4 v4 (p2 ++ Pk.txt n.data.data.toList)) := ⟨H3.out.1.below hb, H3.out.2.1.trans (hb.mono H3.out.2.1.size), hbs⟩
  clear H3 hb
  generalize p2 ++ Pk.txt n.data.data.toList = p4 at *
  obtain ⟨a4, m4, c4, rfl, hm4, hsl⟩ := hbs
  have HM4 : Hid (m4 = p4.length ∧ Sl w4 a4 c4 p4) := ⟨hm4, hsl⟩
  clear hm4 hsl
  simp only []
  refine hK.out _ _ ⟨H4.out.1.cell 7, H4.out.1.cell 9⟩ (fun _ => ?_)
  clear hK K
  refine wpAnyH_ready (rs := [7]) (by kernel_rfl) (by simp) ?_
  refine AllReadyH.cons (o := _) rfl (fun K hK => ?_) AllReadyH.nil
  go_simp
  refine (Pw.i64_any a4 m4 c4 p4 (N : Int) w4 HM4.out.1 HM4.out.2 (by have h1 := HM4.out.1; have h2 := HP4.out; omega)).mono ?_
  rintro e w5 ⟨v5, rfl, ho, hb⟩
  have HP5 : Hid ((p4 ++ Pk.be8 (N : Int)).length ≤ 2064 ∧ m4 + 8 = (p4 ++ Pk.be8 (N : Int)).length) := by
    have e : (p4 ++ Pk.be8 (N : Int)).length ≤ 2064 ∧ m4 + 8 = (p4 ++ Pk.be8 (N : Int)).length := by
      rw [List.length_append, Pk.be8_len]
      have h1 := HM4.out.1
      have h2 := HP4.out
      omega
    exact e
  have H5 : Hid (Cb w5 q (k10 n (.slice a N c)) 38 ∧ Below w.heap.size w w5 ∧ w5.ownsRow w.heap.size 5 1 v5 (p4 ++ Pk.be8 (N : Int)).length (bc (p4 ++ Pk.be8 (N : Int)))) := ⟨H4.out.1.below hb, H4.out.2.1.trans (hb.mono H4.out.2.1.size), by rw [← HP5.out.2]; exact ho.mono H4.out.2.1.size⟩
  clear ho hb
  generalize p4 ++ Pk.be8 (N : Int) = p5 at *
  obtain ⟨a5, c5, rfl⟩ := own_shape H5.out.2.2
  obtain ⟨m5, hm5⟩ : ∃ z, z = p5.length := ⟨_, rfl⟩
  rw [← hm5] at H5 ⊢
  have HM5 : Hid (m5 = p5.length) := hm5
  clear hm5
  simp only []
  refine hK.out _ _ ⟨H5.out.1.cell 7, H5.out.1.cell 9⟩ (fun _ => ?_)
  clear hK K
  refine' take_at (i := 8) (d := 3) (v := _) rfl rfl (by kernel_rfl) (by kernel_rfl) (by kernel_rfl) (fun _ _ _ h => h) (Or.inl ⟨by rfl, ?h8⟩) (⟨H5.out.1.cell 7, H5.out.1.cell 9⟩) ?_
  case h8 =>
    intro w hSw
    obtain ⟨hS7, hS9⟩ := hSw
    go_simp
    with_reducible rfl
  simp only [List.setIfInBounds_toArray, List.set_cons_zero, List.set_cons_succ]
  refine wpAnyH_done (by kernel_rfl) ?_ _
  have c9 : w5.cell? ⟨q, 9, none⟩ = some (.slice a N c) := H5.out.1.cell 9
  go_wp2
  clear c9
  go_loopw [3, 36] (fun f i wr => ∃ (k m : Nat) (ab : Option Addr) (cb : Nat), k ≤ N ∧ i = .int .i64 (k : Int) ∧ f = .slice ab m cb ∧ m = (p5 ++ (n.names.take k).flatMap Kq.tx).length ∧ wr.ownsRow w.heap.size 5 1 (.slice ab m cb) m (bc (p5 ++ (n.names.take k).flatMap Kq.tx)) ∧ Below w.heap.size w wr) (fun _ i _ => N - (intOf i).toNat)
  case atStart => exact ⟨0, m5, a5, c5, Nat.zero_le _, rfl, rfl, by simpa using HM5.out, by simpa using H5.out.2.2, H5.out.2.1⟩
  case round =>
    obtain ⟨k, m, ab, cb, hk, rfl, rfl, hm, ho, hb⟩ := hrel
    have HR : Hid (m = (p5 ++ (n.names.take k).flatMap Kq.tx).length ∧ wr.ownsRow w.heap.size 5 1 (.slice ab m cb) m (bc (p5 ++ (n.names.take k).flatMap Kq.tx)) ∧ Below w.heap.size w wr) := ⟨hm, ho, hb⟩
    clear hm ho hb
    by_cases hlt : k < N
    · have hlt' : (k : Int) < (N : Int) := by omega
      have i1 : (0 : Int) ≤ (k : Int) := by omega
      obtain ⟨x, hx⟩ : ∃ x, n.names[k]? = some x := ⟨_, List.getElem?_eq_getElem (by have := HC.out.2; omega)⟩
      have HX : Hid (n.names[k]? = some x ∧ x.size ≤ 150) := ⟨hx, HSZ.out x (List.mem_of_getElem? hx)⟩
      obtain ⟨g, o, hav, lx⟩ := HC.out.1 k x hx
      subst hav
      have lx' : wr.cell? ⟨g, o + k, none⟩ = some (.string x) := Below.kept HR.out.2.2 lx
      clear lx hx
      go_wp2_with fail
      refine (Pw.text_bs (.slice none 0 0) [] x wr (Bs.nil _) (by simp) (by have := HX.out.2; omega)).mono ?_
      rintro e w6 ⟨v6, rfl, hbs, hb⟩
      rw [List.nil_append] at hbs
      have H6 : Hid (Bs w6 v6 (Pk.txt x.data.toList) ∧ w6.ownsRow w.heap.size 5 1 (.slice ab m cb) m (bc (p5 ++ (n.names.take k).flatMap Kq.tx)) ∧ Below w.heap.size w w6) := ⟨hbs, row_stays HR.out.2.1 (fun j hj => hb.block j (HR.out.2.1.lt j hj).2), HR.out.2.2.trans (hb.mono HR.out.2.2.size)⟩
      have HL : Hid (m + (Pk.txt x.data.toList).length ≤ 1000000000 ∧ (p5 ++ (n.names.take (k + 1)).flatMap Kq.tx).length = m + (Pk.txt x.data.toList).length ∧ p5 ++ (n.names.take (k + 1)).flatMap Kq.tx = (p5 ++ (n.names.take k).flatMap Kq.tx) ++ Pk.txt x.data.toList) := by
        have e1 : (Pk.txt x.data.toList).length = 8 + x.size := Kq.tx_len x
        have e2 := HX.out.2
        have e3 := HR.out.1
        have e4 := Kq.flat_le (n.names.take k) 150 (fun s hs => HSZ.out s (List.mem_of_mem_take hs))
        have e5 : (n.names.take k).length ≤ k := List.length_take_le k _
        have e6 := HM5.out
        have e7 := HP5.out.1
        have e8 : p5 ++ (n.names.take (k + 1)).flatMap Kq.tx = (p5 ++ (n.names.take k).flatMap Kq.tx) ++ Pk.txt x.data.toList := by
          rw [flat_snoc10 HX.out.1, List.append_assoc]
          rfl
        refine ⟨?_, ?_, e8⟩
        · rw [List.length_append] at e3
          omega
        · rw [e8, List.length_append, ← e3]
      obtain ⟨a6, m6, c6, rfl, hx1, hx2⟩ := hbs
      clear hb lx' hx1 hx2
      go_wp2_with (at_builtin; refine append_bs rfl _ _ rfl w.heap.size (.slice ab m cb) (.slice a6 m6 c6) m (p5 ++ (n.names.take k).flatMap Kq.tx) (Pk.txt x.data.toList) w6 rfl rfl H6.out.2.1 H6.out.2.2.size H6.out.1 HL.out.1 ?_)
      intro v7 w7 ho hb
      obtain ⟨m7, hm7⟩ : ∃ z, z = (p5 ++ (n.names.take (k + 1)).flatMap Kq.tx).length := ⟨_, rfl⟩
      have ho7 : w7.ownsRow w.heap.size 5 1 v7 m7 (bc (p5 ++ (n.names.take (k + 1)).flatMap Kq.tx)) := by
        rw [hm7, HL.out.2.1, HL.out.2.2, List.append_assoc]
        exact ho
      obtain ⟨a7, c7, rfl⟩ := own_shape ho7
      have H7 : Hid (m7 = (p5 ++ (n.names.take (k + 1)).flatMap Kq.tx).length ∧ w7.ownsRow w.heap.size 5 1 (.slice a7 m7 c7) m7 (bc (p5 ++ (n.names.take (k + 1)).flatMap Kq.tx)) ∧ Below w.heap.size w w7) := ⟨hm7, ho7, H6.out.2.2.trans hb⟩
      clear ho hb hm7 ho7
      go_wp2
      go_roundw
      case rel => exact ⟨k + 1, m7, a7, c7, by omega, by go_num, rfl, H7.out.1, H7.out.2.1, H7.out.2.2⟩
      case measure => simp [intOf]; omega
    · obtain rfl : k = N := by omega
      have HF : Hid (Kq.bytes n = p5 ++ (n.names.take k).flatMap Kq.tx) := by
        have e : Kq.bytes n = p5 ++ (n.names.take k).flatMap Kq.tx := by rw [HBY.out, HC.out.2, List.take_length]
        exact e
      go_wp2
      go_ret
      refine ⟨_, rfl, ?_, fun j hj => (HR.out.2.1.lt j hj).1, HR.out.2.2⟩
      rw [HF.out]
      exact Bs.own HR.out.2.1
theorem put_any10 (n : Kq.Kn) (v : Value) (w : World) (h : Ss w v n.names) (hN : n.names.length ≤ 1000) (hs : ∀ s ∈ n.names, s.size ≤ 150) (hd : n.data.size ≤ 2000) :
    Calls Tryz.prog 87 #[kv n v] w fun e w' => ∃ u, e = .returned u ∧ Bs w' u (Kq.bytes n) ∧ (∀ k, u.ownBlock = some k → w.heap.size ≤ k) ∧ Below w.heap.size w w' := by
  obtain ⟨a, N, c, rfl, hk, hc⟩ := h
  exact put_core10 n a N c w ⟨_, _, _, rfl, hk, hc⟩ (by omega) hs hd
end Go.Proofs.YtpidafpaffpnaaaGreatDoor
