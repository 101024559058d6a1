/- What Put writes. -/
import Derived.Test.YtpjdjobdbandhaaDoorRt16
import Derived.Test.YtpjdjobdbandhaaDoorLibW
namespace Go.Proofs.YtpjdjobdbandhaaDoor
open Go.RowKit

/-- pack's writers behind what the call owns. -/
theorem text_own16 (B : Nat) (v : Value) (xs : List UInt8) (s : ByteArray) (w : World) (h : w.ownsRow B 5 1 v xs.length (bc xs)) (hB : B ≤ w.heap.size) (hN : xs.length ≤ 200000) (hs : s.size ≤ 20000) :
    Calls Tryd.prog 42 #[v, .string s] w fun e w' => ∃ v', e = .returned v' ∧ w'.ownsRow B 5 1 v' (xs ++ Pk.txt s.data.toList).length (bc (xs ++ Pk.txt s.data.toList)) ∧ Below w.heap.size w w' := by
  obtain ⟨a, c, rfl, _, _⟩ := row_form h
  obtain ⟨_, hS⟩ := Sl.own h
  refine (Pw.text_any a xs.length c xs s w rfl hS hN hs).mono ?_
  rintro e w' ⟨v', rfl, ho, hb⟩
  refine ⟨v', rfl, ?_, hb⟩
  have e : (xs ++ Pk.txt s.data.toList).length = xs.length + 8 + s.size := by
    unfold Pk.txt
    rw [List.length_append, List.length_append, Pk.be8_len, Pa.sz_list]
    omega
  rw [e]
  exact ho.mono hB
theorem i64_own16 (B : Nat) (v : Value) (xs : List UInt8) (z : Int) (w : World) (h : w.ownsRow B 5 1 v xs.length (bc xs)) (hB : B ≤ w.heap.size) (hN : xs.length ≤ 200000) :
    Calls Tryd.prog 41 #[v, .int .i64 z] w fun e w' => ∃ v', e = .returned v' ∧ w'.ownsRow B 5 1 v' (xs ++ Pk.be8 z).length (bc (xs ++ Pk.be8 z)) ∧ Below w.heap.size w w' := by
  obtain ⟨a, c, rfl, _, _⟩ := row_form h
  obtain ⟨_, hS⟩ := Sl.own h
  refine (Pw.i64_any a xs.length c xs z w rfl hS hN).mono ?_
  rintro e w' ⟨v', rfl, ho, hb⟩
  refine ⟨v', rfl, ?_, hb⟩
  rw [List.length_append, Pk.be8_len]
  exact ho.mono hB
set_option maxRecDepth 20000 in
set_option maxHeartbeats 4000000 in
theorem put_any16 (q : Nat) (s : Tb.St) (F : Nat → Prop) (m : Int) (w : World) (hL : LTb w q s F) (hf : Tb.Fine m s) :
    Calls Tryd.prog 20 #[dptr q] w fun e w' => ∃ v, e = .returned v ∧ w'.ownsRow w.heap.size 5 1 v (Tb.bytes s).length (bc (Tb.bytes s)) ∧ Below w.heap.size w w' := by
  obtain ⟨v, h, rfl⟩ := hL
  obtain ⟨N, hN⟩ : ∃ N, N = s.l.length := ⟨_, rfl⟩
  have hr := h.row
  rw [← hN] at hr
  obtain ⟨a, c, rfl, _, ha⟩ := row_form hr
  have hN64 : N ≤ 50 := by rw [hN]; exact hf.len
  have H0 : Hid (Lt16 w q s (.slice a N c) ∧ N = s.l.length ∧ (0 < N → ∃ g, a = some ⟨g, 0, none⟩) ∧ Tb.Fine m s) := ⟨h, hN, ha, hf⟩
  have c0 : w.cell? ⟨q, 0, none⟩ = some (.int .i64 s.shards) := h.blk.cell 0
  have c1 : w.cell? ⟨q, 1, none⟩ = some (.int .i64 s.version) := h.blk.cell 1
  have c2 : w.cell? ⟨q, 2, none⟩ = some (.slice a N c) := h.blk.cell 2
  clear h hf hr hN ha
  unfold dptr
  go_enter Tryd.func20, Tryd.ntmps20
  go_upto_region 1 with fail
  refine wp_region_held_drew (S := fun w' => w'.cell? ⟨q, 0, none⟩ = some (.int .i64 s.shards) ∧ w'.cell? ⟨q, 1, none⟩ = some (.int .i64 s.version) ∧ w'.cell? ⟨q, 2, none⟩ = some (.slice a N c)) (by kernel_rfl) ⟨c0, c1, c2⟩ (fun _ => ?_)
  have HSX : Hid (∀ w', Below w.heap.size w w' → w'.cell? ⟨q, 0, none⟩ = some (.int .i64 s.shards) ∧ w'.cell? ⟨q, 1, none⟩ = some (.int .i64 s.version) ∧ w'.cell? ⟨q, 2, none⟩ = some (.slice a N c)) := fun w' hb => ⟨(H0.out.1.later hb).blk.cell 0, (H0.out.1.later hb).blk.cell 1, (H0.out.1.later hb).blk.cell 2⟩
  have H1 : Hid (Below w.heap.size w w.drew) := (Below.refl _ _).drew
  clear c0 c1 c2
  generalize w.drew = wX at *
  refine' take_at (i := 0) (d := 6) (v := _) rfl rfl (by kernel_rfl) (by kernel_rfl) (by kernel_rfl) (fun _ _ _ h => h) (Or.inl ⟨by rfl, ?h0⟩) (HSX.out _ H1.out) ?_
  case h0 =>
    intro w hSw
    obtain ⟨t0, t1, t2⟩ := hSw
    go_simp
    with_reducible rfl
  simp only [List.setIfInBounds_toArray, List.set_cons_zero, List.set_cons_succ]
  refine' take_at (i := 1) (d := 7) (v := _) rfl rfl (by kernel_rfl) (by kernel_rfl) (by kernel_rfl) (fun _ _ _ h => h) (Or.inl ⟨by rfl, ?h1⟩) (HSX.out _ H1.out) ?_
  case h1 =>
    intro w hSw
    obtain ⟨t0, t1, t2⟩ := hSw
    go_simp
    with_reducible rfl
  simp only [List.setIfInBounds_toArray, List.set_cons_zero, List.set_cons_succ]
  refine' take_at (i := 2) (d := 8) (v := _) rfl rfl (by kernel_rfl) (by kernel_rfl) (by kernel_rfl) (fun _ _ _ h => h) (Or.inl ⟨by rfl, ?h2⟩) (HSX.out _ H1.out) ?_
  case h2 =>
    intro w hSw
    obtain ⟨t0, t1, t2⟩ := hSw
    go_simp
    with_reducible rfl
  simp only [List.setIfInBounds_toArray, List.set_cons_zero, List.set_cons_succ]
  refine' take_at (i := 3) (d := 9) (v := _) rfl rfl (by kernel_rfl) (by kernel_rfl) (by kernel_rfl) (fun _ _ _ h => h) (Or.inl ⟨by rfl, ?h3⟩) (HSX.out _ H1.out) ?_
  case h3 =>
    intro w hSw
    obtain ⟨t0, t1, t2⟩ := hSw
    go_simp
    with_reducible rfl
  simp only [List.setIfInBounds_toArray, List.set_cons_zero, List.set_cons_succ]
  refine' take_at (i := 4) (d := 10) (v := _) rfl rfl (by kernel_rfl) (by kernel_rfl) (by kernel_rfl) (fun _ _ _ h => h) (Or.inl ⟨by rfl, ?h4⟩) (HSX.out _ H1.out) ?_
  case h4 =>
    intro w hSw
    obtain ⟨t0, t1, t2⟩ := hSw
    go_simp
    with_reducible rfl
  simp only [List.setIfInBounds_toArray, List.set_cons_zero, List.set_cons_succ]
  refine' take_at (i := 5) (d := 11) (v := _) rfl rfl (by kernel_rfl) (by kernel_rfl) (by kernel_rfl) (fun _ _ _ h => h) (Or.inl ⟨by rfl, ?h5⟩) (HSX.out _ H1.out) ?_
  case h5 =>
    intro w hSw
    obtain ⟨t0, t1, t2⟩ := hSw
    go_simp
    with_reducible rfl
  simp only [List.setIfInBounds_toArray, List.set_cons_zero, List.set_cons_succ]
  refine' take_at (i := 6) (d := 12) (v := _) rfl rfl (by kernel_rfl) (by kernel_rfl) (by kernel_rfl) (fun _ _ _ h => h) (Or.inl ⟨by rfl, ?h6⟩) (HSX.out _ H1.out) ?_
  case h6 =>
    intro w hSw
    obtain ⟨t0, t1, t2⟩ := hSw
    go_simp
    with_reducible rfl
  simp only [List.setIfInBounds_toArray, List.set_cons_zero, List.set_cons_succ]
  refine' take_at (i := 7) (d := 13) (v := _) rfl rfl (by kernel_rfl) (by kernel_rfl) (by kernel_rfl) (fun _ _ _ h => h) (Or.inl ⟨by rfl, ?h7⟩) (HSX.out _ H1.out) ?_
  case h7 =>
    intro w hSw
    obtain ⟨t0, t1, t2⟩ := hSw
    go_simp
    with_reducible rfl
  simp only [List.setIfInBounds_toArray, List.set_cons_zero, List.set_cons_succ]
  refine' take_at (i := 8) (d := 14) (v := _) rfl rfl (by kernel_rfl) (by kernel_rfl) (by kernel_rfl) (fun _ _ _ h => h) (Or.inl ⟨by rfl, ?h8⟩) (HSX.out _ H1.out) ?_
  case h8 =>
    intro w hSw
    obtain ⟨t0, t1, t2⟩ := hSw
    go_simp
    with_reducible rfl
  simp only [List.setIfInBounds_toArray, List.set_cons_zero, List.set_cons_succ]
  refine' take_at (i := 9) (d := 15) (v := _) rfl rfl (by kernel_rfl) (by kernel_rfl) (by kernel_rfl) (fun _ _ _ h => h) (Or.inl ⟨by rfl, ?h9⟩) (HSX.out _ H1.out) ?_
  case h9 =>
    intro w hSw
    obtain ⟨t0, t1, t2⟩ := hSw
    go_simp
    with_reducible rfl
  simp only [List.setIfInBounds_toArray, List.set_cons_zero, List.set_cons_succ]
  refine' take_at (i := 10) (d := 16) (v := _) rfl rfl (by kernel_rfl) (by kernel_rfl) (by kernel_rfl) (fun _ _ _ h => h) (Or.inl ⟨by rfl, ?h10⟩) (HSX.out _ H1.out) ?_
  case h10 =>
    intro w hSw
    obtain ⟨t0, t1, t2⟩ := hSw
    go_simp
    with_reducible rfl
  simp only [List.setIfInBounds_toArray, List.set_cons_zero, List.set_cons_succ]
  refine' take_at (i := 11) (d := 17) (v := _) rfl rfl (by kernel_rfl) (by kernel_rfl) (by kernel_rfl) (fun _ _ _ h => h) (Or.inl ⟨by rfl, ?h11⟩) (HSX.out _ H1.out) ?_
  case h11 =>
    intro w hSw
    obtain ⟨t0, t1, t2⟩ := hSw
    go_simp
    with_reducible rfl
  simp only [List.setIfInBounds_toArray, List.set_cons_zero, List.set_cons_succ]
  refine' take_at (i := 12) (d := 18) (v := _) rfl rfl (by kernel_rfl) (by kernel_rfl) (by kernel_rfl) (fun _ _ _ h => h) (Or.inl ⟨by rfl, ?h12⟩) (HSX.out _ H1.out) ?_
  case h12 =>
    intro w hSw
    obtain ⟨t0, t1, t2⟩ := hSw
    go_simp
    with_reducible rfl
  simp only [List.setIfInBounds_toArray, List.set_cons_zero, List.set_cons_succ]
  refine wpAnyH_ready (rs := [13]) (by kernel_rfl) (by simp) ?_
  refine AllReadyH.cons (o := _) rfl (fun KQ hKQ => ?_) AllReadyH.nil
  go_simp
  obtain ⟨g0, hg0⟩ : ∃ z, z = wX.heap.size := ⟨_, rfl⟩
  have H2 : Hid (Below w.heap.size w (wX.alloc (.cells #[.int .i64 s.shards, .int .i64 s.version, .int .i64 (N : Int)] 2)) ∧ Cb (wX.alloc (.cells #[.int .i64 s.shards, .int .i64 s.version, .int .i64 (N : Int)] 2)) g0 [.int .i64 s.shards, .int .i64 s.version, .int .i64 (N : Int)] 2) := by
    rw [hg0]
    exact ⟨H1.out.alloc H1.out.size _, Cb.made wX _ _⟩
  rw [← hg0]
  clear hg0
  generalize (wX.alloc (.cells #[.int .i64 s.shards, .int .i64 s.version, .int .i64 (N : Int)] 2)) = w2 at *
  refine hKQ.out _ _ (HSX.out _ H2.out.1) (fun _ => ?_)
  clear hKQ KQ
  refine wpAnyH_ready (rs := [14]) (by kernel_rfl) (by simp) ?_
  refine AllReadyH.cons (o := _) rfl (fun KQ hKQ => ?_) AllReadyH.nil
  go_simp
  refine (Pw.all_some none 0 0 [] [s.shards, s.version, (N : Int)] g0 0 3 3 w2 rfl ⟨Nat.le_refl _, fun _ => ⟨rfl, rfl⟩, fun _ h => by cases h⟩ rfl (fun j z hz => ?_) (by omega) (by omega)).mono ?_
  · match j, hz with
    | 0, hz => simp at hz; subst hz; exact H2.out.2.cell 0
    | 1, hz => simp at hz; subst hz; exact H2.out.2.cell 1
    | 2, hz => simp at hz; subst hz; exact H2.out.2.cell 2
    | (j + 3), hz => simp at hz
  rintro e w3 ⟨v3, rfl, hr3, hb3⟩
  have H3 : Hid (Below w.heap.size w w3 ∧ w3.ownsRow w.heap.size 5 1 v3 (Pk.be8 s.shards ++ (Pk.be8 s.version ++ Pk.be8 (N : Int))).length (bc (Pk.be8 s.shards ++ (Pk.be8 s.version ++ Pk.be8 (N : Int))))) := ⟨H2.out.1.trans (hb3.mono H2.out.1.size), by
    have h := hr3.mono H2.out.1.size
    simpa [Pk.be8_len] using h⟩
  obtain ⟨a3, c3, e3, j1, j2⟩ := row_form H3.out.2
  obtain ⟨E3, hE3⟩ : ∃ E, E = (Pk.be8 s.shards ++ (Pk.be8 s.version ++ Pk.be8 (N : Int))).length := ⟨_, rfl⟩
  rw [← hE3] at e3
  subst e3
  have HE3 : Hid (E3 = (Pk.be8 s.shards ++ (Pk.be8 s.version ++ Pk.be8 (N : Int))).length) := hE3
  clear hr3 hb3 j1 j2 hE3 H2
  refine hKQ.out _ _ (HSX.out _ H3.out.1) (fun _ => ?_)
  clear hKQ KQ
  refine' take_at (i := 15) (d := 3) (v := _) rfl rfl (by kernel_rfl) (by kernel_rfl) (by kernel_rfl) (fun _ _ _ h => h) (Or.inl ⟨by rfl, ?h15⟩) (HSX.out _ H3.out.1) ?_
  case h15 =>
    intro w hSw
    clear hSw
    go_simp
    with_reducible rfl
  simp only [List.setIfInBounds_toArray, List.set_cons_zero, List.set_cons_succ]
  refine wpAnyH_done (by kernel_rfl) ?_ _
  have c2 : w3.cell? ⟨q, 2, none⟩ = some (.slice a N c) := (HSX.out _ H3.out.1).2.2
  go_wp2
  clear c2
  go_loopw [3, 26] (fun u i wx => ∃ k : Nat, k ≤ N ∧ i = .int .i64 (k : Int) ∧ Below w.heap.size w wx ∧ wx.ownsRow w.heap.size 5 1 u ((Pk.be8 s.shards ++ (Pk.be8 s.version ++ Pk.be8 (N : Int))) ++ Tb.flat (s.l.take k)).length (bc ((Pk.be8 s.shards ++ (Pk.be8 s.version ++ Pk.be8 (N : Int))) ++ Tb.flat (s.l.take k)))) (fun _ i _ => N - (intOf i).toNat)
  case atStart => exact ⟨0, Nat.zero_le _, rfl, H3.out.1, by simpa [Tb.flat] using H3.out.2⟩
  case round =>
    obtain ⟨k, hk, rfl, hb, hu⟩ := hrel
    obtain ⟨ua, uc, hu5, j1, j2⟩ := row_form hu
    have hlen : ((Pk.be8 s.shards ++ (Pk.be8 s.version ++ Pk.be8 (N : Int))) ++ Tb.flat (s.l.take k)).length ≤ 24 + 56 * 50 := by
      have h1 := Tb.flat_len (n := s.shards) (l := s.l.take k) (fun y hy => H0.out.2.2.2.ok y (List.mem_of_mem_take hy))
      rw [List.length_append, List.length_append, List.length_append, Pk.be8_len, Pk.be8_len, Pk.be8_len]
      rw [List.length_take] at h1
      omega
    obtain ⟨E, hE⟩ : ∃ E, E = ((Pk.be8 s.shards ++ (Pk.be8 s.version ++ Pk.be8 (N : Int))) ++ Tb.flat (s.l.take k)).length := ⟨_, rfl⟩
    rw [← hE] at hu5
    subst hu5
    have HW : Hid (Below w.heap.size w wr ∧ wr.ownsRow w.heap.size 5 1 (.slice ua E uc) ((Pk.be8 s.shards ++ (Pk.be8 s.version ++ Pk.be8 (N : Int))) ++ Tb.flat (s.l.take k)).length (bc ((Pk.be8 s.shards ++ (Pk.be8 s.version ++ Pk.be8 (N : Int))) ++ Tb.flat (s.l.take k))) ∧ ((Pk.be8 s.shards ++ (Pk.be8 s.version ++ Pk.be8 (N : Int))) ++ Tb.flat (s.l.take k)).length ≤ 24 + 56 * 50) := ⟨hb, hu, hlen⟩
    clear hb hu hE j1 j2 hlen H3 HE3
    by_cases hlt : k < N
    · have hlt' : (k : Int) < (N : Int) := by omega
      have hk0 : (0 : Int) ≤ (k : Int) := by omega
      have hwk : IntKind.wrap .i64 ((k : Int) + 1) = (k : Int) + 1 := by rw [IntKind.wrap_i64]; omega
      obtain ⟨g, hg⟩ := H0.out.2.2.1 (by omega)
      subst hg
      obtain ⟨x, hx⟩ : ∃ x, s.l[k]? = some x := ⟨s.l[k]'(by rw [← H0.out.2.1]; exact hlt), List.getElem?_eq_getElem _⟩
      have HX : Hid (((Pk.be8 s.shards ++ (Pk.be8 s.version ++ Pk.be8 (N : Int))) ++ Tb.flat (s.l.take (k + 1))) = ((Pk.be8 s.shards ++ (Pk.be8 s.version ++ Pk.be8 (N : Int))) ++ Tb.flat (s.l.take k)) ++ Pk.txt x.top.data.toList ++ Pk.be8 x.shard ∧ x.top.size ≤ 40) := ⟨by
        rw [List.take_add_one, hx, Tb.flat_app]
        simp [Tb.flat, Tb.rec1], by
        have := (Tb.name_len (H0.out.2.2.2.ok x (List.mem_of_getElem? hx)).nm).2
        rw [Pa.sz_list] at this
        exact this⟩
      have hr := (H0.out.1.later HW.out.1).row
      rw [← H0.out.2.1] at hr
      obtain ⟨r0, r1⟩ := row_at16 hr hx
      clear hx hr
      obtain ⟨xb, hxb⟩ : ∃ z, z = wr.heap.size := ⟨_, rfl⟩
      have H4 : Hid (Below w.heap.size w (wr.alloc (.cells #[.string x.top, .int .i64 x.shard] 68)) ∧ (wr.alloc (.cells #[.string x.top, .int .i64 x.shard] 68)).ownsRow w.heap.size 5 1 (.slice ua E uc) ((Pk.be8 s.shards ++ (Pk.be8 s.version ++ Pk.be8 (N : Int))) ++ Tb.flat (s.l.take k)).length (bc ((Pk.be8 s.shards ++ (Pk.be8 s.version ++ Pk.be8 (N : Int))) ++ Tb.flat (s.l.take k))) ∧ Cb (wr.alloc (.cells #[.string x.top, .int .i64 x.shard] 68)) xb (mc x) 68) := by
        rw [hxb]
        exact ⟨HW.out.1.alloc HW.out.1.size _, HW.out.2.1.alloc _, Cb.made wr (mc x) _⟩
      go_upto_region 5 with fail
      rw [← hxb]
      clear hxb r0 r1
      generalize (wr.alloc (.cells #[.string x.top, .int .i64 x.shard] 68)) = w3 at *
      refine wp_region_held_drew (S := fun w' => w'.cell? ⟨xb, 0, none⟩ = some (.string x.top) ∧ w'.cell? ⟨xb, 1, none⟩ = some (.int .i64 x.shard)) (by kernel_rfl) ⟨H4.out.2.2.cell 0, H4.out.2.2.cell 1⟩ (fun _ => ?_)
      have H5 : Hid (Below w.heap.size w w3.drew ∧ w3.drew.ownsRow w.heap.size 5 1 (.slice ua E uc) ((Pk.be8 s.shards ++ (Pk.be8 s.version ++ Pk.be8 (N : Int))) ++ Tb.flat (s.l.take k)).length (bc ((Pk.be8 s.shards ++ (Pk.be8 s.version ++ Pk.be8 (N : Int))) ++ Tb.flat (s.l.take k))) ∧ Cb w3.drew xb (mc x) 68) := ⟨H4.out.1.drew, row_stays H4.out.2.1 fun _ _ => rfl, H4.out.2.2⟩
      clear H4
      generalize w3.drew = w4 at *
      refine' take_at (i := 0) (d := 30) (v := _) rfl rfl (by kernel_rfl) (by kernel_rfl) (by kernel_rfl) (fun _ _ _ h => h) (Or.inl ⟨by rfl, ?h0⟩) (⟨H5.out.2.2.cell 0, H5.out.2.2.cell 1⟩) ?_
      case h0 =>
        intro w hSw
        obtain ⟨t0, t1⟩ := hSw
        go_simp
        with_reducible rfl
      simp only [List.setIfInBounds_toArray, List.set_cons_zero, List.set_cons_succ]
      refine' take_at (i := 1) (d := 31) (v := _) rfl rfl (by kernel_rfl) (by kernel_rfl) (by kernel_rfl) (fun _ _ _ h => h) (Or.inl ⟨by rfl, ?h1⟩) (⟨H5.out.2.2.cell 0, H5.out.2.2.cell 1⟩) ?_
      case h1 =>
        intro w hSw
        obtain ⟨t0, t1⟩ := hSw
        go_simp
        with_reducible rfl
      simp only [List.setIfInBounds_toArray, List.set_cons_zero, List.set_cons_succ]
      refine' take_at (i := 2) (d := 32) (v := _) rfl rfl (by kernel_rfl) (by kernel_rfl) (by kernel_rfl) (fun _ _ _ h => h) (Or.inl ⟨by rfl, ?h2⟩) (⟨H5.out.2.2.cell 0, H5.out.2.2.cell 1⟩) ?_
      case h2 =>
        intro w hSw
        obtain ⟨t0, t1⟩ := hSw
        go_simp
        with_reducible rfl
      simp only [List.setIfInBounds_toArray, List.set_cons_zero, List.set_cons_succ]
      refine' take_at (i := 4) (d := 34) (v := _) rfl rfl (by kernel_rfl) (by kernel_rfl) (by kernel_rfl) (fun _ _ _ h => h) (Or.inl ⟨by rfl, ?h4⟩) (⟨H5.out.2.2.cell 0, H5.out.2.2.cell 1⟩) ?_
      case h4 =>
        intro w hSw
        obtain ⟨t0, t1⟩ := hSw
        go_simp
        with_reducible rfl
      simp only [List.setIfInBounds_toArray, List.set_cons_zero, List.set_cons_succ]
      refine' take_at (i := 5) (d := 35) (v := _) rfl rfl (by kernel_rfl) (by kernel_rfl) (by kernel_rfl) (fun _ _ _ h => h) (Or.inl ⟨by rfl, ?h5⟩) (⟨H5.out.2.2.cell 0, H5.out.2.2.cell 1⟩) ?_
      case h5 =>
        intro w hSw
        obtain ⟨t0, t1⟩ := hSw
        go_simp
        with_reducible rfl
      simp only [List.setIfInBounds_toArray, List.set_cons_zero, List.set_cons_succ]
      refine wpAnyH_ready (rs := [3]) (by kernel_rfl) (by simp) ?_
      refine AllReadyH.cons (o := _) rfl (fun KQ hKQ => ?_) AllReadyH.nil
      go_simp
      refine (text_own16 w.heap.size _ _ x.top w4 H5.out.2.1 H5.out.1.size (by have := HW.out.2.2; omega) (by have := HX.out.2; omega)).mono ?_
      rintro e w5 ⟨v5, rfl, hr5, hb5⟩
      have H6 : Hid (Below w.heap.size w w5 ∧ w5.ownsRow w.heap.size 5 1 v5 (((Pk.be8 s.shards ++ (Pk.be8 s.version ++ Pk.be8 (N : Int))) ++ Tb.flat (s.l.take k)) ++ Pk.txt x.top.data.toList).length (bc (((Pk.be8 s.shards ++ (Pk.be8 s.version ++ Pk.be8 (N : Int))) ++ Tb.flat (s.l.take k)) ++ Pk.txt x.top.data.toList)) ∧ Cb w5 xb (mc x) 68) := ⟨H5.out.1.trans (hb5.mono H5.out.1.size), hr5, H5.out.2.2.below hb5⟩
      clear hr5 hb5 H5
      refine hKQ.out _ _ ⟨H6.out.2.2.cell 0, H6.out.2.2.cell 1⟩ (fun _ => ?_)
      clear hKQ KQ
      refine wpAnyH_ready (rs := [6]) (by kernel_rfl) (by simp) ?_
      refine AllReadyH.cons (o := _) rfl (fun KQ hKQ => ?_) AllReadyH.nil
      go_simp
      refine (i64_own16 w.heap.size _ _ x.shard w5 H6.out.2.1 H6.out.1.size (by
        have h1 := HW.out.2.2
        have h2 := HX.out.2
        have h3 : (Pk.txt x.top.data.toList).length = 8 + x.top.size := by unfold Pk.txt; rw [List.length_append, Pk.be8_len, Pa.sz_list]
        rw [List.length_append, h3]
        omega)).mono ?_
      rintro e w6 ⟨v6, rfl, hr6, hb6⟩
      have H7 : Hid (Below w.heap.size w w6 ∧ w6.ownsRow w.heap.size 5 1 v6 ((Pk.be8 s.shards ++ (Pk.be8 s.version ++ Pk.be8 (N : Int))) ++ Tb.flat (s.l.take (k + 1))).length (bc ((Pk.be8 s.shards ++ (Pk.be8 s.version ++ Pk.be8 (N : Int))) ++ Tb.flat (s.l.take (k + 1)))) ∧ Cb w6 xb (mc x) 68) := ⟨H6.out.1.trans (hb6.mono H6.out.1.size), by rw [HX.out.1]; exact hr6, H6.out.2.2.below hb6⟩
      obtain ⟨a6, c6, e6, j1, j2⟩ := row_form H7.out.2.1
      obtain ⟨E6, hE6⟩ : ∃ E, E = ((Pk.be8 s.shards ++ (Pk.be8 s.version ++ Pk.be8 (N : Int))) ++ Tb.flat (s.l.take (k + 1))).length := ⟨_, rfl⟩
      rw [← hE6] at e6
      subst e6
      clear hr6 hb6 j1 j2 hE6 H6
      refine hKQ.out _ _ ⟨H7.out.2.2.cell 0, H7.out.2.2.cell 1⟩ (fun _ => ?_)
      clear hKQ KQ
      refine' take_at (i := 7) (d := 3) (v := _) rfl rfl (by kernel_rfl) (by kernel_rfl) (by kernel_rfl) (fun _ _ _ h => h) (Or.inl ⟨by rfl, ?h7⟩) (⟨H7.out.2.2.cell 0, H7.out.2.2.cell 1⟩) ?_
      case h7 =>
        intro w hSw
        clear hSw
        go_simp
        with_reducible rfl
      simp only [List.setIfInBounds_toArray, List.set_cons_zero, List.set_cons_succ]
      refine wpAnyH_done (by kernel_rfl) ?_ _
      go_wp2
      go_roundw
      case rel => exact ⟨k + 1, by omega, by go_num, H7.out.1, H7.out.2.1⟩
      case measure => simp [intOf]; omega
    · have hlt' : ¬ (k : Int) < (N : Int) := by omega
      obtain rfl : k = N := by omega
      have HE : Hid (wr.ownsRow w.heap.size 5 1 (.slice ua E uc) (Tb.bytes s).length (bc (Tb.bytes s))) := (show wr.ownsRow w.heap.size 5 1 (.slice ua E uc) (Tb.bytes s).length (bc (Tb.bytes s)) by
        have h := HW.out.2.1
        rw [List.take_of_length_le (by rw [← H0.out.2.1]; exact Nat.le_refl _)] at h
        unfold Tb.bytes
        rw [← H0.out.2.1]
        simpa [List.append_assoc] using h)
      go_wp2
      go_ret
      exact ⟨_, rfl, HE.out, HW.out.1⟩
end Go.Proofs.YtpjdjobdbandhaaDoor
