/- What the landed tree's twin and Node answer. -/
import Derived.Test.YtpidafpaffpnaaaGreatDoorWDo11
namespace Go.Proofs.YtpidafpaffpnaaaGreatDoor
open Go.RowKit
theorem results_cell_tmp11 {P : Program} {fn : Func} {p s : Tmp} {ty : TypeId} (h : fn.results = #[.cell p ty, .tmp s]) (tmps : Array Value) (w : World) (g : Nat) (t : TypeId) (cs : Array Value) (fr : Nat × Nat) (d : TypeDesc)
    (hp : tmps.getD p undef = .pointer (some ⟨g, 0, none⟩)) (hg : w.heap[g]? = some (.cells cs t fr))
    (hu : P.underlying ty = some d) (hd : (match d with | .struct _ | .array _ _ => true | _ => false) = true) (hi : (P.info? ty).map (·.size) = some cs.size) :
    (results fn tmps).run P w = .ok (.tuple #[.agg cs, tmps.getD s undef]) w := by
  have hp' : tmps[p]?.getD undef = .pointer (some ⟨g, 0, none⟩) := by simpa using hp
  simp [results, h, hp', asAddr, run_loadVar_row w g t ty cs fr d hg hu hd hi]
section
variable {w : World}
set_option maxRecDepth 20000 in
set_option maxHeartbeats 4000000 in
theorem twin_any11 (p : Nat) (n : Kq.Kn) (v : Value) (h : Own11 w p n v) (hm : n.names.length ≤ 3000) :
    Calls Tryz.prog 90 #[dptr p] w fun e w' => ∃ a c, e = .returned (dptr w.heap.size) ∧ Own11 w' w.heap.size n (.slice a n.names.length c) ∧ w'.ownsRow (w.heap.size + 1) 9 1 (.slice a n.names.length c) n.names.length (sc n.names) ∧ Below w.heap.size w w' := by
  obtain ⟨va, vc, rfl, _, hj⟩ := row_form h.row
  clear hj
  obtain ⟨b, hb0⟩ : ∃ b, b = w.heap.size := ⟨_, rfl⟩
  have H0 : Hid (Own11 w p n (.slice va n.names.length vc)) := h
  have H1 : Hid (Own11 (w.alloc (.cells #[.int .i64 n.made, .int .i64 n.changed, .int .i64 n.ver, .int .i64 n.kids, .int .i64 n.owner, .int .i64 n.len, .int .i64 n.cnt, .string n.data, .int .i64 n.next, (.slice va n.names.length vc)] 121)) p n (.slice va n.names.length vc) ∧ Cb (w.alloc (.cells #[.int .i64 n.made, .int .i64 n.changed, .int .i64 n.ver, .int .i64 n.kids, .int .i64 n.owner, .int .i64 n.len, .int .i64 n.cnt, .string n.data, .int .i64 n.next, (.slice va n.names.length vc)] 121)) b (k10 n (.slice va n.names.length vc)) 121 ∧ Below w.heap.size w (w.alloc (.cells #[.int .i64 n.made, .int .i64 n.changed, .int .i64 n.ver, .int .i64 n.kids, .int .i64 n.owner, .int .i64 n.len, .int .i64 n.cnt, .string n.data, .int .i64 n.next, (.slice va n.names.length vc)] 121)) ∧ (w.alloc (.cells #[.int .i64 n.made, .int .i64 n.changed, .int .i64 n.ver, .int .i64 n.kids, .int .i64 n.owner, .int .i64 n.len, .int .i64 n.cnt, .string n.data, .int .i64 n.next, (.slice va n.names.length vc)] 121)).heap.size = b + 1 ∧ n.names.length ≤ 3000) := by
    have hba := (Below.refl _ w).alloc (Nat.le_refl _) (.cells (k10 n (.slice va n.names.length vc)).toArray 121)
    exact ⟨h.keep (fun k hk => hba.block k (h.flt hk)), by rw [hb0]; exact Cb.made w _ _, hba, by rw [hb0]; exact World.size_alloc _ _, hm⟩
  have HB : Hid (b = w.heap.size) := hb0
  rw [← hb0]
  clear h hm
  go_enter Tryz.func90, Tryz.ntmps90
  go_upto_region 2 with (refine wpList_load_row rfl 121 _ rfl p rfl 121 #[.int .i64 n.made, .int .i64 n.changed, .int .i64 n.ver, .int .i64 n.kids, .int .i64 n.owner, .int .i64 n.len, .int .i64 n.cnt, .string n.data, .int .i64 n.next, (.slice va n.names.length vc)] (0, 0) _ H0.out.blk Tryz.underlying121 rfl (by kernel_rfl) ?_)
  rw [← hb0]
  clear hb0 H0
  generalize (w.alloc (.cells #[.int .i64 n.made, .int .i64 n.changed, .int .i64 n.ver, .int .i64 n.kids, .int .i64 n.owner, .int .i64 n.len, .int .i64 n.cnt, .string n.data, .int .i64 n.next, (.slice va n.names.length vc)] 121)) = w1 at *
  have n9 : w1.cell? ⟨p, 9, none⟩ = some (.slice va n.names.length vc) := H1.out.1.blk.cell 9
  go_wp2_with fail
  refine (clone_any11 _ n.names w1 (Nm.of_row H1.out.1.row) H1.out.2.2.2.2).mono ?_
  rintro e w2 ⟨a, c, rfl, hrow, hb⟩
  have H2 : Hid (Cb w2 b (k10 n (.slice va n.names.length vc)) 121 ∧ w2.ownsRow (b + 1) 9 1 (.slice a n.names.length c) n.names.length (sc n.names) ∧ Below w.heap.size w w2 ∧ Kq.Rises n.names) := ⟨H1.out.2.1.below hb, by rw [← H1.out.2.2.2.1]; exact hrow, H1.out.2.2.1.trans (hb.mono H1.out.2.2.1.size), H1.out.1.rises⟩
  clear hrow hb n9 H1
  have b9 : w2.cell? ⟨b, 9, none⟩ = some (.slice va n.names.length vc) := H2.out.1.cell 9
  have f9 := H2.out.1.free 9
  go_wp2
  go_ret
  have hrs : (w2.setCell ⟨b, 9, none⟩ (.slice a n.names.length c)).ownsRow (b + 1) 9 1 (.slice a n.names.length c) n.names.length (sc n.names) := row_stays H2.out.2.1 (fun k hk => (grownBy_setCell w2 ⟨b, 9, none⟩ _).block k (H2.out.2.1.lt k hk).2 (by have := (H2.out.2.1.lt k hk).1; simp; omega))
  refine ⟨a, c, rfl, ⟨H2.out.1.set 9 _, hrs.mono (Nat.zero_le _), H2.out.2.2.2⟩, hrs, (H2.out.2.2.1.grown (grownBy_setCell w2 ⟨b, 9, none⟩ _) H2.out.2.2.1.size (fun k hk => by have := HB.out; simp at hk; omega)).mono (Nat.le_of_eq HB.out)⟩
end
section
variable {w : World} {q m : Nat} {t : Tq.Tr} {G : Nat → Prop} {D : DataW Nat} {P : ByteArray → Nat} {V : ByteArray → Value}
set_option maxRecDepth 20000 in
set_option maxHeartbeats 4000000 in
theorem node_any11 (p : ByteArray) (h : TkU w q t G m D P V) (hf : Fine11 t) (hp : p.size ≤ maxLen) :
    Calls Tryz.prog 45 #[dptr q, .string p] w fun e w' => NodeP t p G e w' ∧ TkU w' q t G m D P V ∧ Below w.heap.size w w' := by
  obtain ⟨r, hr0⟩ : ∃ r, r = w.heap.size := ⟨_, rfl⟩
  have H0 : Hid (TkU (w.alloc (.cells #[.int .i64 0, .int .i64 0, .int .i64 0, .int .i64 0, .int .i64 0, .int .i64 0, .int .i64 0, .string ⟨#[]⟩, .int .i64 0, .slice none 0 0] 38)) q t G m D P V ∧ Cb (w.alloc (.cells #[.int .i64 0, .int .i64 0, .int .i64 0, .int .i64 0, .int .i64 0, .int .i64 0, .int .i64 0, .string ⟨#[]⟩, .int .i64 0, .slice none 0 0] 38)) r (k10 Kq.zero (.slice none 0 0)) 38 ∧ Below w.heap.size w (w.alloc (.cells #[.int .i64 0, .int .i64 0, .int .i64 0, .int .i64 0, .int .i64 0, .int .i64 0, .int .i64 0, .string ⟨#[]⟩, .int .i64 0, .slice none 0 0] 38)) ∧ r = w.heap.size ∧ ∀ k, G k → k < w.heap.size) := by
    have hba := (Below.refl _ w).alloc (Nat.le_refl _) (.cells (k10 Kq.zero (.slice none 0 0)).toArray 38)
    exact ⟨h.below hba, by rw [hr0]; exact Cb.made w _ _, hba, hr0, h.glt⟩
  cases hn : Tq.find t.l p with
  | none =>
    have hlk : ∀ w, TkU w q t G m D P V → (Instr.lookup 96 (.map (some m)) (.string p) true).run Tryz.prog w = .ok (.tuple #[.pointer none, .bool false]) w := fun w h => h.look_no hp hn
    have HN : Hid (Tq.find t.l p = none) := hn
    have c0 : (w.alloc (.cells #[.int .i64 0, .int .i64 0, .int .i64 0, .int .i64 0, .int .i64 0, .int .i64 0, .int .i64 0, .string ⟨#[]⟩, .int .i64 0, .slice none 0 0] 38)).cell? ⟨q, 0, none⟩ = some (.map (some m)) := H0.out.1.blk.cell 0
    have hlk0 := hlk _ H0.out.1
    clear hn h hf hlk hp
    go_enter Tryz.func45, Tryz.ntmps45
    go_upto_region 1 with fail
    rw [← hr0]
    clear hr0
    generalize (w.alloc (.cells #[.int .i64 0, .int .i64 0, .int .i64 0, .int .i64 0, .int .i64 0, .int .i64 0, .int .i64 0, .string ⟨#[]⟩, .int .i64 0, .slice none 0 0] 38)) = w0 at *
    go_wp2_with (refine wpList_store_row rfl 38 _ _ rfl r (k10 Kq.zero (.slice none 0 0)).toArray rfl rfl 38 _ H0.out.2.1 (by kernel_rfl) rfl (by kernel_rfl) ?_)
    clear hlk0 c0
    refine bodyPost_ret (v := .tuple #[.agg (k10 Kq.zero (.slice none 0 0)).toArray, .bool false]) ?_ rfl ⟨⟨fun n hn => (by rw [HN.out] at hn; cases hn), fun _ => ⟨none, 0, rfl⟩⟩, H0.out.1.keep (fun k hk => setRow_other w0 r k _ (by have := H0.out.2.2.2.2 k hk; have := H0.out.2.2.2.1; omega)), rowed_below H0.out.2.2.1 (Nat.le_refl _) (by rw [H0.out.2.2.2.1]; exact Nat.le_refl _) _⟩
    exact (results_cell_tmp11 (p := 4) (s := 5) rfl _ _ r 38 _ (0, 0) _ rfl (H0.out.2.1.rowed (k10 Kq.zero (.slice none 0 0))) Tryz.underlying38 rfl (by kernel_rfl)).trans rfl
  | some n =>
    obtain ⟨pb, hpb⟩ : ∃ pb, pb = P p := ⟨_, rfl⟩
    have hlk0 := H0.out.1.look_yes hp hn
    rw [← hpb] at hlk0
    have HN : Hid (Tq.find t.l p = some n ∧ pb = P p ∧ Node11 n) := ⟨hn, hpb, Tq.find_node hf hn⟩
    have c0 : (w.alloc (.cells #[.int .i64 0, .int .i64 0, .int .i64 0, .int .i64 0, .int .i64 0, .int .i64 0, .int .i64 0, .string ⟨#[]⟩, .int .i64 0, .slice none 0 0] 38)).cell? ⟨q, 0, none⟩ = some (.map (some m)) := H0.out.1.blk.cell 0
    clear hn h hf hp hpb
    go_enter Tryz.func45, Tryz.ntmps45
    go_upto_region 1 with fail
    rw [← hr0]
    clear hr0
    generalize (w.alloc (.cells #[.int .i64 0, .int .i64 0, .int .i64 0, .int .i64 0, .int .i64 0, .int .i64 0, .int .i64 0, .string ⟨#[]⟩, .int .i64 0, .slice none 0 0] 38)) = w0 at *
    go_wp2_with fail
    clear hlk0 c0
    refine (twin_any11 pb n (V p) (by rw [HN.out.2.1]; exact H0.out.1.node _ (Tq.find_some HN.out.1)) (by have := HN.out.2.2.many; omega)).mono ?_
    rintro e w1 ⟨a, c, rfl, hO, hrow, hb⟩
    have H1 : Hid (TkU w1 q t G m D P V ∧ Cb w1 r (k10 Kq.zero (.slice none 0 0)) 38 ∧ Below w.heap.size w w1 ∧ Own11 w1 w0.heap.size n (.slice a n.names.length c) ∧ w1.ownsRow (w0.heap.size + 1) 9 1 (.slice a n.names.length c) n.names.length (sc n.names) ∧ r < w0.heap.size) := ⟨H0.out.1.below hb, H0.out.2.1.below hb, H0.out.2.2.1.trans (hb.mono H0.out.2.2.1.size), hO, hrow, H0.out.2.1.lt⟩
    have HR : Hid (r = w.heap.size ∧ ∀ k, G k → k < w.heap.size) := H0.out.2.2.2
    clear hO hrow hb H0
    obtain ⟨tb, htb⟩ : ∃ tb, tb = w0.heap.size := ⟨_, rfl⟩
    rw [← htb] at H1
    rw [← htb]
    clear htb
    go_wp2_with (first
      | (refine wpList_load_row rfl 38 _ rfl tb rfl 121 #[.int .i64 n.made, .int .i64 n.changed, .int .i64 n.ver, .int .i64 n.kids, .int .i64 n.owner, .int .i64 n.len, .int .i64 n.cnt, .string n.data, .int .i64 n.next, .slice a n.names.length c] (0, 0) _ H1.out.2.2.2.1.blk Tryz.underlying38 rfl (by kernel_rfl) ?_)
      | (refine wpList_store_row rfl 38 _ _ rfl r (k10 n (.slice a n.names.length c)).toArray rfl rfl 38 _ H1.out.2.1 (by kernel_rfl) rfl (by kernel_rfl) ?_))
    have hrs : (w1.setRow r (k10 n (.slice a n.names.length c)).toArray).ownsRow (tb + 1) 9 1 (.slice a n.names.length c) n.names.length (sc n.names) := row_stays H1.out.2.2.2.2.1 (fun k hk => setRow_other w1 r k _ (by have := (H1.out.2.2.2.2.1.lt k hk).1; have := H1.out.2.2.2.2.2; omega))
    refine bodyPost_ret (v := .tuple #[.agg (k10 n (.slice a n.names.length c)).toArray, .bool true]) ?_ rfl ⟨⟨fun n' hn => ?_, fun hn => (by rw [HN.out.1] at hn; cases hn)⟩, H1.out.1.keep (fun k hk => setRow_other w1 r k _ (by have := HR.out.2 k hk; have := HR.out.1; omega)), rowed_below H1.out.2.2.1 (Nat.le_refl _) (by rw [HR.out.1]; exact Nat.le_refl _) _⟩
    · exact (results_cell_tmp11 (p := 4) (s := 5) rfl _ _ r 38 _ (0, 0) _ rfl (H1.out.2.1.rowed (k10 n (.slice a n.names.length c))) Tryz.underlying38 rfl (by kernel_rfl)).trans rfl
    · rw [HN.out.1] at hn
      obtain rfl := Option.some.inj hn
      exact ⟨_, rfl, sq_of_row hrs, fun _ k hk e => by have := (hrs.lt k hk).1; have := HR.out.2 k e; have := H1.out.2.2.2.2.2; have := HR.out.1; omega⟩
end
end Go.Proofs.YtpidafpaffpnaaaGreatDoor
