/- A tree's bytes, and back: plain reckoning. -/
import Derived.Test.YtpidafpaffpnaaaGreatDoorPln
import Derived.Test.YtpidafpaffpnaaaGreatDoorWDo11
namespace Go.Proofs.YtpidafpaffpnaaaGreatDoor.Tq
open Kq

/-! Bytes. -/
def node1 (e : En) : List UInt8 := tx e.1 ++ Kq.bytes e.2
def image (l : List En) : List UInt8 := Pk.be8 (l.length : Int) ++ l.flatMap node1
/-- Is a node there? -/
def gB (ys : List UInt8) (bad : Bool) : Bool := !(raw ys bad).2.2 && risesB (raw ys bad).1.names
theorem gB_iff (ys : List UInt8) (bad : Bool) : gB ys bad = true ↔ Kq.Good ys bad := by
  unfold gB Kq.Good
  rw [Bool.and_eq_true, rises_iff]
  simp
/-- One node is read, and laid. -/
def step1 (ys : List UInt8) (bad : Bool) (last : ByteArray) (t : Tr) : Option (ByteArray × Tr × List UInt8) :=
  if gB (Pk.rT 200 ys bad).2.1 (Pk.rT 200 ys bad).2.2 && lt last (tb (Pk.rT 200 ys bad).1) && decide ((load t (tb (Pk.rT 200 ys bad).1) (raw (Pk.rT 200 ys bad).2.1 (Pk.rT 200 ys bad).2.2).1).1 = 0) then
    some (tb (Pk.rT 200 ys bad).1, (load t (tb (Pk.rT 200 ys bad).1) (raw (Pk.rT 200 ys bad).2.1 (Pk.rT 200 ys bad).2.2).1).2, (raw (Pk.rT 200 ys bad).2.1 (Pk.rT 200 ys bad).2.2).2.1)
  else none
/-- So many. -/
def rdE : Nat → List UInt8 → Bool → ByteArray → Tr → Option (Tr × List UInt8 × Bool)
  | 0, ys, bad, _, t => some (t, ys, bad)
  | k + 1, ys, bad, last, t => (step1 ys bad last t).bind fun x => rdE k x.2.2 false x.1 x.2.1
theorem rdE_zero (ys : List UInt8) (bad : Bool) (last : ByteArray) (t : Tr) : rdE 0 ys bad last t = some (t, ys, bad) := rfl
theorem rdE_succ (k : Nat) (ys : List UInt8) (bad : Bool) (last : ByteArray) (t : Tr) : rdE (k + 1) ys bad last t = (step1 ys bad last t).bind fun x => rdE k x.2.2 false x.1 x.2.1 := rfl
def rdT (ys : List UInt8) : Option Tr :=
  (rdE (Pk.rC 500 ys false).1.toNat (Pk.rC 500 ys false).2.1 (Pk.rC 500 ys false).2.2 ⟨#[]⟩ ⟨500, []⟩).bind fun x => if (!x.2.2 && x.2.1.isEmpty) = true then some x.1 else none
/-- A node's names are nodes; one that is Ephemeral has none. -/
def parB (l : List En) (e : En) : Bool := !(decide (e.2.owner ≠ 0) && decide (0 < e.2.names.length)) && e.2.names.all fun s => (find l (sub e.1 s)).isSome
def unders (l : List En) : List ByteArray := (keys l).filter fun p => (up p).isSome
def nameds (l : List En) : List ByteArray := l.flatMap fun e => e.2.names.map (sub e.1)
def joinB (l : List En) : Bool := l.all (parB l) && decide ((unders l).length = (nameds l).length)
/-- Get: its error, and the tree. -/
def getT (ys : List UInt8) (room : Int) : Int × Option Tr :=
  if room < 1 ∨ 500 < room then (1, none)
  else match rdT ys with
    | none => (3, none)
    | some t => if joinB t.l = true then (if room < (t.l.length : Int) then (2, none) else (0, some ⟨room, t.l⟩)) else (3, none)

/-! What follows. -/
/-- A tree in which all hangs together. -/
structure Jn (l : List En) : Prop where
  par : ∀ p n u, find l p = some n → up p = some u → ∃ m, find l u = some m ∧ m.owner = 0 ∧ nm p ∈ m.names
  kid : ∀ p n s, find l p = some n → s ∈ n.names → ∃ m, find l (sub p s) = some m
theorem sub_le : ∀ {a b : List ByteArray}, a.Nodup → (∀ x ∈ a, x ∈ b) → a.length ≤ b.length
  | [], b, _, _ => Nat.zero_le _
  | x :: a, b, ha, hs => by
    obtain ⟨h1, h2⟩ := List.nodup_cons.1 ha
    obtain ⟨s, r, rfl⟩ := List.append_of_mem (hs x (by simp))
    have h3 := sub_le (a := a) (b := s ++ r) h2 (fun y hy => by
      have h4 := hs y (by simp [hy])
      have h5 : y ≠ x := fun e => h1 (by rw [← e]; exact hy)
      rcases List.mem_append.1 h4 with h6 | h6
      · exact List.mem_append.2 (Or.inl h6)
      · rcases List.mem_cons.1 h6 with h7 | h7
        · exact absurd h7 h5
        · exact List.mem_append.2 (Or.inr h7))
    simp only [List.length_append, List.length_cons] at h3 ⊢
    omega
theorem sub_all {a b : List ByteArray} (ha : a.Nodup) (hs : ∀ x ∈ a, x ∈ b) (hl : b.length ≤ a.length) : ∀ y ∈ b, y ∈ a := fun y hy => by
  apply Classical.byContradiction
  intro hn
  have h := sub_le (a := y :: a) (b := b) (List.nodup_cons.2 ⟨hn, ha⟩) (fun x hx => by
    rcases List.mem_cons.1 hx with rfl | hx
    · exact hy
    · exact hs x hx)
  rw [List.length_cons] at h
  omega
theorem rises_nodup {l : List ByteArray} (h : Rises l) : l.Nodup := List.Pairwise.imp (fun h => lt_ne h) h
theorem unders_nodup {t : Tr} (hf : Fine11 t) : (unders t.l).Nodup := (rises_nodup hf.rise).filter _
theorem mem_unders {t : Tr} {p : ByteArray} : p ∈ unders t.l ↔ p ∈ keys t.l ∧ (up p).isSome = true := by unfold unders; rw [List.mem_filter]
theorem mem_nameds {l : List En} {x : ByteArray} : x ∈ nameds l ↔ ∃ e ∈ l, ∃ s ∈ e.2.names, sub e.1 s = x := by
  unfold nameds
  simp only [List.mem_flatMap, List.mem_map]
/-- Each name's path is another. -/
theorem nameds_nodup {t : Tr} (hf : Fine11 t) (hk : ∀ e ∈ t.l, ∀ s ∈ e.2.names, Pl.goodB (sub e.1 s).data.toList = true) : (nameds t.l).Nodup := by
  unfold nameds List.Nodup
  rw [List.pairwise_flatMap]
  refine ⟨fun e he => ?_, ?_⟩
  · rw [List.pairwise_map]
    have hN := hf.nodes e he
    have key : ∀ (l : List ByteArray), (∀ s ∈ l, s ∈ e.2.names) → Rises l → l.Pairwise fun a b => sub e.1 a ≠ sub e.1 b := by
      intro l hl hr
      refine List.Pairwise.imp_of_mem (fun {a b} ha hb hab hne => ?_) hr
      have h1 := sub_up hN.1 (hN.2.long a (hl a ha)) (hk e he a (hl a ha)) rfl
      have h2 := sub_up hN.1 (hN.2.long b (hl b hb)) (hk e he b (hl b hb)) rfl
      rw [hne] at h1
      exact lt_ne hab (h1.2.symm.trans h2.2)
    exact key _ (fun s hs => hs) hN.2.rises
  · have hp : t.l.Pairwise fun a b => lt a.1 b.1 = true := List.pairwise_map.1 hf.rise
    refine List.Pairwise.imp_of_mem (fun {a b} ha hb hab x hx y hy hne => ?_) hp
    obtain ⟨s, hs, rfl⟩ := List.mem_map.1 hx
    obtain ⟨r, hr, rfl⟩ := List.mem_map.1 hy
    have h1 := sub_up (hf.nodes a ha).1 ((hf.nodes a ha).2.long s hs) (hk a ha s hs) rfl
    have h2 := sub_up (hf.nodes b hb).1 ((hf.nodes b hb).2.long r hr) (hk b hb r hr) rfl
    rw [hne] at h1
    exact lt_ne hab (Option.some.inj (h1.1.symm.trans h2.1))
theorem find_key {l : List En} {p : ByteArray} {n : Kn} (h : find l p = some n) : p ∈ keys l := List.mem_map.2 ⟨_, find_some h, rfl⟩
/-- The counting says just that. -/
theorem join_iff {t : Tr} (hf : Fine11 t) : joinB t.l = true ↔ Jn t.l := by
  constructor
  · intro h
    unfold joinB at h
    rw [Bool.and_eq_true, List.all_eq_true, decide_eq_true_eq] at h
    obtain ⟨h1, h2⟩ := h
    have kid : ∀ e ∈ t.l, ∀ s ∈ e.2.names, ∃ m, find t.l (sub e.1 s) = some m := fun e he s hs => by
      have h3 := h1 e he
      unfold parB at h3
      rw [Bool.and_eq_true, List.all_eq_true] at h3
      exact Option.isSome_iff_exists.1 (h3.2 s hs)
    have hgood : ∀ e ∈ t.l, ∀ s ∈ e.2.names, Pl.goodB (sub e.1 s).data.toList = true := fun e he s hs => by
      obtain ⟨m, hm⟩ := kid e he s hs
      exact (good_of hf hm).1
    have hnd := nameds_nodup hf hgood
    have hsub : ∀ x ∈ nameds t.l, x ∈ unders t.l := fun x hx => by
      obtain ⟨e, he, s, hs, rfl⟩ := mem_nameds.1 hx
      obtain ⟨m, hm⟩ := kid e he s hs
      have h3 := sub_up (hf.nodes e he).1 ((hf.nodes e he).2.long s hs) (hgood e he s hs) rfl
      exact mem_unders.2 ⟨find_key hm, by rw [h3.1]; rfl⟩
    have hall := sub_all hnd hsub (by omega)
    refine ⟨fun p n u hp hu => ?_, fun p n s hp hs => kid (p, n) (find_some hp) s hs⟩
    have h4 := hall p (mem_unders.2 ⟨find_key hp, by rw [hu]; rfl⟩)
    obtain ⟨e, he, s, hs, hes⟩ := mem_nameds.1 h4
    have h5 := sub_up (hf.nodes e he).1 ((hf.nodes e he).2.long s hs) (good_of hf hp).1 hes
    rw [hu] at h5
    have h6 : u = e.1 := Option.some.inj h5.1
    have h7 := h1 e he
    unfold parB at h7
    rw [Bool.and_eq_true, Bool.not_eq_true', Bool.and_eq_false_iff] at h7
    refine ⟨e.2, by rw [h6]; exact find_of hf.rise he, ?_, by rw [h5.2]; exact hs⟩
    rcases h7.1 with h8 | h8
    · simpa using h8
    · have := List.length_pos_of_mem hs
      simp at h8
      rw [h8] at hs
      cases hs
  · intro h
    have kid : ∀ e ∈ t.l, ∀ s ∈ e.2.names, ∃ m, find t.l (sub e.1 s) = some m := fun e he s hs => h.kid e.1 e.2 s (find_of hf.rise he) hs
    have hgood : ∀ e ∈ t.l, ∀ s ∈ e.2.names, Pl.goodB (sub e.1 s).data.toList = true := fun e he s hs => by
      obtain ⟨m, hm⟩ := kid e he s hs
      exact (good_of hf hm).1
    have hnd := nameds_nodup hf hgood
    have hup : ∀ e ∈ t.l, ∀ s ∈ e.2.names, up (sub e.1 s) = some e.1 := fun e he s hs => (sub_up (hf.nodes e he).1 ((hf.nodes e he).2.long s hs) (hgood e he s hs) rfl).1
    have hsub : ∀ x ∈ nameds t.l, x ∈ unders t.l := fun x hx => by
      obtain ⟨e, he, s, hs, rfl⟩ := mem_nameds.1 hx
      obtain ⟨m, hm⟩ := kid e he s hs
      exact mem_unders.2 ⟨find_key hm, by rw [hup e he s hs]; rfl⟩
    have hsub2 : ∀ x ∈ unders t.l, x ∈ nameds t.l := fun x hx => by
      obtain ⟨h1, h2⟩ := mem_unders.1 hx
      obtain ⟨n, hn⟩ := find_mem h1
      obtain ⟨u, hu⟩ := Option.isSome_iff_exists.1 h2
      obtain ⟨m, hm, _, hms⟩ := h.par x n u hn hu
      exact mem_nameds.2 ⟨(u, m), find_some hm, nm x, hms, (up_sub (good_of hf hn).1 hu).1⟩
    unfold joinB
    rw [Bool.and_eq_true, List.all_eq_true, decide_eq_true_eq]
    refine ⟨fun e he => ?_, Nat.le_antisymm (sub_le (unders_nodup hf) hsub2) (sub_le hnd hsub)⟩
    unfold parB
    rw [Bool.and_eq_true, Bool.not_eq_true', List.all_eq_true]
    refine ⟨?_, fun s hs => Option.isSome_iff_exists.2 (kid e he s hs)⟩
    rw [Bool.and_eq_false_iff]
    cases hns : e.2.names with
    | nil => exact Or.inr rfl
    | cons s r =>
      have hs : s ∈ e.2.names := by rw [hns]; simp
      obtain ⟨m, hm⟩ := kid e he s hs
      obtain ⟨m2, hm2, ho, _⟩ := h.par _ m e.1 hm (hup e he s hs)
      rw [find_of hf.rise he] at hm2
      refine Or.inl ?_
      rw [Option.some.inj hm2, ho]
      rfl
theorem snd_jn {t : Tr} (h : Snd t) : Jn t.l := ⟨h.par, h.kid⟩

/-! Behind all the others. -/
theorem low_all {p : ByteArray} : ∀ (l : List En), (∀ e ∈ l, lt e.1 p = true) → low l p = l
  | [], _ => rfl
  | e :: l, h => by
    have h1 := low_all l (fun x hx => h x (by simp [hx]))
    unfold low at h1 ⊢
    rw [List.takeWhile_cons, if_pos (h e (by simp)), h1]
theorem ins_end {l : List En} {p : ByteArray} {n : Kn} (h : ∀ e ∈ l, lt e.1 p = true) : ins l p n = l ++ [(p, n)] := by
  have h1 : low l p = l := low_all l h
  have h2 : high l p = [] := by
    have := low_high l p
    rw [h1] at this
    exact List.append_right_eq_self.1 this
  unfold ins
  rw [h1, h2]
theorem find_end {l : List En} {p : ByteArray} (h : ∀ e ∈ l, lt e.1 p = true) : find l p = none := by
  cases hf : find l p with
  | none => rfl
  | some n => exact absurd rfl (lt_ne (h _ (find_some hf)))
theorem load_yes {t : Tr} {p : ByteArray} {n : Kn} (hl : layB p n = true) (hf : find t.l p = none) (hr : (t.l.length : Int) < t.room) : load t p n = (0, { t with l := ins t.l p (laid n) }) := by
  unfold load
  rw [if_neg (by rw [hl]; simp), hf]
  simp only []
  rw [if_neg (by omega)]
/-- A node that Load may lay, as it is. -/
structure Lay (e : En) : Prop where
  lay : layB e.1 e.2 = true
  laid : laid e.2 = e.2
theorem load_end {t : Tr} {p : ByteArray} {n : Kn} (h : Lay (p, n)) (hl : ∀ e ∈ t.l, lt e.1 p = true) (hr : (t.l.length : Int) < t.room) : load t p n = (0, { t with l := t.l ++ [(p, n)] }) := by
  rw [load_yes h.lay (find_end hl) hr]
  have h2 := h.laid
  simp only [] at h2
  rw [h2, ins_end hl]
theorem lay_good {p : ByteArray} {n : Kn} (h : layB p n = true) : Pl.goodB p.data.toList = true ∧ Rises n.names ∧ n.names.length ≤ 500 ∧ ∀ s ∈ n.names, Pl.nameB s.data.toList = true := by
  unfold layB at h
  simp only [Bool.and_eq_true, decide_eq_true_eq, List.all_eq_true] at h
  exact ⟨h.1.1.1, (rises_iff _).1 h.1.1.2, h.1.2, h.2⟩
theorem lay_of {p : ByteArray} {n : Kn} (h : Pl.goodB p.data.toList = true) (h1 : Rises n.names) (h2 : n.names.length ≤ 500) (h3 : ∀ s ∈ n.names, Pl.nameB s.data.toList = true) : layB p n = true := by
  unfold layB
  simp only [Bool.and_eq_true, decide_eq_true_eq, List.all_eq_true]
  exact ⟨⟨⟨h, (rises_iff _).2 h1⟩, h2⟩, h3⟩
theorem len_good {p : ByteArray} (h : Pl.goodB p.data.toList = true) : p.size ≤ 200 := by
  have := (Pl.good_parts h).2.2
  rw [size_data] at this
  exact this
/-- What was written is read. -/
theorem rdE_image (l : List En) : ∀ (m : List En) (last : ByteArray) (zs : List UInt8), (∀ e ∈ l, Lay e ∧ Fit e.2) → Rises (keys (m ++ l)) → (∀ e ∈ l, lt last e.1 = true) → (m ++ l).length ≤ 500 →
    rdE l.length (l.flatMap node1 ++ zs) false last ⟨500, m⟩ = some (⟨500, m ++ l⟩, zs, false) := by
  induction l with
  | nil =>
    intro m last zs _ _ _ _
    simp only [List.length_nil, List.flatMap_nil, List.nil_append, List.append_nil, rdE_zero]
  | cons e l ih =>
    intro m last zs hN hr hl hn
    obtain ⟨p, n⟩ := e
    obtain ⟨hL, hF⟩ := hN (p, n) (by simp)
    have hg : Pl.goodB p.data.toList = true := (lay_good hL.lay).1
    have hF : Fit n := hF
    have hsz := len_good hg
    have e1 : ((p, n) :: l).flatMap node1 ++ zs = tx p ++ (Kq.bytes n ++ (l.flatMap node1 ++ zs)) := by
      rw [List.flatMap_cons]
      unfold node1
      simp only [List.append_assoc]
    obtain ⟨ys, hys⟩ : ∃ ys, ys = l.flatMap node1 ++ zs := ⟨_, rfl⟩
    have ih2 := ih (m ++ [(p, n)]) p zs (fun e he => hN e (by simp [he]))
    rw [← hys] at e1 ih2
    have hT : Pk.rT 200 (tx p ++ (Kq.bytes n ++ ys)) false = (p.data.toList, Kq.bytes n ++ ys, false) := Pk.rT_txt 200 _ _ false (by rw [size_data]; omega) (by rw [size_data]; omega)
    have hR := raw_bytes hF ys
    have hG : gB (Kq.bytes n ++ ys) false = true := (gB_iff _ _).2 (good_bytes hF _)
    have hlt : lt last p = true := hl (p, n) (by simp)
    have hpw : (m ++ (p, n) :: l).Pairwise fun a b => lt a.1 b.1 = true := List.pairwise_map.1 hr
    have hm : ∀ e ∈ m, lt e.1 p = true := fun e he => (List.pairwise_append.1 hpw).2.2 e he (p, n) (by simp)
    have hp2 : ∀ e ∈ l, lt p e.1 = true := fun e he => (List.pairwise_cons.1 (List.pairwise_append.1 hpw).2.1).1 e he
    have hroom : (((⟨500, m⟩ : Tr).l.length : Nat) : Int) < (⟨500, m⟩ : Tr).room := by
      show (m.length : Int) < 500
      rw [List.length_append, List.length_cons] at hn
      omega
    have hLd := load_end (t := ⟨500, m⟩) hL hm hroom
    have hs : step1 (tx p ++ (Kq.bytes n ++ ys)) false last ⟨500, m⟩ = some (p, ⟨500, m ++ [(p, n)]⟩, ys) := by
      unfold step1
      rw [hT]
      simp only [tb_back, hG, hlt, hR, hLd, decide_true, Bool.and_self, if_true]
    have ih3 := ih2 (by rw [List.append_assoc]; exact hr) hp2 (by rw [List.append_assoc]; exact hn)
    rw [List.append_assoc] at ih3
    rw [e1, List.length_cons, rdE_succ, hs, Option.bind_some]
    exact ih3
theorem good_above {p : ByteArray} (h : Pl.goodB p.data.toList = true) : lt ⟨#[]⟩ p = true := by
  have h1 := (Pl.good_parts h).1
  have h2 := Pl.namesB_len (Pl.good_parts h).2.1
  unfold lt
  have e1 : (⟨#[]⟩ : ByteArray).toList = [] := by rw [ByteArray.toList_eq]
  rw [e1, ByteArray.toList_eq]
  cases hp : p.data.toList with
  | nil =>
    rw [hp] at h
    cases h
  | cons a r => rfl
theorem rdT_image {l : List En} (hN : ∀ e ∈ l, Lay e ∧ Fit e.2) (hr : Rises (keys l)) (hn : l.length ≤ 500) : rdT (image l) = some ⟨500, l⟩ := by
  have hC : Pk.rC 500 (image l) false = ((l.length : Int), l.flatMap node1, false) := by
    unfold image
    exact Pk.rC_be8 500 _ _ false (by omega) (by omega) (by omega)
  have h := rdE_image l [] ⟨#[]⟩ [] hN hr (fun e he => good_above (lay_good (hN e he).1.lay).1) hn
  rw [List.append_nil, List.nil_append] at h
  unfold rdT
  rw [hC]
  simp only [Int.toNat_natCast]
  rw [h]
  rfl
/-- Get of what Put has written. -/
theorem getT_image {t : Tr} (hf : Fine11 t) (hN : ∀ e ∈ t.l, Lay e ∧ Fit e.2) (hs : Jn t.l) {room : Int} (hr : ¬ (room < 1 ∨ 500 < room)) : getT (image t.l) room = if room < (t.l.length : Int) then (2, none) else (0, some ⟨room, t.l⟩) := by
  have hl : t.l.length ≤ 500 := by have := hf.len; have := hf.room; omega
  unfold getT
  rw [if_neg hr, rdT_image hN hf.rise hl]
  simp only []
  rw [if_pos ((join_iff hf).2 hs)]
theorem image_inj {a b : List En} (ha : ∀ e ∈ a, Lay e ∧ Fit e.2) (hb : ∀ e ∈ b, Lay e ∧ Fit e.2) (hra : Rises (keys a)) (hrb : Rises (keys b)) (hna : a.length ≤ 500) (hnb : b.length ≤ 500) (h : image a = image b) : a = b := by
  have h1 := rdT_image ha hra hna
  have h2 := rdT_image hb hrb hnb
  rw [h, h2] at h1
  exact (congrArg Tr.l (Option.some.inj h1)).symm

/-! Trees that Do has made. -/
/-- Numbers that stat's Get would read. -/
structure Nums (n : Kn) : Prop where
  made : -9223372036854775808 ≤ n.made ∧ n.made ≤ 9223372036854775807
  changed : -9223372036854775808 ≤ n.changed ∧ n.changed ≤ 9223372036854775807
  ver : 0 ≤ n.ver ∧ n.ver ≤ 2147483647
  kids : 0 ≤ n.kids ∧ n.kids ≤ 2147483647
  next : 0 ≤ n.next ∧ n.next ≤ 2147483647
  data : n.data.size ≤ 1000
  len : n.len = (n.data.size : Int)
theorem more_in {n : Int} (h : 0 ≤ n ∧ n ≤ 2147483647) : 0 ≤ more n ∧ more n ≤ 2147483647 := by
  unfold more
  split <;> omega
theorem nums_new {z own : Int} {d : ByteArray} (hz : -9223372036854775808 ≤ z ∧ z ≤ 9223372036854775807) (hd : d.size ≤ 1000) : Nums (new z own d) := ⟨hz, hz, by simp [new], by simp [new], by simp [new], hd, rfl⟩
theorem Nums.write {n : Kn} (h : Nums n) {z : Int} {d : ByteArray} (hz : -9223372036854775808 ≤ z ∧ z ≤ 9223372036854775807) (hd : d.size ≤ 1000) : Nums (write n z d) := ⟨h.made, hz, more_in h.ver, h.kids, h.next, hd, rfl⟩
theorem Nums.add {n : Kn} (h : Nums n) (s : ByteArray) : Nums (add n s) := by
  cases hh : has n.names s with
  | true => rw [add_no hh]; exact h
  | false => rw [add_yes hh]; exact ⟨h.made, h.changed, h.ver, more_in h.kids, more_in h.next, h.data, h.len⟩
theorem Nums.remove {n : Kn} (h : Nums n) (s : ByteArray) : Nums (remove n s) := by
  cases hh : has n.names s with
  | false => rw [remove_no hh]; exact h
  | true => rw [remove_yes hh]; exact ⟨h.made, h.changed, h.ver, more_in h.kids, h.next, h.data, h.len⟩
theorem nums_set {l : List En} {p : ByteArray} {n : Kn} (h : ∀ e ∈ l, Nums e.2) (hn : Nums n) : ∀ e ∈ set l p n, Nums e.2 := fun e he => by
  rcases mem_set he with he | ⟨rfl, _⟩
  · exact h e he
  · exact hn
theorem nums_doo {t : Tr} {o : O} {s z : Int} (hz : -9223372036854775808 ≤ z ∧ z ≤ 9223372036854775807) (h : ∀ e ∈ t.l, Nums e.2) : ∀ e ∈ (doo t o s z).2.l, Nums e.2 := by
  obtain ⟨x, t', hd⟩ : ∃ x t', doo t o s z = (x, t') := ⟨_, _, rfl⟩
  rw [hd]
  rcases doo_ok hd with ⟨_, rfl⟩ | ⟨_, hg, _, ⟨_, _, _, rfl⟩ | ⟨_, _, rfl⟩ | ⟨_, n, hn, rfl⟩ | ⟨_, rfl⟩⟩
  · exact h
  · intro e he
    rcases mem_ins.1 he with rfl | he
    · exact nums_new hz (good_zero hg).2.1
    · unfold named at he
      split at he
      · exact h e he
      · split at he
        · exact h e he
        · rename_i m hm
          exact nums_set h ((h _ (find_some hm)).add _) e he
  · intro e he
    have h2 : ∀ e ∈ del t.l x.path, Nums e.2 := fun e he => h e (mem_del.1 he).1
    simp only [] at he
    unfold orphan at he
    split at he
    · exact h2 e he
    · split at he
      · exact h2 e he
      · rename_i m hm
        exact nums_set h2 ((h2 _ (find_some hm)).remove _) e he
  · exact nums_set h ((h _ (find_some hn)).write hz (good_zero hg).2.1)
  · exact h
/-- A tree that so many Ops have made. -/
structure Gr (t : Tr) (m : Nat) : Prop where
  fine : Fine11 t
  few : Few t m
  snd : Snd t
  nums : ∀ e ∈ t.l, Nums e.2
  own : ∃ ss, Ow t ss ∧ ∀ s ∈ ss, 0 ≤ s ∧ s ≤ 9223372036854775807
theorem gr_new {r : Int} (h : ¬ (r < 1 ∨ 500 < r)) : Gr ⟨r, []⟩ 0 := ⟨fine11_new h, fun e he => (by cases he), snd_new r, fun e he => (by cases he), ⟨[], ow_new r, fun s hs => (by cases hs)⟩⟩
theorem Gr.doo {t : Tr} {m : Nat} (h : Gr t m) (hm : m ≤ 800) {o : O} {s z : Int} (hs : 0 ≤ s ∧ s ≤ 9223372036854775807) (hz : -9223372036854775808 ≤ z ∧ z ≤ 9223372036854775807) : Gr (doo t o s z).2 (m + 1) := by
  obtain ⟨ss, h1, h2⟩ := h.own
  refine ⟨fine_doo h.fine (h.few.more (by omega)), few_doo h.few, snd_doo h.fine h.snd, nums_doo hz h.nums, ⟨s :: ss, ow_doo h1, fun x hx => ?_⟩⟩
  rcases List.mem_cons.1 hx with rfl | hx
  · exact hs
  · exact h2 x hx
theorem Gr.more {t : Tr} {m k : Nat} (h : Gr t m) (hk : m ≤ k) : Gr t k := ⟨h.fine, h.few.more hk, h.snd, h.nums, h.own⟩
theorem name_in {s : ByteArray} (h : Pl.nameB s.data.toList = true) : s.size ≤ 40 := by
  unfold Pl.nameB at h
  simp only [Bool.and_eq_true, decide_eq_true_eq] at h
  have := h.1.1.1.2
  rw [size_data] at this
  exact this
theorem Gr.all {t : Tr} {m : Nat} (h : Gr t m) (hm : m ≤ 500) : ∀ e ∈ t.l, Lay e ∧ Fit e.2 := fun e he => by
  have hN := h.fine.nodes e he
  have hn := h.nums e he
  have hfw := h.few e he
  have hc := h.snd.cnt e.1 e.2 (find_of h.fine.rise he)
  obtain ⟨ss, h1, h2⟩ := h.own
  refine ⟨⟨lay_of hN.1 hN.2.rises (by omega) hN.2.long, ?_⟩, hn.made, hn.changed, hn.ver, hn.kids, ?_, hn.next, hn.data, by omega, fun s hs => name_in (hN.2.long s hs), hn.len, hc, hN.2.rises⟩
  · unfold laid
    rw [← hn.len, ← hc]
  · by_cases h0 : e.2.owner = 0
    · rw [h0]
      omega
    · have := h2 _ (h1 e he h0).2
      omega
/-- Read back. -/
theorem Gr.back {t : Tr} {m : Nat} (h : Gr t m) (hm : m ≤ 500) {room : Int} (hr : ¬ (room < 1 ∨ 500 < room)) : getT (image t.l) room = if room < (t.l.length : Int) then (2, none) else (0, some ⟨room, t.l⟩) := getT_image h.fine (h.all hm) (snd_jn h.snd) hr
theorem Gr.inj {a b : Tr} {m k : Nat} (ha : Gr a m) (hb : Gr b k) (hm : m ≤ 500) (hk : k ≤ 500) : image a.l = image b.l ↔ a.l = b.l := by
  have h1 := ha.fine.len
  have h2 := hb.fine.len
  have h3 := ha.fine.room
  have h4 := hb.fine.room
  exact ⟨image_inj (ha.all hm) (hb.all hk) ha.fine.rise hb.fine.rise (by omega) (by omega), fun h => by rw [h]⟩
/-- How long it may be. -/
theorem image_len {l : List En} {m : Nat} (h : ∀ e ∈ l, Fit e.2 ∧ e.1.size ≤ 200 ∧ e.2.names.length ≤ m) : (image l).length ≤ 8 + l.length * (1272 + m * 48) := by
  have key : ∀ (l : List En), (∀ e ∈ l, Fit e.2 ∧ e.1.size ≤ 200 ∧ e.2.names.length ≤ m) → (l.flatMap node1).length ≤ l.length * (1272 + m * 48) := by
    intro l
    induction l with
    | nil => intro _; simp
    | cons e l ih =>
      intro h
      obtain ⟨h1, h2, h3⟩ := h e (by simp)
      have h4 := ih (fun x hx => h x (by simp [hx]))
      have h5 := flat_le e.2.names 40 h1.long
      have h6 : e.2.names.length * (8 + 40) ≤ m * 48 := Nat.mul_le_mul_right 48 h3
      have h7 := h1.data
      have h8 : (node1 e).length = 8 + e.1.size + (64 + e.2.data.size + (e.2.names.flatMap tx).length) := by
        unfold node1
        rw [List.length_append, tx_len, Kq.bytes_len]
      rw [List.flatMap_cons, List.length_append, List.length_cons, Nat.add_mul, Nat.one_mul, h8]
      omega
  unfold image
  rw [List.length_append, Pk.be8_len]
  have := key l h
  omega
theorem Gr.long {t : Tr} {m : Nat} (h : Gr t m) (hm : m ≤ 40) (hl : t.l.length ≤ 60) : (image t.l).length ≤ 200000 := by
  have h1 := image_len (l := t.l) (m := m) (fun e he => ⟨(h.all (by omega) e he).2, len_good (h.fine.nodes e he).1, h.few e he⟩)
  have h2 : t.l.length * (1272 + m * 48) ≤ 60 * (1272 + 40 * 48) := Nat.mul_le_mul hl (by omega)
  omega
end Go.Proofs.YtpidafpaffpnaaaGreatDoor.Tq
