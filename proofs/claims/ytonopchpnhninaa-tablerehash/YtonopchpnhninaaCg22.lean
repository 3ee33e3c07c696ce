/- The pure part of a heap, on: which block is whose; what a table holds of it. -/
import Derived.Test.YtonopchpnhninaaCg20
namespace Go.Proofs.Ytonopchpnhninaa
open Go.RowKit

/-- The block id is taken and has n cells; or there is none, for no cells. -/
def Blk (s : H.St) (id n : Int) : Prop := (n = 0 ∧ id = 0) ∨ (1 ≤ n ∧ ∃ k : Nat, id = (k : Int) + 1 ∧ s.bl[k]? = some (n, true))
theorem setT_at {l : List (Int × Bool)} {k : Nat} {n : Int} {b : Bool} (h : l[k]? = some (n, b)) (t : Bool) (j : Nat) : (H.setT l k t)[j]? = if j = k then some (n, t) else l[j]? := by
  have hk : k < l.length := (List.getElem?_eq_some_iff.1 h).1
  have e : l.getD k (0, false) = (n, b) := by rw [List.getD, h]; rfl
  unfold H.setT
  rw [e, List.getElem?_set]
  by_cases q : k = j
  · rw [if_pos q, if_pos hk, if_pos q.symm]
  · rw [if_neg q, if_neg (fun e => q e.symm)]
theorem blk_take {sp : Int} {s : H.St} {n : Int} (h : H.Inv sp s) (he : H.takeE s n = 0) :
    Blk (H.takeSt s n) (H.takeId s n) n ∧ (H.takeSt s n).live = s.live + n ∧ (H.takeSt s n).lim = s.lim ∧ ∀ id m, Blk s id m → Blk (H.takeSt s n) id m ∧ (id = H.takeId s n → id = 0) := by
  have h0 : ¬ n < 0 := fun q => by unfold H.takeE at he; rw [if_pos q] at he; cases he
  have h1 : ¬ s.lim - s.live < n := fun q => by unfold H.takeE at he; rw [if_neg h0, if_pos q] at he; cases he
  by_cases hz : n = 0
  · have e1 : H.takeSt s n = s := by unfold H.takeSt; rw [if_neg h0, if_neg h1, if_pos hz]
    have e2 : H.takeId s n = 0 := by unfold H.takeId; rw [if_neg h0, if_neg h1, if_pos hz]
    rw [e1, e2]
    exact ⟨.inl ⟨hz, rfl⟩, by omega, rfl, fun id m q => ⟨q, fun e => e⟩⟩
  · rcases List.eq_nil_or_concat (s.R n) with hR | ⟨zs, x, hR⟩
    · obtain ⟨e1, e2, _⟩ := H.take_new (s := s) (n := n) (by omega) (by omega) hR
      rw [e1, e2]
      refine ⟨.inr ⟨by omega, s.bl.length, rfl, by simp⟩, rfl, rfl, fun id m q => ?_⟩
      rcases q with ⟨q1, q2⟩ | ⟨q1, k, q2, q3⟩
      · exact ⟨.inl ⟨q1, q2⟩, fun e => by omega⟩
      · have hk : k < s.bl.length := (List.getElem?_eq_some_iff.1 q3).1
        exact ⟨.inr ⟨q1, k, q2, by show (s.bl ++ [(n, true)])[k]? = _; rw [List.getElem?_append_left hk]; exact q3⟩, fun e => by omega⟩
    · rw [List.concat_eq_append] at hR
      obtain ⟨k, rfl, hk, hb⟩ := h.ids n x (by rw [hR]; simp)
      obtain ⟨e1, e2, _⟩ := H.take_old (s := s) (n := n) (by omega) (by omega) hR
      have hb' : s.bl[k]? = some (n, false) := by rw [List.getElem?_eq_getElem hk, hb]
      rw [e1, e2]
      refine ⟨.inr ⟨by omega, k, rfl, by show (H.setT s.bl k true)[k]? = _; rw [setT_at hb', if_pos rfl]⟩, rfl, rfl, fun id m q => ?_⟩
      rcases q with ⟨q1, q2⟩ | ⟨q1, k', q2, q3⟩
      · exact ⟨.inl ⟨q1, q2⟩, fun e => by omega⟩
      · have hne : k' ≠ k := fun e => by rw [e, hb'] at q3; cases q3
        exact ⟨.inr ⟨q1, k', q2, by show (H.setT s.bl k true)[k']? = _; rw [setT_at hb', if_neg hne]; exact q3⟩, fun e => by omega⟩
theorem blk_give {s : H.St} {id n : Int} (h : Blk s id n) : (H.giveSt s id).live = s.live - n ∧ (H.giveSt s id).lim = s.lim ∧ ∀ id' m, Blk s id' m → (id' = id → id' = 0) → Blk (H.giveSt s id) id' m := by
  rcases h with ⟨rfl, rfl⟩ | ⟨h1, k, rfl, hb⟩
  · rw [(H.give_zero s).2]
    exact ⟨by omega, rfl, fun _ _ q _ => q⟩
  · have hk : k < s.bl.length := (List.getElem?_eq_some_iff.1 hb).1
    have hb2 : s.bl[k]'hk = (n, true) := (List.getElem?_eq_some_iff.1 hb).2
    rw [(H.give_at hk (by rw [hb2])).2]
    refine ⟨by show s.live - (s.bl[k]'hk).1 = _; rw [hb2], rfl, fun id' m q hne => ?_⟩
    rcases q with q | ⟨q1, k', q2, q3⟩
    · exact .inl q
    · have hne' : k' ≠ k := fun e => by have := hne (by omega); omega
      exact .inr ⟨q1, k', q2, by show (H.setT s.bl k false)[k']? = _; rw [setT_at hb, if_neg hne']; exact q3⟩

theorem flA_nz (old : Pa) (s : Nat) (p : Pa) (m : Nat) : (flA old s p m).n = p.n ∧ (flA old s p m).z = p.z := by
  induction m with
  | zero => exact ⟨rfl, rfl⟩
  | succ m ih => rw [flA, (stp_nz _ _ _).1, (stp_nz _ _ _).2]; exact ih
theorem flH_nz (old p : Pa) (m : Nat) : (flH old p m).n = p.n ∧ (flH old p m).z = p.z := by
  induction m with
  | zero => exact ⟨rfl, rfl⟩
  | succ m ih => rw [flH, (stp_nz _ _ _).1, (stp_nz _ _ _).2]; exact ih
theorem fill_nz (old p : Pa) : (fill old p).n = p.n ∧ (fill old p).z = p.z := by
  unfold fill
  rw [(flH_nz _ _ _).1, (flH_nz _ _ _).2, (flA_nz _ _ _ _).1, (flA_nz _ _ _ _).2]
  exact ⟨rfl, rfl⟩

/-- What a table holds of the heap s: its two parts' blocks, and L cells beside them are taken. -/
structure TB (t : TS) (s : H.St) (L : Int) : Prop where
  b1 : Blk s t.sb (t.p.n : Nat)
  b2 : Blk s t.nb (3 * (t.p.z : Nat))
  ne : t.sb = t.nb → t.sb = 0
  live : s.live = L + (t.p.n : Nat) + 3 * (t.p.z : Nat)
theorem tp_cases (s : H.St) (A Z : Int) : (H.takeE s A ≠ 0 ∧ tpE s A Z = H.takeE s A ∧ tpS s A Z = s) ∨
    (H.takeE s A = 0 ∧ H.takeE (H.takeSt s A) (3 * Z) ≠ 0 ∧ tpE s A Z = H.takeE (H.takeSt s A) (3 * Z) ∧ tpS s A Z = H.giveSt (H.takeSt s A) (H.takeId s A)) ∨
    (H.takeE s A = 0 ∧ H.takeE (H.takeSt s A) (3 * Z) = 0 ∧ tpE s A Z = 0 ∧ tpS s A Z = H.takeSt (H.takeSt s A) (3 * Z)) := by
  unfold tpE tpS
  by_cases h : H.takeE s A = 0
  · right
    rw [if_neg (fun q => q h), if_neg (fun q => q h)]
    by_cases h2 : H.takeE (H.takeSt s A) (3 * Z) = 0
    · right; rw [if_neg (fun q => q h2)]; exact ⟨h, h2, h2, rfl⟩
    · left; rw [if_pos h2]; exact ⟨h, h2, rfl, rfl⟩
  · left; rw [if_pos h, if_pos h]; exact ⟨h, rfl, rfl⟩
theorem TB.reh {t : TS} {s : H.St} {L : Int} (h : TB t s L) (iv : H.Inv 0 s) (k : V) : TB (Proofs.Ytonopchpnhninaa.reh t s k).1 (Proofs.Ytonopchpnhninaa.reh t s k).2.1 L ∧ (Proofs.Ytonopchpnhninaa.reh t s k).2.1.lim = s.lim := by
  unfold Proofs.Ytonopchpnhninaa.reh
  by_cases he : rsE t.p k = 0
  · rw [if_neg (fun q => q he)]
    generalize rsA t.p k = A
    generalize rsZ t.p k = Z
    rcases tp_cases s (A : Nat) (Z : Nat) with ⟨q1, q2, q3⟩ | ⟨q1, q2, q3, q4⟩ | ⟨q1, q2, q3, q4⟩
    · rw [if_pos (by rw [q2]; exact q1), q3]
      exact ⟨h, rfl⟩
    · rw [if_pos (by rw [q3]; exact q2), q4]
      obtain ⟨a1, a2, a3, a4⟩ := blk_take iv q1
      obtain ⟨g1, g2, g3⟩ := blk_give a1
      have k1 := a4 _ _ h.b1
      have k2 := a4 _ _ h.b2
      exact ⟨⟨g3 _ _ k1.1 k1.2, g3 _ _ k2.1 k2.2, h.ne, by show (H.giveSt (H.takeSt s (A : Nat)) (H.takeId s (A : Nat))).live = L + (t.p.n : Nat) + 3 * (t.p.z : Nat); rw [g1, a2, h.live]; omega⟩, by show (H.giveSt (H.takeSt s (A : Nat)) (H.takeId s (A : Nat))).lim = s.lim; rw [g2, a3]⟩
    · rw [if_neg (fun q => q q3), q4]
      obtain ⟨a1, a2, a3, a4⟩ := blk_take iv q1
      obtain ⟨c1, c2, c3, c4⟩ := blk_take (iv.take _) q2
      have k1 := a4 _ _ h.b1
      have k2 := a4 _ _ h.b2
      have m1 := c4 _ _ k1.1
      have m2 := c4 _ _ k2.1
      have m3 := c4 _ _ a1
      obtain ⟨g1, g2, g3⟩ := blk_give m1.1
      have n2 := g3 _ _ m2.1 (fun e => by have := h.ne e.symm; omega)
      have n3 := g3 _ _ m3.1 (fun e => by have := k1.2 e.symm; omega)
      have n4 := g3 _ _ c1 (fun e => by have := m1.2 e.symm; omega)
      obtain ⟨f1, f2, f3⟩ := blk_give n2
      have p3 := f3 _ _ n3 (fun e => by have := k2.2 e.symm; omega)
      have p4 := f3 _ _ n4 (fun e => by have := m2.2 e.symm; omega)
      obtain ⟨z1, z2⟩ := fill_nz t.p (fresh A Z)
      have z1' : (fill t.p (fresh A Z)).n = A := z1
      have z2' : (fill t.p (fresh A Z)).z = Z := z2
      refine ⟨⟨?_, ?_, fun e => m3.2 e, ?_⟩, by rw [f2, g2, c3, a3]⟩
      · show Blk _ _ ((fill t.p (fresh A Z)).n : Nat); rw [z1']; exact p3
      · show Blk _ _ (3 * ((fill t.p (fresh A Z)).z : Nat)); rw [z2']; exact p4
      · show _ = L + ((fill t.p (fresh A Z)).n : Nat) + 3 * ((fill t.p (fresh A Z)).z : Nat)
        rw [z1', z2', f1, g1, c2, a2, h.live]; omega
  · rw [if_pos he]; exact ⟨h, rfl⟩
theorem TB.one {t : TS} {s : H.St} {L : Int} (h : TB t s L) (k v : V) (x : Int) : TB { t with p := (pset t.p k v).1, pr := x } s L := by
  obtain ⟨z1, z2⟩ := pset_nz t.p k v
  exact ⟨by show Blk s t.sb ((pset t.p k v).1.n : Nat); rw [z1]; exact h.b1, by show Blk s t.nb (3 * ((pset t.p k v).1.z : Nat)); rw [z2]; exact h.b2, h.ne, by show _ = L + ((pset t.p k v).1.n : Nat) + 3 * ((pset t.p k v).1.z : Nat); rw [z1, z2]; exact h.live⟩
theorem TB.set {t : TS} {s : H.St} {L : Int} (h : TB t s L) (iv : H.Inv 0 s) (k v : V) : TB (tset t s k v).1 (tset t s k v).2.1 L ∧ (tset t s k v).2.1.lim = s.lim := by
  unfold tset
  split
  · exact ⟨h, rfl⟩
  · split
    · exact ⟨h, rfl⟩
    · split
      · exact ⟨h.one k v _, rfl⟩
      · obtain ⟨r1, r2⟩ := (show TB (Proofs.Ytonopchpnhninaa.one t k v) s L from h.one k v _).reh iv k
        split
        · exact ⟨r1, r2⟩
        · exact ⟨r1.one k v _, r2⟩
end Go.Proofs.Ytonopchpnhninaa

/- The pure part of a table, on: keys that follow one another, none of them small. -/
namespace Go.Proofs.Ytonopchpnhninaa
open Go.RowKit

/-- The census has no error where few keys are present. -/
theorem rsE_few {p : Pa} {k : V} (h : ∀ k', k' ∈ pres p ++ [k] → KOK k') (hn : (pres p ++ [k]).Nodup) (hl : (pres p ++ [k]).length ≤ 65536) : rsE p k = 0 := by
  rcases cens h hn with q | q
  · exfalso
    unfold rsE at q
    generalize pres p ++ [k] = l at *
    have hf := ints_fit h
    have hd := (C.dense_of (ints l) hf).n
    have hw := (C.wi_bound (ints l) (C.chA (C.cntL (ints l)) 17)).1
    have hc := ints_len l
    unfold C.szE at q
    rw [if_neg (by omega), if_neg (by simpa using ints_nd h hn)] at q
    have : ¬ (65536 < ((oth l : Nat) : Int) ∨ 65536 < ((oth l : Nat) : Int) + C.rest (ints l)) := by unfold C.rest; omega
    rw [if_neg this] at q
    cases q
  · exact q.1
theorem up2_le (n : Int) (h0 : 0 ≤ n) (h1 : n ≤ 1024) : C.up2 n ≤ 1024 := by
  unfold C.up2
  by_cases q : n = 0
  · rw [if_pos q]; omega
  · rw [if_neg q]
    obtain ⟨a, b, c⟩ := C.lgN_spec n (by omega) (by omega)
    have hl : C.lgN n ≤ 10 := by
      rcases b with b | b
      · omega
      · rcases Nat.lt_or_ge 10 (C.lgN n) with q | q
        · have := Nat.pow_le_pow_right (n := 2) (by omega) (show 10 ≤ C.lgN n - 1 by omega)
          omega
        · exact q
    unfold C.cl
    have h2 := Nat.pow_le_pow_right (n := 2) (by omega) hl
    have e : ((2 : Int) ^ C.lgN n) = ((2 ^ C.lgN n : Nat) : Int) := by simp
    rw [e]; omega

/-- j keys are in, b + 1 to b + j; none has a slot. -/
structure RW (b : Int) (j : Nat) (t : TS) (s : H.St) : Prop where
  n0 : t.p.n = 0
  tb : TB t s 4
  lim : s.lim = 400000
  zb : t.p.z ≤ 1024
  keys : ∀ i, i < t.p.z → t.p.g.K i = nil ∨ ∃ q : Nat, 1 ≤ q ∧ q ≤ j ∧ t.p.g.K i = kn (b + q)
  get : ∀ q : Nat, 1 ≤ q → q ≤ j → pget t.p (kn (b + q)) = kn q
theorem kn_inj {a b : Int} (h : kn a = kn b) : a = b := by simpa using h
theorem KOK_row {b : Int} {q : Nat} (h0 : 0 ≤ b) (h1 : b < 4611686018427387904) (hq : q ≤ 701) : KOK (kn (b + q)) := by
  refine ⟨by simp [inF, ByteArray.toList_eq], by simp, by simp; omega, by simp; omega⟩
theorem fm_kn (n : Int) : fm (kn n) = true := by simp [fm, inF, ByteArray.toList_eq]
theorem not_inA0 (k : V) : ¬ inA 0 k := fun h => by have := h.2.2; omega
theorem RW.pres_len {b : Int} {j : Nat} {t : TS} {s : H.St} (h : RW b j t s) (ti : TI t.p) : (pres t.p).length ≤ j ∧ ∀ k, k ∈ pres t.p → ∃ q : Nat, 1 ≤ q ∧ q ≤ j ∧ k = kn (b + q) := by
  have hm : ∀ k, k ∈ pres t.p → ∃ q : Nat, 1 ≤ q ∧ q ≤ j ∧ k = kn (b + q) := fun k hk => by
    rw [pres, h.n0, List.mem_append] at hk
    rcases hk with hk | hk
    · cases hk
    · obtain ⟨i, hi, hx, rfl⟩ := mem_kH.1 hk
      exact (h.keys i hi).resolve_left (ti.live hi hx).1
  refine ⟨?_, hm⟩
  have hnd : ((pres t.p).map fun k => (k.2.1 - b - 1).toNat).Nodup := by
    unfold List.Nodup
    rw [List.pairwise_map]
    refine List.Pairwise.imp_of_mem ?_ ti.pres_nd
    intro k k' hk hk' hne e
    obtain ⟨q, q1, q2, rfl⟩ := hm k hk
    obtain ⟨q', q1', q2', rfl⟩ := hm k' hk'
    have e' : (b + (q : Int) - b - 1).toNat = (b + (q' : Int) - b - 1).toNat := e
    exact hne (by rw [show q = q' by omega])
  have := nodup_len (z := j) hnd (fun x hx => by
    obtain ⟨k, hk, rfl⟩ := List.mem_map.1 hx
    obtain ⟨q, q1, q2, rfl⟩ := hm k hk
    show (b + (q : Int) - b - 1).toNat < j
    omega)
  simpa using this

theorem RW.step {b : Int} {j m : Nat} {t : TS} {s : H.St} (h : RW b j t s) (ti : TI t.p) (iv : H.Inv 0 s) (hj : j + 1 ≤ m) (hm : m ≤ 700) (hb : 2 * (m : Int) ≤ b) (hb2 : b < 4611686018427387904) :
    (tset t s (kn (b + (j + 1 : Nat))) (kn ((j + 1 : Nat)))).2.2 = 0 ∧ RW b (j + 1) (tset t s (kn (b + (j + 1 : Nat))) (kn (j + 1 : Nat))).1 (tset t s (kn (b + (j + 1 : Nat))) (kn (j + 1 : Nat))).2.1 := by
  have hk : KOK (kn (b + (j + 1 : Nat))) := KOK_row (by omega) hb2 (by omega)
  have hv := fm_kn ((j + 1 : Nat) : Int)
  have hr : Rng (kn (b + (j + 1 : Nat))) := ⟨hk.2.2.1, hk.2.2.2⟩
  have hv0 : (kn ((j + 1 : Nat) : Int)).1 ≠ 0 := by simp
  obtain ⟨htb, hlim⟩ := h.tb.set iv (kn (b + (j + 1 : Nat))) (kn (j + 1 : Nat))
  obtain ⟨mp1, mp2⟩ := tset_map (s := s) (k := kn (b + (j + 1 : Nat))) (v := kn (j + 1 : Nat)) ti hr
  obtain ⟨hpl, hpm⟩ := h.pres_len ti
  have hold : ∀ q : Nat, 1 ≤ q → q ≤ j → kn (b + q) ≠ kn (b + (j + 1 : Nat)) := fun q _ q2 e => by have := kn_inj e; omega
  -- what is left to show
  have key : (tset t s (kn (b + (j + 1 : Nat))) (kn (j + 1 : Nat))).2.2 = 0 ∧ (tset t s (kn (b + (j + 1 : Nat))) (kn (j + 1 : Nat))).1.p.n = 0 ∧ (tset t s (kn (b + (j + 1 : Nat))) (kn (j + 1 : Nat))).1.p.z ≤ 1024 ∧
      ∀ i, i < (tset t s (kn (b + (j + 1 : Nat))) (kn (j + 1 : Nat))).1.p.z → (tset t s (kn (b + (j + 1 : Nat))) (kn (j + 1 : Nat))).1.p.g.K i = nil ∨ ∃ q : Nat, 1 ≤ q ∧ q ≤ j + 1 ∧ (tset t s (kn (b + (j + 1 : Nat))) (kn (j + 1 : Nat))).1.p.g.K i = kn (b + q) := by
    clear mp1 mp2 htb hlim
    generalize hkk : kn (b + (j + 1 : Nat)) = k at *
    generalize kn ((j + 1 : Nat) : Int) = v at *
    have hA : ¬ inA t.p.n k := by rw [h.n0]; exact not_inA0 k
    have ep : pset t.p k v = ({ t.p with g := (put t.p.z t.p.g k v).1 }, (put t.p.z t.p.g k v).2.1, (put t.p.z t.p.g k v).2.2) := by unfold pset; rw [if_neg hA]
    unfold tset
    rw [if_neg (fun q => q ⟨hk.1, hv⟩), if_neg hk.2.1]
    by_cases he : (pset t.p k v).2.2 = 12
    · rw [if_neg (fun q => q he)]
      obtain ⟨_, _, _, hnew, hfull, hg, hp, ha⟩ := ti.full hk he
      have h1 : TI (pset t.p k v).1 := ti.set hr hv
      have hA1 : ¬ inA (pset t.p k v).1.n k := by rw [(pset_nz t.p k v).1]; exact hA
      have hnew1 : ∀ i, i < (pset t.p k v).1.z → (pset t.p k v).1.g.K i ≠ k := fun i hi e => by
        rw [(pset_nz t.p k v).2] at hi
        have he' : (put t.p.z t.p.g k v).2.2 = 12 := by rw [ep] at he; exact he
        have e2 := (put_12 ti.inv ti.rt hk he').2.2.2.2.1
        rw [ep] at e
        have e3 : (put t.p.z t.p.g k v).1.K i = k := e
        rw [e2] at e3
        exact hnew i hi e3
      have hop : (one t k v).p = (pset t.p k v).1 := rfl
      have hos : (one t k v).sb = t.sb ∧ (one t k v).nb = t.nb := ⟨rfl, rfl⟩
      rw [← hop] at ha h1 hA1 hnew1 hp
      generalize one t k v = u at *
      have hlen : (pres u.p ++ [k]).length ≤ j + 1 := by rw [hp]; simp; omega
      have e0 := rsE_few ha.ok ha.nd (by omega)
      obtain ⟨F, i1, i2, i3, i4, i5⟩ := h1.behind hk hv hv0 hA1 hnew1 ha e0
      have hmem : ∀ k', k' ∈ pres u.p ++ [k] → ∃ q : Nat, 1 ≤ q ∧ q ≤ j + 1 ∧ k' = kn (b + q) := fun k' hk' => by
        rw [hp] at hk'
        rcases List.mem_append.1 hk' with q | q
        · obtain ⟨r, r1, r2, r3⟩ := hpm k' q
          exact ⟨r, r1, by omega, r3⟩
        · exact ⟨j + 1, by omega, by omega, by rw [List.mem_singleton.1 q, hkk]⟩
      have hA0 : rsA u.p k = 0 := by
        by_cases q : rsA u.p k = 0
        · exact q
        · exfalso
          have hh := F.dense.half (by omega)
          have hw := C.wi_bound (ints (pres u.p ++ [k])) (rsA u.p k)
          have hc := ints_len (pres u.p ++ [k])
          have hpos : 0 < C.wi (ints (pres u.p ++ [k])) (rsA u.p k) := by omega
          unfold C.wi at hpos
          have hp2 : 0 < (ints (pres u.p ++ [k])).countP (fun x => decide (1 ≤ x ∧ x ≤ ((rsA u.p k : Nat) : Int))) := by omega
          obtain ⟨x, hx, hx2⟩ := List.countP_pos_iff.1 hp2
          obtain ⟨k', hk', _, hx3⟩ := ints_mem hx
          obtain ⟨r, r1, r2, rfl⟩ := hmem k' hk'
          have hx3' : b + (r : Int) = x := hx3
          simp at hx2
          omega
      have hZ : rsZ u.p k ≤ 1024 := by
        have hup := F.up
        have ho : outK (rsA u.p k) (pres u.p ++ [k]) ≤ (pres u.p ++ [k]).length := List.countP_le_length
        have := up2_le (outK (rsA u.p k) (pres u.p ++ [k]) : Nat) (by omega) (by omega)
        omega
      have hlv := h.tb.live
      have hn0 := h.n0
      have hzb := h.zb
      have hl := h.lim
      have t1 : H.takeE s ((rsA u.p k : Nat) : Int) = 0 := by
        unfold H.takeE
        rw [if_neg (by omega), if_neg (by omega)]
      have ts : H.takeSt s ((rsA u.p k : Nat) : Int) = s := by
        rw [hA0]
        unfold H.takeSt
        rw [if_neg (by omega), if_neg (by omega), if_pos (by omega)]
      have t2 : H.takeE (H.takeSt s ((rsA u.p k : Nat) : Int)) (3 * ((rsZ u.p k : Nat) : Int)) = 0 := by
        rw [ts]
        unfold H.takeE
        rw [if_neg (by omega), if_neg (by omega)]
      have et : tpE s (rsA u.p k : Nat) (rsZ u.p k : Nat) = 0 := by unfold tpE; rw [if_neg (fun q => q t1), t2]
      have hroom : outK (rsA u.p k) (pres u.p) ≤ rsZ u.p k := by have := F.room; rw [outK_app] at this; omega
      obtain ⟨_, _, _, _, _, f6⟩ := h1.filled F.a F.z hroom
      have er : (Proofs.Ytonopchpnhninaa.reh u s k).2.2 = 0 ∧ (Proofs.Ytonopchpnhninaa.reh u s k).1.p = fill u.p (fresh (rsA u.p k) (rsZ u.p k)) := by
        unfold Proofs.Ytonopchpnhninaa.reh
        rw [if_neg (fun q => q e0), if_neg (fun q => q et)]
        exact ⟨rfl, rfl⟩
      rw [if_neg (fun q => q er.1), er.2]
      refine ⟨i5, ?_, ?_, ?_⟩
      · show (pset _ k v).1.n = 0
        rw [(pset_nz _ k v).1, i2, hA0]
      · show (pset _ k v).1.z ≤ 1024
        rw [(pset_nz _ k v).2, i3]; exact hZ
      · intro i hi
        have hi' : i < rsZ u.p k := by
          have : (pset (fill u.p (fresh (rsA u.p k) (rsZ u.p k))) k v).1.z = rsZ u.p k := by rw [(pset_nz _ k v).2, i3]
          have hi2 : i < (pset (fill u.p (fresh (rsA u.p k) (rsZ u.p k))) k v).1.z := hi
          omega
        have hAf : ¬ inA (fill u.p (fresh (rsA u.p k) (rsZ u.p k))).n k := by rw [i2, hA0]; exact not_inA0 k
        show (pset (fill u.p (fresh (rsA u.p k) (rsZ u.p k))) k v).1.g.K i = nil ∨ ∃ q : Nat, 1 ≤ q ∧ q ≤ j + 1 ∧ (pset (fill u.p (fresh (rsA u.p k) (rsZ u.p k))) k v).1.g.K i = kn (b + q)
        have epf : (pset (fill u.p (fresh (rsA u.p k) (rsZ u.p k))) k v).1.g = (put (fill u.p (fresh (rsA u.p k) (rsZ u.p k))).z (fill u.p (fresh (rsA u.p k) (rsZ u.p k))).g k v).1 := by unfold pset; rw [if_neg hAf]
        rw [epf]
        rcases put_pairs (v := v) i1.inv i1.rt hr (i := i) (by rw [i3]; exact hi') with q | ⟨q, _⟩ | ⟨i', hi2, q, _⟩
        · exact .inl q
        · exact .inr ⟨j + 1, by omega, by omega, by rw [q, hkk]⟩
        · rw [q]
          rw [i3] at hi2
          rcases f6 i' hi2 with r | r
          · exact .inl r
          · obtain ⟨x, x1, x2, x3⟩ := hmem _ (List.mem_append.2 (.inl r))
            exact .inr ⟨x, x1, x2, x3⟩
    · rw [if_pos he]
      have he0 : (pset t.p k v).2.2 = 0 := by
        by_cases q : (pset t.p k v).2.2 = 0
        · exact q
        · rw [ep] at he q ⊢
          rcases (put_bad q).2 with r | ⟨_, r⟩ | ⟨_, _, _, r⟩
          · exact absurd r he
          · exact absurd ⟨hk.1, hv⟩ r
          · exact absurd r hk.2.1
      refine ⟨he0, ?_, ?_, ?_⟩
      · show (pset t.p k v).1.n = 0
        rw [(pset_nz t.p k v).1]; exact h.n0
      · show (pset t.p k v).1.z ≤ 1024
        rw [(pset_nz t.p k v).2]; exact h.zb
      · intro i hi
        have hi' : i < t.p.z := by
          have hi2 : i < (pset t.p k v).1.z := hi
          rwa [(pset_nz t.p k v).2] at hi2
        show (pset t.p k v).1.g.K i = nil ∨ ∃ q : Nat, 1 ≤ q ∧ q ≤ j + 1 ∧ (pset t.p k v).1.g.K i = kn (b + q)
        rw [ep]
        rcases put_pairs (v := v) ti.inv ti.rt hr hi' with q | ⟨q, _⟩ | ⟨i', hi2, q, _⟩
        · exact .inl q
        · exact .inr ⟨j + 1, by omega, by omega, q.trans hkk.symm⟩
        · rcases h.keys i' hi2 with r | ⟨x, x1, x2, x3⟩
          · exact .inl (q.trans r)
          · exact .inr ⟨x, x1, by omega, q.trans x3⟩
  obtain ⟨k1, k2, k3, k4⟩ := key
  obtain ⟨_, _, g1, g2⟩ := mp1 k1
  refine ⟨k1, k2, htb, by rw [hlim]; exact h.lim, k3, k4, fun q q1 q2 => ?_⟩
  by_cases e : q = j + 1
  · rw [e]; exact g1
  · rw [g2 _ (KOK_row (by omega) hb2 (by omega)) (hold q q1 (by omega))]
    exact h.get q q1 (by omega)
end Go.Proofs.Ytonopchpnhninaa

/- The pure part of a table, on: how many nodes are read for keys that follow one another. -/
namespace Go.Proofs.Ytonopchpnhninaa
open Go.RowKit

theorem pl_kn {z : Nat} {x : Int} (h0 : 0 ≤ x) (h1 : x < 18446744073709551616) : pl z (kn x) = (x % dm z).toNat := by
  unfold pl mp
  rw [if_neg (by simp), if_pos (by simp)]
  show (x % 18446744073709551616 % dm z).toNat = _
  rw [Int.emod_eq_of_lt h0 h1]
theorem pos_le (c : List Nat) (i : Nat) : pos c i ≤ c.length := by
  unfold pos
  split
  · rename_i h
    obtain ⟨p, q, rfl, hp⟩ := mem_split h
    have e := pos_split (q := q) hp
    unfold pos at e
    rw [if_pos (by simp)] at e
    rw [e]; simp
  · omega
theorem len_one {c : List Nat} {a : Nat} (hn : c.Nodup) (h : ∀ x, x ∈ c → x = a) : c.length ≤ 1 := by
  match c, hn, h with
  | [], _, _ => simp
  | [_], _, _ => simp
  | x :: y :: r, hn, h =>
    exfalso
    have e1 := h x (by simp)
    have e2 := h y (by simp)
    simp at hn
    exact hn.1.1 (by rw [e1, e2])
theorem pos_two {c : List Nat} {a b : Nat} (hn : c.Nodup) (h : ∀ x, x ∈ c → x = a ∨ x = b) (hab : a ≠ b) : pos c a + pos c b ≤ 3 := by
  match c, hn, h with
  | [], _, _ => simp [pos]
  | [x], _, _ =>
    have h1 := pos_le [x] a
    have h2 := pos_le [x] b
    simp at h1 h2
    omega
  | [x, y], hn, h =>
    have hxy : x ≠ y := by simpa using hn
    have h1 := pos_le [x, y] a
    have h2 := pos_le [x, y] b
    simp at h1 h2
    rcases h x (by simp) with rfl | rfl
    · have : pos [x, y] x = 1 := by simp [pos]
      omega
    · have : pos [x, y] x = 1 := by simp [pos]
      omega
  | x :: y :: w :: r, hn, h =>
    exfalso
    simp at hn
    have e1 := h x (by simp)
    have e2 := h y (by simp)
    have e3 := h w (by simp)
    obtain ⟨⟨n1, n2, _⟩, ⟨n3, _⟩, _⟩ := hn
    omega
theorem sum_ones {n : Nat} {f : Nat → Nat} (h : ∀ q, q < n → f q ≤ 1) : sumTo n f ≤ n := by
  induction n with
  | zero => simp [sumTo]
  | succ n ih =>
    rw [sumTo]
    have := ih (fun q hq => h q (by omega))
    have := h n (by omega)
    omega
theorem sum_first {n : Nat} {f : Nat → Nat} (hn : 1 ≤ n) (h : ∀ q, 0 < q → q < n → f q ≤ 1) : sumTo n f + 1 ≤ n + f 0 := by
  induction n with
  | zero => omega
  | succ n ih =>
    rw [sumTo]
    by_cases q : n = 0
    · subst q; simp [sumTo]; omega
    · have := ih (by omega) (fun q h1 h2 => h q h1 (by omega))
      have := h n (by omega) (by omega)
      omega

theorem RW.reads {b : Int} {m : Nat} {t : TS} {s : H.St} (h : RW b m t s) (ti : TI t.p) (hm : m ≤ 700) (hb : 2 * (m : Int) ≤ b) (hb2 : b < 4611686018427387904) :
    sumTo m (fun q => prd t.p (kn (b + (q + 1 : Nat)))) ≤ m + 1 := by
  by_cases hm0 : m = 0
  · subst hm0; simp [sumTo]
  · have hnode : ∀ q, q < m → ∃ i, i < t.p.z ∧ t.p.g.K i = kn (b + (q + 1 : Nat)) := fun q hq => by
      have hk : KOK (kn (b + (q + 1 : Nat))) := KOK_row (by omega) hb2 (by omega)
      rcases ti.get_out hk (by rw [h.n0]; exact not_inA0 _) with ⟨i, h1, h2, _⟩ | ⟨_, e⟩
      · exact ⟨i, h1, h2⟩
      · rw [h.get (q + 1) (by omega) (by omega)] at e
        exact absurd (congrArg (·.1) e) (by simp [nil])
    obtain ⟨I, hI⟩ : ∃ I : Nat → Nat, ∀ q, q < m → I q < t.p.z ∧ t.p.g.K (I q) = kn (b + (q + 1 : Nat)) :=
      ⟨fun q => if hq : q < m then (hnode q hq).choose else 0, fun q hq => by simp only [dif_pos hq]; exact (hnode q hq).choose_spec⟩
    have hinj : ∀ q q', q < m → q' < m → I q = I q' → q = q' := fun q q' hq hq' e => by
      have e1 := (hI q hq).2
      rw [e, (hI q' hq').2] at e1
      have := kn_inj e1
      omega
    have hmz : m ≤ t.p.z := by
      have hnd : ((List.range m).map I).Nodup := by
        unfold List.Nodup
        rw [List.pairwise_map]
        refine List.Pairwise.imp_of_mem ?_ (List.nodup_range)
        intro q q' hq hq' hne e
        exact hne (hinj q q' (List.mem_range.1 hq) (List.mem_range.1 hq') e)
      have := nodup_len (z := t.p.z) hnd (fun x hx => by
        obtain ⟨q, hq, rfl⟩ := List.mem_map.1 hx
        exact (hI q (List.mem_range.1 hq)).1)
      simpa using this
    have hz0 : t.p.z ≠ 0 := by omega
    have hpw := ti.rt.resolve_left hz0
    have hzb := h.zb
    obtain ⟨d1, _, _⟩ := dm_pos t.p.z (by omega) (by omega)
    have hd : (t.p.z : Int) ≤ dm t.p.z + 1 := by unfold dm; split <;> omega
    obtain ⟨d, hdd⟩ : ∃ d, dm t.p.z = d := ⟨_, rfl⟩
    rw [hdd] at d1 hd
    have hpl : ∀ q : Nat, q ≤ 700 → pl t.p.z (kn (b + (q + 1 : Nat))) = ((b + (q + 1 : Nat)) % d).toNat := fun q hq => by rw [pl_kn (by omega) (by omega), hdd]
    have hplz : ∀ k, KOK k → pl t.p.z k < t.p.z := fun k _ => pl_lt hpw k
    have hcost : ∀ q, q < m → prd t.p (kn (b + (q + 1 : Nat))) = pos (t.p.g.C (pl t.p.z (kn (b + (q + 1 : Nat))))) (I q) := fun q hq => by
      have hk : KOK (kn (b + (q + 1 : Nat))) := KOK_row (by omega) hb2 (by omega)
      have hr := ti.inv.rds_pos hplz (hI q hq).1 (by rw [(hI q hq).2]; exact hk.ne)
      unfold rds at hr
      rw [if_neg (by rw [(hI q hq).2]; exact hk.ne), (hI q hq).2] at hr
      unfold prd
      rw [if_neg (by rw [h.n0]; exact not_inA0 _), fnd_good hz0 hk]
      exact hr
    have hmod : ∀ q q' : Nat, q < q' → q' < m → ((b + (q + 1 : Nat)) % d).toNat = ((b + (q' + 1 : Nat)) % d).toNat → q = 0 ∧ q' + 1 = m ∧ (m : Int) = d + 1 := fun q q' hq hq' e => by
      have m1 := Int.emod_nonneg (b + (q + 1 : Nat)) (show d ≠ 0 by omega)
      have m2 := Int.emod_nonneg (b + (q' + 1 : Nat)) (show d ≠ 0 by omega)
      have e2 : (b + (q' + 1 : Nat)) % d = (b + (q + 1 : Nat)) % d := by omega
      have e3 := Int.dvd_of_emod_eq_zero (Int.emod_eq_emod_iff_emod_sub_eq_zero.1 e2)
      have := Int.le_of_dvd (by omega) e3
      omega
    have hin : ∀ q, q < m → ∀ x, x ∈ t.p.g.C (pl t.p.z (kn (b + (q + 1 : Nat)))) → ∃ q', q' < m ∧ x = I q' ∧ ((b + (q' + 1 : Nat)) % d).toNat = ((b + (q + 1 : Nat)) % d).toNat := fun q hq x hx => by
      have hk : KOK (kn (b + (q + 1 : Nat))) := KOK_row (by omega) hb2 (by omega)
      obtain ⟨c1, c2, c3⟩ := ti.inv.cok _ (hplz _ hk) x hx
      obtain ⟨y, y1, y2, y3⟩ := (h.keys x c1).resolve_left c2
      obtain ⟨q', rfl⟩ : ∃ q', y = q' + 1 := ⟨y - 1, by omega⟩
      refine ⟨q', by omega, ti.inv.one x (I q') c1 (hI q' (by omega)).1 c2 (by rw [y3, (hI q' (by omega)).2]), ?_⟩
      rw [y3, hpl q' (by omega), hpl q (by omega)] at c3
      exact c3
    have hnd : ∀ q, q < m → (t.p.g.C (pl t.p.z (kn (b + (q + 1 : Nat))))).Nodup := fun q hq => ti.inv.nd _ (hplz _ (KOK_row (by omega) hb2 (by omega)))
    have hone : ∀ q, q < m → ¬ ((m : Int) = d + 1 ∧ 2 ≤ m ∧ (q = 0 ∨ q + 1 = m)) → prd t.p (kn (b + (q + 1 : Nat))) ≤ 1 := fun q hq hno => by
      rw [hcost q hq]
      refine Nat.le_trans (pos_le _ _) (len_one (a := I q) (hnd q hq) fun x hx => ?_)
      obtain ⟨q', hq', rfl, e⟩ := hin q hq x hx
      rcases Nat.lt_trichotomy q' q with r | r | r
      · have := hmod q' q r hq e
        exact absurd ⟨this.2.2, by omega, .inr this.2.1⟩ hno
      · rw [r]
      · have := hmod q q' r hq' e.symm
        exact absurd ⟨this.2.2, by omega, .inl this.1⟩ hno
    by_cases hB : (m : Int) = d + 1 ∧ 2 ≤ m
    · obtain ⟨n, rfl⟩ : ∃ n, m = n + 1 := ⟨m - 1, by omega⟩
      have hs := sum_first (n := n) (f := fun q => prd t.p (kn (b + (q + 1 : Nat)))) (by omega) (fun q h1 h2 => hone q (by omega) (fun r => by omega))
      rw [sumTo]
      have hsame : pl t.p.z (kn (b + (n + 1 : Nat))) = pl t.p.z (kn (b + (0 + 1 : Nat))) := by
        rw [hpl n (by omega), hpl 0 (by omega)]
        have : b + ((n + 1 : Nat) : Int) = (b + ((0 + 1 : Nat) : Int)) + d := by omega
        rw [this, Int.add_emod_right]
      have h2 : prd t.p (kn (b + (0 + 1 : Nat))) + prd t.p (kn (b + (n + 1 : Nat))) ≤ 3 := by
        rw [hcost 0 (by omega), hcost n (by omega), hsame]
        refine pos_two (hnd 0 (by omega)) (fun x hx => ?_) (fun e => by have := hinj 0 n (by omega) (by omega) e; omega)
        obtain ⟨q', hq', rfl, e⟩ := hin 0 (by omega) x hx
        by_cases r : q' = 0
        · exact .inl (by rw [r])
        · have := hmod 0 q' (by omega) hq' e.symm
          exact .inr (by rw [show q' = n by omega])
      have hs' : sumTo n (fun q => prd t.p (kn (b + (q + 1 : Nat)))) + 1 ≤ n + prd t.p (kn (b + (0 + 1 : Nat))) := hs
      show sumTo n (fun q => prd t.p (kn (b + (q + 1 : Nat)))) + prd t.p (kn (b + (n + 1 : Nat))) ≤ _
      omega
    · have := sum_ones (n := m) (f := fun q => prd t.p (kn (b + (q + 1 : Nat)))) (fun q hq => hone q hq (fun r => hB ⟨r.1, r.2.1⟩))
      omega
end Go.Proofs.Ytonopchpnhninaa
