/- The pure part of a table, on: the new parts of a rehash hold what the old ones held. -/
import Derived.Test.YtcaaaoehipcloaaGreatCg11
import Derived.Laws.CopyOwn
namespace Go.Proofs.YtcaaaoehipcloaaGreat
open Go.RowKit

def outK (A : Nat) (l : List V) : Nat := l.countP fun k => decide (¬ inA A k)
theorem outK_app (A : Nat) (l m : List V) : outK A (l ++ m) = outK A l + outK A m := by simp [outK]
theorem g0_held (z n : Nat) : held (g0 z) n = 0 := by
  unfold held
  have : (fun j => if (g0 z).K j = nil then 0 else 1) = fun _ : Nat => 0 := by funext j; rw [if_pos]; rfl
  rw [this, sumTo_zero]
theorem TI.cp0 {p : Pa} (h : TI p) {A Z : Nat} (hA : A ≤ 65536) (hZ : Rt Z) : TI (cpy p (fresh A Z)) := by
  have h0 := TI.fr0 hZ hA
  refine ⟨h0.inv, hZ, hA, fun i hi => ?_, h0.xv, h0.out⟩
  show fm (if i < min A p.n then p.F i else nil) = true
  split
  · exact h.fv i (by omega)
  · exact fm_nil
def lst (p : Pa) (A : Nat) : List (V × V) := sA p.F (min A p.n) (p.n - min A p.n) ++ sH p.g p.z p.z
theorem fill_lst (p : Pa) (A Z : Nat) : fill p (fresh A Z) = sets (cpy p (fresh A Z)) (lst p A) := by
  rw [lst, sets_app, ← flA_sets, ← flH_sets]; rfl
theorem mem_lst {p : Pa} {A : Nat} {q : V × V} : q ∈ lst p A ↔ (∃ i, A ≤ i ∧ i < p.n ∧ (p.F i).1 ≠ 0 ∧ q = (kn ((i : Int) + 1), p.F i)) ∨ ∃ i, i < p.z ∧ (p.g.X i).1 ≠ 0 ∧ q = (p.g.K i, p.g.X i) := by
  rw [lst, List.mem_append, mem_sA, mem_sH (Nat.le_refl _)]
  constructor
  · rintro (⟨i, h1, h2, h3, h4⟩ | ⟨i, h1, h2, h3, h4⟩)
    · exact .inl ⟨i, by omega, by omega, h3, h4⟩
    · exact .inr ⟨i, h2, h3, h4⟩
  · rintro (⟨i, h1, h2, h3, h4⟩ | ⟨i, h2, h3, h4⟩)
    · exact .inl ⟨i, by omega, by omega, h3, h4⟩
    · exact .inr ⟨i, by omega, h2, h3, h4⟩
theorem TI.lst_nd {p : Pa} (h : TI p) (A : Nat) : ((lst p A).map (·.1)).Nodup := by
  rw [lst, List.map_append, List.nodup_append]
  refine ⟨nd_sA _ _ _, nd_sH (fun i j hi hj hx e => h.inv.one i j hi hj (h.live hi hx).1 e) _ (Nat.le_refl _), fun a ha b hb e => ?_⟩
  subst e
  obtain ⟨q, hq, rfl⟩ := List.mem_map.1 ha
  obtain ⟨q', hq', e⟩ := List.mem_map.1 hb
  obtain ⟨i, h1, h2, h3, rfl⟩ := mem_sA.1 hq
  obtain ⟨j, h4, h5, h6, rfl⟩ := (mem_sH (Nat.le_refl _)).1 hq'
  exact h.out j h5 (by rw [show p.g.K j = kn ((i : Int) + 1) from e]; exact inA_kn.2 (by omega))
theorem TI.lst_out {p : Pa} (h : TI p) (A : Nat) : outs A (lst p A) = outK A (pres p) := by
  have e1 : outs A (lst p A) = outK A ((lst p A).map (·.1)) := by
    unfold outs outK
    rw [List.countP_map]
    rfl
  rw [e1]
  unfold outK
  rw [List.countP_eq_length_filter, List.countP_eq_length_filter]
  apply List.Perm.length_eq
  refine (List.perm_ext_iff_of_nodup ((h.lst_nd A).filter _) (h.pres_nd.filter _)).2 fun k => ?_
  simp only [List.mem_filter, decide_eq_true_eq, List.mem_map]
  rw [pres, List.mem_append, mem_kA, mem_kH]
  constructor
  · rintro ⟨⟨q, hq, rfl⟩, hA⟩
    refine ⟨?_, hA⟩
    rcases mem_lst.1 hq with ⟨i, h1, h2, h3, rfl⟩ | ⟨i, h2, h3, rfl⟩
    · exact .inl ⟨i, h2, h3, rfl⟩
    · exact .inr ⟨i, h2, h3, rfl⟩
  · rintro ⟨⟨i, h2, h3, rfl⟩ | ⟨i, h2, h3, rfl⟩, hA⟩
    · refine ⟨⟨(kn ((i : Int) + 1), p.F i), mem_lst.2 (.inl ⟨i, ?_, h2, h3, rfl⟩), rfl⟩, hA⟩
      rcases Nat.lt_or_ge i A with q | q
      · exact absurd (inA_kn.2 q) hA
      · exact q
    · exact ⟨⟨(p.g.K i, p.g.X i), mem_lst.2 (.inr ⟨i, h2, h3, rfl⟩), rfl⟩, hA⟩

/-- The new parts hold what the old ones held. -/
theorem TI.filled {p : Pa} (h : TI p) {A Z : Nat} (hA : A ≤ 65536) (hZ : Rt Z) (hroom : outK A (pres p) ≤ Z) :
    TI (fill p (fresh A Z)) ∧ (fill p (fresh A Z)).n = A ∧ (fill p (fresh A Z)).z = Z ∧ (∀ k, KOK k → pget (fill p (fresh A Z)) k = pget p k) ∧ held (fill p (fresh A Z)).g Z = outK A (pres p) ∧
      ∀ i, i < Z → (fill p (fresh A Z)).g.K i = nil ∨ (fill p (fresh A Z)).g.K i ∈ pres p := by
  have hc := h.cp0 hA hZ
  have hh : held (cpy p (fresh A Z)).g Z = 0 := g0_held Z Z
  have hK : ∀ i, (cpy p (fresh A Z)).g.K i = nil := fun _ => rfl
  have hlk : ∀ q, q ∈ lst p A → KOK q.1 ∧ fm q.2 = true ∧ q.2.1 ≠ 0 := fun q hq => by
    rcases mem_lst.1 hq with ⟨i, h1, h2, h3, rfl⟩ | ⟨i, h2, h3, rfl⟩
    · exact ⟨KOK_kn h2 h.le, h.fv i h2, h3⟩
    · exact ⟨(h.live h2 h3).2, h.xv i h2, h3⟩
  obtain ⟨i1, i2, i3, i4, i5, i6, i7⟩ := sets_ok (lst p A) hc hlk (h.lst_nd A) (fun q hq _ i _ e => (hlk q hq).1.ne (by rw [← e, hK])) (by
    show held (cpy p (fresh A Z)).g Z + outs A (lst p A) ≤ Z
    rw [hh, h.lst_out]; omega)
  rw [fill_lst]
  refine ⟨i1, i2, i3, fun k hk => ?_, by
    have : held (sets (cpy p (fresh A Z)) (lst p A)).g Z = held (cpy p (fresh A Z)).g Z + outs A (lst p A) := i4
    rw [this, hh, h.lst_out]; omega, fun i hi => ?_⟩
  · by_cases hin : ∃ v, (k, v) ∈ lst p A
    · obtain ⟨v, hv⟩ := hin
      rw [i5 k v hv]
      rcases mem_lst.1 hv with ⟨i, h1, h2, h3, e⟩ | ⟨i, h2, h3, e⟩
      · obtain ⟨rfl, rfl⟩ : k = _ ∧ v = _ := by simpa using e
        exact (h.get_slot h2).symm
      · obtain ⟨rfl, rfl⟩ : k = _ ∧ v = _ := by simpa using e
        exact (h.get_node h2 (h.live h2 h3).1).symm
    · rw [i6 k hk (fun v hv => hin ⟨v, hv⟩)]
      have em : ∀ k, ¬ inA A k → pget (cpy p (fresh A Z)) k = nil := fun k hq => by
        show (if inA A k then _ else mg Z (g0 Z) k) = nil
        rw [if_neg hq, mg]
        cases hf : fnd Z (g0 Z) k with
        | mk o n => cases o <;> rfl
      by_cases hp : inA p.n k
      · obtain ⟨q1, q2⟩ := inA_ix hp
        have e2 : pget p k = p.F (ix k) := by rw [pget, if_pos hp]
        rw [e2]
        by_cases hq : inA A k
        · obtain ⟨q3, _⟩ := inA_ix hq
          show (if inA A k then (if ix k < min A p.n then p.F (ix k) else nil) else _) = _
          rw [if_pos hq, if_pos (by omega)]
        · rw [em k hq]
          have hi' : A ≤ ix k := by
            rcases Nat.lt_or_ge (ix k) A with q | q
            · exact absurd (by rw [q2]; exact inA_kn.2 q) hq
            · exact q
          by_cases q0 : (p.F (ix k)).1 = 0
          · exact (form_nil (h.fv _ q1) q0).symm
          · exact absurd ⟨p.F (ix k), mem_lst.2 (.inl ⟨ix k, hi', q1, q0, by rw [← q2]⟩)⟩ hin
      · have e3 : pget (cpy p (fresh A Z)) k = nil := by
          by_cases hq : inA A k
          · obtain ⟨q3, q4⟩ := inA_ix hq
            show (if inA A k then (if ix k < min A p.n then p.F (ix k) else nil) else _) = _
            have : ¬ ix k < p.n := fun q => hp (by rw [q4]; exact inA_kn.2 q)
            rw [if_pos hq, if_neg (by omega)]
          · exact em k hq
        rw [e3]
        rcases h.get_out hk hp with ⟨i, hi, e, e2⟩ | ⟨_, e2⟩
        · rw [e2]
          by_cases q0 : (p.g.X i).1 = 0
          · exact (form_nil (h.xv i hi) q0).symm
          · exact absurd ⟨p.g.X i, mem_lst.2 (.inr ⟨i, hi, q0, by rw [e]⟩)⟩ hin
        · exact e2.symm
  · rcases i7 i hi with e | ⟨j, _, e⟩ | ⟨q, hq, e⟩
    · exact .inl e
    · exact .inl (e.trans (hK j))
    · right
      rw [e]
      rcases mem_lst.1 hq with ⟨i, h1, h2, h3, rfl⟩ | ⟨i, h2, h3, rfl⟩
      · exact List.mem_append.2 (.inl (mem_kA.2 ⟨i, h2, h3, rfl⟩))
      · exact List.mem_append.2 (.inr (mem_kH.2 ⟨i, h2, h3, rfl⟩))

theorem form_int {k : V} (hk : KOK k) (h2 : k.1 = 2) : k.2.2 = ⟨#[]⟩ := by
  obtain ⟨a, b, s⟩ := k
  have h := hk.1
  simp only at h h2
  subst h2
  simp only [inF] at h
  simp at h
  rw [ByteArray.toList_eq] at h
  obtain ⟨⟨l⟩⟩ := s
  simp at h
  subst h
  rfl
theorem ints_mem {l : List V} {x : Int} (h : x ∈ ints l) : ∃ k, k ∈ l ∧ k.1 = 2 ∧ k.2.1 = x := by
  obtain ⟨k, hk, e⟩ := List.mem_filterMap.1 h
  split at e
  · exact ⟨k, hk, by assumption, by simpa using e⟩
  · cases e
theorem ints_fit {l : List V} (h : ∀ k, k ∈ l → KOK k) : C.Fit (ints l) := by
  intro i hi
  have hm : (ints l).getD i 0 ∈ ints l := by rw [List.getD, List.getElem?_eq_getElem hi]; exact List.getElem_mem _
  obtain ⟨k, hk, _, e⟩ := ints_mem hm
  rw [← e]
  exact ⟨(h k hk).2.2.1, (h k hk).2.2.2⟩
theorem ints_nd {l : List V} (h : ∀ k, k ∈ l → KOK k) (hn : l.Nodup) : (ints l).Nodup := by
  induction l with
  | nil => simp [ints]
  | cons k l ih =>
    rw [List.nodup_cons] at hn
    have ih' := ih (fun k hk => h k (by simp [hk])) hn.2
    have e : ints (k :: l) = if k.1 = 2 then k.2.1 :: ints l else ints l := by
      unfold ints
      rw [List.filterMap_cons]
      by_cases q : k.1 = 2
      · rw [if_pos q, if_pos q]
      · rw [if_neg q, if_neg q]
    rw [e]
    split
    · rename_i q
      refine List.nodup_cons.2 ⟨fun hx => ?_, ih'⟩
      obtain ⟨k', hk', q1, q2⟩ := ints_mem hx
      have : k' = k := by
        have f1 := form_int (h k' (by simp [hk'])) q1
        have f2 := form_int (h k (by simp)) q
        obtain ⟨a, b, c⟩ := k
        obtain ⟨a', b', c'⟩ := k'
        simp only at q q1 q2 f1 f2
        rw [q, q1, q2, f1, f2]
      exact hn.1 (this ▸ hk')
    · exact ih'
/-- How many find no slot. -/
theorem outK_cnt (A : Nat) (l : List V) (h : ∀ k, k ∈ l → KOK k) : (outK A l : Int) = oth l + ((ints l).length : Int) - C.wi (ints l) A := by
  induction l with
  | nil => simp [outK, oth, ints, C.wi]
  | cons k l ih =>
    have ih' := ih (fun k hk => h k (by simp [hk]))
    rw [show k :: l = [k] ++ l from rfl, outK_app, oth_app, ints_app, List.length_append]
    have ew : C.wi (ints [k] ++ ints l) A = C.wi (ints [k]) A + C.wi (ints l) A := by simp [C.wi]
    rw [ew]
    have : (outK A [k] : Int) = oth [k] + ((ints [k]).length : Int) - C.wi (ints [k]) A := by
      by_cases q : k.1 = 2
      · have f := form_int (h k (by simp)) q
        have e1 : ints [k] = [k.2.1] := by simp [ints, q]
        have e2 : oth [k] = 0 := by simp [oth, q]
        have e3 : inA A k ↔ 1 ≤ k.2.1 ∧ k.2.1 ≤ (A : Int) := by unfold inA; simp [q, f]
        rw [e1, e2]
        by_cases q2 : inA A k
        · have : outK A [k] = 0 := by simp [outK, q2]
          rw [this]
          have : C.wi [k.2.1] A = 1 := by simp [C.wi, e3.1 q2]
          rw [this]; rfl
        · have : outK A [k] = 1 := by simp [outK, q2]
          rw [this]
          have q3 := fun x => q2 (e3.2 x)
          have : C.wi [k.2.1] A = 0 := by simp only [C.wi, List.countP_singleton, decide_eq_true_eq]; rw [if_neg q3]; rfl
          rw [this]; rfl
      · have e1 : ints [k] = [] := by simp [ints, q]
        have e2 : oth [k] = 1 := by simp [oth, q]
        have e3 : ¬ inA A k := fun x => q x.1
        have : outK A [k] = 1 := by simp [outK, e3]
        rw [e1, e2, this]; simp [C.wi]
    omega
theorem pw_pow (i : Nat) (h : i ≤ 16) : pw ((2 ^ i : Nat) : Int) = true := by
  have : i = 0 ∨ i = 1 ∨ i = 2 ∨ i = 3 ∨ i = 4 ∨ i = 5 ∨ i = 6 ∨ i = 7 ∨ i = 8 ∨ i = 9 ∨ i = 10 ∨ i = 11 ∨ i = 12 ∨ i = 13 ∨ i = 14 ∨ i = 15 ∨ i = 16 := by omega
  rcases this with rfl | rfl | rfl | rfl | rfl | rfl | rfl | rfl | rfl | rfl | rfl | rfl | rfl | rfl | rfl | rfl | rfl <;> decide
theorem up2_rt (n : Int) (h0 : 0 ≤ n) (h1 : n ≤ 65536) : ∃ z : Nat, C.up2 n = z ∧ Rt z ∧ n ≤ z := by
  unfold C.up2
  by_cases q : n = 0
  · rw [if_pos q]; exact ⟨0, rfl, .inl rfl, by omega⟩
  · rw [if_neg q]
    obtain ⟨a, b, c⟩ := C.lgN_spec n (by omega) (by omega)
    have hl : C.lgN n ≤ 16 := by
      rcases b with b | b
      · omega
      · rcases Nat.lt_or_ge 16 (C.lgN n) with q | q
        · have := Nat.pow_le_pow_right (n := 2) (by omega) (show 16 ≤ C.lgN n - 1 by omega)
          omega
        · exact q
    refine ⟨2 ^ C.lgN n, ?_, .inr (pw_pow _ hl), ?_⟩
    · unfold C.cl; simp
    · omega
/-- What the census says, where it says sizes. -/
structure Fits (l : List V) (A Z : Nat) : Prop where
  a : A ≤ 65536
  z : Rt Z
  room : outK A l ≤ Z
  dense : C.Dense (ints l) A (C.wi (ints l) A)
  up : (Z : Int) = C.up2 (outK A l)
  pow : A = 0 ∨ ∃ i, i ≤ 16 ∧ A = 2 ^ i
theorem cens {p : Pa} {k : V} (h : ∀ k', k' ∈ pres p ++ [k] → KOK k') (hn : (pres p ++ [k]).Nodup) :
    rsE p k = 14 ∨ (rsE p k = 0 ∧ Fits (pres p ++ [k]) (rsA p k) (rsZ p k) ∧ C.szA (ints (pres p ++ [k])) (oth (pres p ++ [k]) : Nat) = (rsA p k : Nat) ∧ C.szH (ints (pres p ++ [k])) (oth (pres p ++ [k]) : Nat) = (rsZ p k : Nat)) := by
  unfold rsE rsA rsZ
  generalize pres p ++ [k] = l at *
  have hf := ints_fit h
  have hd := C.dense_of (ints l) hf
  have hnd := ints_nd h hn
  rcases C.szE_cases (ints l) (oth l : Nat) with ⟨e0, e1, e2, e3, e4⟩ | ⟨_, _, ⟨q, _⟩ | ⟨_, q⟩ | ⟨_, q⟩⟩
  · right
    have ha := hd.a0
    have hb := hd.a1
    have hN := hd.n
    obtain ⟨A, hA⟩ : ∃ A : Nat, C.chA (C.cntL (ints l)) 17 = A := ⟨(C.chA (C.cntL (ints l)) 17).toNat, by omega⟩
    rw [hA] at hd ha hb hN e3
    have ho := outK_cnt A l h
    have er : (oth l : Int) + C.rest (ints l) = (outK A l : Nat) := by unfold C.rest; rw [← hN]; omega
    rw [er] at e2 e4
    obtain ⟨z, z1, z2, z3⟩ := up2_rt (outK A l : Nat) (by omega) (by omega)
    rw [e3, e4, z1]
    simp only [Int.toNat_natCast]
    have hpow : A = 0 ∨ ∃ i, i ≤ 16 ∧ A = 2 ^ i := by
      rcases C.chN_cases (C.cntL (ints l)) 17 with ⟨q1, _⟩ | ⟨i, q0, q1, _⟩
      · left; omega
      · right
        refine ⟨i, by omega, ?_⟩
        have := C.pow_int i
        omega
    refine ⟨e0, ⟨by omega, z2, by omega, ?_, z1.symm, hpow⟩, trivial, trivial⟩
    rw [hN]
    exact hd
  · omega
  · exfalso
    unfold C.szE at q
    rw [if_neg (by omega), if_neg (by simpa using hnd)] at q
    split at q <;> cases q
  · exact .inl q
end Go.Proofs.YtcaaaoehipcloaaGreat

/- The walk of sizesWith, on. -/
namespace Go.Proofs.YtcaaaoehipcloaaGreat
open Go.RowKit

theorem Cw.start (w : World) (o : Obj) : Cw ((((w.alloc o).alloc (.cells #[.slice none 0 0] 37)).alloc (.cells #[.int .i64 0] 3)).setCell ⟨w.heap.size + 1 + 1, 0, none⟩ (.int .i64 0)) (w.heap.size + 1) [] ∧
    Below w.heap.size w ((((w.alloc o).alloc (.cells #[.slice none 0 0] 37)).alloc (.cells #[.int .i64 0] 3)).setCell ⟨w.heap.size + 1 + 1, 0, none⟩ (.int .i64 0)) ∧
    (((w.alloc o).alloc (.cells #[.slice none 0 0] 37)).alloc (.cells #[.int .i64 0] 3)).cell? ⟨w.heap.size + 1 + 1, 0, none⟩ = some (.int .i64 0) ∧ (((w.alloc o).alloc (.cells #[.slice none 0 0] 37)).alloc (.cells #[.int .i64 0] 3)).frozen? ⟨w.heap.size + 1 + 1, 0, none⟩ = false := by
  have e1 : (w.alloc o).heap.size = w.heap.size + 1 := by simp
  have e2 : ((w.alloc o).alloc (.cells #[.slice none 0 0] 37)).heap.size = w.heap.size + 1 + 1 := by simp
  have h1 := (MapKept.heap_alloc (w.alloc o) (.cells #[.slice none 0 0] 37)).1
  have h2 := (MapKept.heap_alloc ((w.alloc o).alloc (.cells #[.slice none 0 0] 37)) (.cells #[.int .i64 0] 3)).1
  rw [e1] at h1
  rw [e2] at h2
  have h1' : (((w.alloc o).alloc (.cells #[.slice none 0 0] 37)).alloc (.cells #[.int .i64 0] 3)).heap[w.heap.size + 1]? = some (.cells #[.slice none 0 0] 37) := by rw [Below.heap_alloc _ _ _ (by omega)]; exact h1
  have hb : Below w.heap.size w (((w.alloc o).alloc (.cells #[.slice none 0 0] 37)).alloc (.cells #[.int .i64 0] 3)) := bthen (b2 w _ _) (by simp; omega) (b1 _ _)
  have h1'' : ((((w.alloc o).alloc (.cells #[.slice none 0 0] 37)).alloc (.cells #[.int .i64 0] 3)).setCell ⟨w.heap.size + 1 + 1, 0, none⟩ (.int .i64 0)).heap[w.heap.size + 1]? = some (.cells #[.slice none 0 0] 37) := by
    rw [Below.heap_setCell _ _ _ _ (by show w.heap.size + 1 ≠ w.heap.size + 1 + 1; omega)]; exact h1'
  refine ⟨⟨⟨.slice none 0 0, cell_of_row h1'' 0, World.ownsRow_nil _ _ _ _⟩, World.cell?_setCell_same _ _ _ (cell_of_row h2 0), fun j => H.free_row h1'' j, fun j => ?_, by simp [World.setCell]⟩, hb.setCell (by show w.heap.size ≤ w.heap.size + 1 + 1; omega) _, cell_of_row h2 0, H.free_row h2 0⟩
  simpa using H.free_row h2 j

/-- What a round of sizesWith leaves. -/
def Sr (w : World) (N B o A b a : Nat) (p : Pa) (sb nb : Int) (k : V) (l : List V) (W : World) : Prop :=
  Cw W (N + 1) l ∧ Pm W B o A b a p sb nb ∧ Bx W N k ∧ Below N w W ∧ (B < N ∧ A < N ∧ b < N ∧ a < N)
theorem Sr.below {w W W' : World} {N B o A b a : Nat} {p : Pa} {sb nb : Int} {k : V} {l : List V} (h : Sr w N B o A b a p sb nb k l W) (hb : Below W.heap.size W W') : Sr w N B o A b a p sb nb k l W' :=
  ⟨h.1.below hb, h.2.1.below hb, h.2.2.1.below hb, h.2.2.2.1.trans (hb.mono (by have := h.1.lt; omega)), h.2.2.2.2⟩
theorem Sr.step {w W W' : World} {N B o A b a : Nat} {p : Pa} {sb nb : Int} {k : V} {l l' : List V} (h : Sr w N B o A b a p sb nb k l W) (hc : Cw W' (N + 1) l') (hb : Below (N + 1) W W') : Sr w N B o A b a p sb nb k l' W' := by
  obtain ⟨h1, h2, h3, h4, q1, q2, q3, q4⟩ := h
  have kk : Keep (fun g => g < N + 1) W W' := ⟨hb.os, hb.tape, hb.output, hb.size, fun g _ hg => hb.block g hg⟩
  exact ⟨hc, h2.kept kk (by show _ < _; omega) (by show _ < _; omega) (by show _ < _; omega) (by show _ < _; omega), h3.kept kk (by show _ < _; omega), h4.trans (hb.mono (by omega)), q1, q2, q3, q4⟩
/-- A new block for a struct, and its three cells. -/
abbrev st3 (w : World) (g : Nat) (x : V) : World := (((w.alloc (.cells #[.int .i64 0, .int .i64 0, .string ⟨#[]⟩] 34)).setCell ⟨g, 0, none⟩ (.int .i64 x.1)).setCell ⟨g, 1, none⟩ (.int .i64 x.2.1)).setCell ⟨g, 2, none⟩ (.string x.2.2)
theorem st3_bx (w : World) (x : V) : Bx (st3 w w.heap.size x) w.heap.size x ∧ Below w.heap.size w (st3 w w.heap.size x) := by
  have hm := Bx.made w (0, 0, ⟨#[]⟩)
  have ne : ∀ (i j : Nat) (W : World) (v : Value), i ≠ j → (W.setCell ⟨w.heap.size, i, none⟩ v).cell? ⟨w.heap.size, j, none⟩ = W.cell? ⟨w.heap.size, j, none⟩ := fun i j W v hij => World.cell?_setCell_other _ _ _ _ (fun q => by injection q with _ q2; omega)
  refine ⟨⟨?_, ?_, ?_, by simp [World.setCell]⟩, (((b1 w _).setCell (Nat.le_refl _) _).setCell (Nat.le_refl _) _).setCell (Nat.le_refl _) _⟩
  · rw [ne 2 0 _ _ (by omega), ne 1 0 _ _ (by omega)]; exact World.cell?_setCell_same _ _ _ hm.c0
  · rw [ne 2 1 _ _ (by omega)]; exact World.cell?_setCell_same _ _ _ (by rw [ne 0 1 _ _ (by omega)]; exact hm.c1)
  · exact World.cell?_setCell_same _ _ _ (by rw [ne 1 2 _ _ (by omega), ne 0 2 _ _ (by omega)]; exact hm.c2)

set_option maxRecDepth 20000 in
set_option maxHeartbeats 4000000 in
theorem sw_any {B o A b a : Nat} {p : Pa} {sb nb : Int} (k : V) (w : World) (h : Pm w B o A b a p sb nb) (hT : TI p) (hk : ∀ k', k' ∈ pres p ++ [k] → KOK k') :
    Calls Tryz.prog 38 #[.pointer (some ⟨B, o, none⟩), vv k] w fun e w' => e = .returned (.tuple #[.int .i64 (C.szA (ints (pres p ++ [k])) (oth (pres p ++ [k]) : Nat)), .int .i64 (C.szH (ints (pres p ++ [k])) (oth (pres p ++ [k]) : Nat)), .int .i64 (C.szE (ints (pres p ++ [k])) (oth (pres p ++ [k]) : Nat))]) ∧ Below w.heap.size w w' := by
  have hmf : ∀ (fn : Fn) (first cap : Array Value) (w : World), (Instr.makeFunc fn first cap).run Tryz.prog w = .ok (.func fn first cap) w := fun _ _ _ _ => rfl
  have HC : Hid _ := Cw.start w (vb k.1 k.2.1 k.2.2)
  have X0 := (((Bx.made w k).below (b1 _ (.cells #[.slice none 0 0] 37))).below (b1 _ (.cells #[.int .i64 0] 3)))
  obtain ⟨W0, hW0⟩ : ∃ W0, ((w.alloc (vb k.1 k.2.1 k.2.2)).alloc (.cells #[.slice none 0 0] 37)).alloc (.cells #[.int .i64 0] 3) = W0 := ⟨_, rfl⟩
  rw [hW0] at HC X0
  have y1 := HC.out.2.2.1
  have y2 := HC.out.2.2.2
  have X1 := X0.kept ((Keep.refl (fun x => x ≠ w.heap.size + 1 + 1) W0).set (p := ⟨w.heap.size + 1 + 1, 0, none⟩) (fun q => q rfl) (.int .i64 0)) (by show w.heap.size ≠ w.heap.size + 1 + 1; omega)
  have HX : Hid (Bx (W0.setCell ⟨w.heap.size + 1 + 1, 0, none⟩ (.int .i64 0)) w.heap.size k) := X1
  have P1 := h.below HC.out.2.1
  have HL : Hid (∀ g, g < W0.heap.size → True) := fun _ _ => trivial
  obtain ⟨W1, hW1⟩ : ∃ W1, W0.setCell ⟨w.heap.size + 1 + 1, 0, none⟩ (.int .i64 0) = W1 := ⟨_, rfl⟩
  rw [hW1] at HC HX P1
  have HP : Hid (Pm W1 B o A b a p sb nb) := P1
  have c0 := P1.c0
  have c1 := P1.c1
  clear P1 X0 X1 HL
  unfold vb at hW0
  unfold vv vl
  unfold pp at c1
  generalize hsz : w.heap.size = N at *
  have HSZ : Hid (w.heap.size = N) := hsz
  have HS : Hid (Sr w N B o A b a p sb nb k (kA p.F 0) W1) := ⟨HC.out.1, HP.out, HX.out, HC.out.2.1, by have := h.ltB; omega, by have := h.ltA; omega, by have := h.pt.ltb; omega, by have := h.pt.lta; omega⟩
  have hn := hT.le
  have hz := hT.rt.le
  have HN0 : Hid (∀ i, i ≤ p.n → (kA p.F i).length ≤ 65536) := fun i hi => by have := kA_len p.F i; omega
  have e61 := enters61
  clear HC HX HP h
  go_enter Tryz.func38, Tryz.ntmps38
  go_wp2_with fail
  go_loopw [20] (fun iw wr => ∃ i : Nat, iw = .int .i64 (i : Nat) ∧ i ≤ p.n ∧ Hid (Sr w N B o A b a p sb nb k (kA p.F i) wr)) (fun iw _ => p.n - (intOf iw).toNat)
  case atStart => exact ⟨0, rfl, Nat.zero_le _, HS⟩
  case round =>
    obtain ⟨i, rfl, hi, HR⟩ := hrel
    clear HS y1 y2 c0 c1
    by_cases hlt : i < p.n
    · have hlt' : (i : Int) < (p.n : Int) := by omega
      obtain ⟨a0, a1, a2⟩ := HR.out.2.1.sl.at hlt
      have ek : kA p.F (i + 1) = kA p.F i ++ (if (p.F i).1 = 0 then [] else [kn ((i : Int) + 1)]) := rfl
      have hlen := HN0.out i hi
      have HBx := Bx.made wr (p.F i)
      have HR2 : Hid (Sr w N B o A b a p sb nb k (kA p.F i) (wr.alloc (vb (p.F i).1 (p.F i).2.1 (p.F i).2.2))) := HR.out.below (b1 wr (vb (p.F i).1 (p.F i).2.1 (p.F i).2.2))
      obtain ⟨W2, hW2⟩ : ∃ W2, wr.alloc (vb (p.F i).1 (p.F i).2.1 (p.F i).2.2) = W2 := ⟨_, rfl⟩
      rw [hW2] at HBx HR2
      have b0 := HBx.c0
      have hwi : IntKind.i64.wrap ((i : Int) + 1) = (i : Int) + 1 := by rw [IntKind.wrap_i64]; omega
      clear HBx HR
      unfold vb at hW2
      generalize p.F i = x at *
      by_cases hx : x.1 = 0
      · rw [if_pos hx, List.append_nil] at ek
        have HEk : Hid (kA p.F (i + 1) = kA p.F i) := ek
        have hxb : (x.1 != 0) = false := by simp [hx]
        clear ek hx
        go_wp2_with fail
        go_round
        case rel => exact ⟨i + 1, by go_num, by omega, by rw [HEk.out]; exact HR2⟩
        case measure => simp [intOf]; omega
      · have hxb : (x.1 != 0) = true := by simp [hx]
        rw [if_neg hx] at ek
        have HEk : Hid (kA p.F (i + 1) = kA p.F i ++ [kn ((i : Int) + 1)]) := ek
        have CN := number_any ((i : Int) + 1) W2
        unfold vl at CN
        clear ek hx
        go_wp2_with fail
        refine CN.mono ?_; rintro e W3 ⟨rfl, hb3⟩
        have HR3 : Hid (Sr w N B o A b a p sb nb k (kA p.F i) W3) := HR2.out.below hb3
        have CC := count_any (N + 1) W3 (kA p.F i) (kn ((i : Int) + 1)) HR3.out.1 (by omega)
        unfold vv vl at CC
        clear CN hb3 HR2
        go_wp2_with (go_at_fn 62; refine CC.mono ?_; rintro e W4 ⟨rfl, hc4, hb4⟩; have HR4 : Hid (Sr w N B o A b a p sb nb k (kA p.F i ++ [kn ((i : Int) + 1)]) W4) := HR3.out.step hc4 hb4; clear hc4 hb4)
        go_round
        case rel => exact ⟨i + 1, by go_num, by omega, by rw [HEk.out]; exact HR4⟩
        case measure => simp [intOf]; omega
    · obtain rfl : i = p.n := by omega
      have hnlt : ¬ ((p.n : Int) < (p.n : Int)) := by omega
      have c1 := HR.out.2.1.c1
      unfold pp at c1
      have CS := size_any wr HR.out.2.1.pt
      unfold pp at CS
      obtain ⟨W5, hW5⟩ : ∃ W5, W5 = wr := ⟨_, rfl⟩
      rw [← hW5] at HR c1 CS ⊢
      clear hW5
      have HR5 : Hid (Sr w N B o A b a p sb nb k (kA p.F p.n ++ kH p.g 0) W5) := by simp only [kH, List.append_nil]; exact HR
      clear HR
      go_wp2_with fail
      refine CS.mono ?_; rintro e W6 ⟨rfl, rfl⟩
      clear CS
      go_wp2_with fail
      go_loopw [39] (fun iw wr => ∃ i : Nat, iw = .int .i64 (i : Nat) ∧ i ≤ p.z ∧ Hid (Sr w N B o A b a p sb nb k (kA p.F p.n ++ kH p.g i) wr)) (fun iw _ => p.z - (intOf iw).toNat)
      case atStart => exact ⟨0, rfl, Nat.zero_le _, HR5⟩
      case round =>
        obtain ⟨i, rfl, hi2, HR⟩ := hrel
        clear HR5 c1
        have c1 := HR.out.2.1.c1
        unfold pp at c1
        by_cases hlt : i < p.z
        · have hlt' : (i : Int) < (p.z : Int) := by omega
          have CA := at_in i wr HR.out.2.1.pt hlt
          unfold pp at CA
          have ek : kA p.F p.n ++ kH p.g (i + 1) = kA p.F p.n ++ kH p.g i ++ (if (p.g.X i).1 = 0 then [] else [p.g.K i]) := by rw [kH, List.append_assoc]
          have hlen : (kA p.F p.n ++ kH p.g i).length ≤ 131072 := by
            have h1 := kA_len p.F p.n
            have h2 := kH_len p.g i
            rw [List.length_append]; omega
          go_wp2_with fail
          refine CA.mono ?_; rintro e W7 ⟨rfl, hb7⟩
          have HR7 : Hid (Sr w N B o A b a p sb nb k (kA p.F p.n ++ kH p.g i) (W7.alloc (.cells #[.int .i64 (p.g.K i).1, .int .i64 (p.g.K i).2.1, .string (p.g.K i).2.2, .int .i64 (p.g.X i).1, .int .i64 (p.g.X i).2.1, .string (p.g.X i).2.2, .int .i64 (link (pl p.z) p.g i)] 98))) := (HR.out.below hb7).below (b1 _ _)
          clear HR hb7 CA
          generalize link (pl p.z) p.g i = lk at *
          generalize p.g.K i = ky at *
          generalize p.g.X i = x at *
          by_cases hx : x.1 = 0
          · rw [if_pos hx, List.append_nil] at ek
            have HEk : Hid (kA p.F p.n ++ kH p.g (i + 1) = kA p.F p.n ++ kH p.g i) := ek
            have hxb : (x.1 != 0) = false := by simp [hx]
            clear ek hx
            go_wp2_with fail
            go_round
            case rel => exact ⟨i + 1, by go_num, by omega, by rw [HEk.out]; exact HR7⟩
            case measure => simp [intOf]; omega
          · have hxb : (x.1 != 0) = true := by simp [hx]
            rw [if_neg hx] at ek
            have HEk : Hid (kA p.F p.n ++ kH p.g (i + 1) = kA p.F p.n ++ kH p.g i ++ [ky]) := ek
            clear ek hx
            have CC := count_any (N + 1) _ _ ky HR7.out.1 (by omega)
            unfold vv vl at CC
            go_wp2_with (go_at_fn 62; refine CC.mono ?_; rintro e W8 ⟨rfl, hc4, hb4⟩; have HR8 : Hid (Sr w N B o A b a p sb nb k (kA p.F p.n ++ kH p.g i ++ [ky]) W8) := HR7.out.step hc4 hb4; clear hc4 hb4)
            go_round
            case rel => exact ⟨i + 1, by go_num, by omega, by rw [HEk.out]; exact HR8⟩
            case measure => simp [intOf]; omega
        · obtain rfl : i = p.z := by omega
          have hnlt : ¬ ((p.z : Int) < (p.z : Int)) := by omega
          have HRr : Hid (Sr w N B o A b a p sb nb k (pres p) wr) := HR
          have hlen : (pres p).length ≤ 131072 := by
            have h1 := kA_len p.F p.n
            have h2 := kH_len p.g p.z
            unfold pres
            rw [List.length_append]; omega
          have b0 := HR.out.2.2.1.c0
          have b1' := HR.out.2.2.1.c1
          have b2' := HR.out.2.2.1.c2
          have CC := count_any (N + 1) _ _ k HRr.out.1 (by omega)
          unfold vv vl at CC
          clear HR
          have HF : Hid (C.Fit (ints (pres p ++ [k]))) := ints_fit hk
          have HLn : Hid ((ints (pres p ++ [k])).length ≤ 200000) := by
            show _ ≤ _
            have h1 := ints_len (pres p ++ [k])
            rw [List.length_append] at h1
            simp only [List.length_singleton] at h1
            omega
          generalize hpl : pres p ++ [k] = pl at *
          have HPL : Hid (pres p ++ [k] = pl) := hpl
          clear hpl hk hlen
          go_wp2_with (first
            | (go_at_fn 62
               refine CC.mono ?_
               rintro e W9 ⟨rfl, hc9, hb9⟩
               have HR9 : Hid (Sr w N B o A b a p sb nb k pl W9) := HRr.out.step hc9 hb9
               obtain ⟨vi, y1, y2⟩ := hc9.ci
               have y3 := hc9.co
               have CZ := C.sizes_any _ (oth pl : Nat) vi W9 (C.ints_own y2) HF.out (by have := HLn.out; omega)
               clear hc9 hb9 y2)
            | (go_at_call 65
               refine CZ.mono ?_
               rintro e W10 ⟨rfl, hb10⟩
               have HR10 : Hid (Below N w W10) := HR9.out.2.2.2.1.trans (hb10.mono (by have := HR9.out.1.lt; omega))
               clear hb10))
          refine bodyPost_ret (v := .tuple #[.int .i64 (C.szA (ints pl) (oth pl : Nat)), .int .i64 (C.szH (ints pl) (oth pl : Nat)), .int .i64 (C.szE (ints pl) (oth pl : Nat))]) (by simp [results, Tryz.results38, go_sem]) rfl ⟨by rw [HPL.out], HR10.out⟩
end Go.Proofs.YtcaaaoehipcloaaGreat

/- The walk of fill: the slots are copied, then what is present is set. -/
namespace Go.Proofs.YtcaaaoehipcloaaGreat
open Go.RowKit

theorem run_copy3 {P : Program} (w : World) (dT sT ty elem : TypeId) (g dLen dCap : Nat) (a : Addr) (sLen sCap : Nat) (cur : Array Value) (t : TypeId) (cs : List Value)
    (hu : P.underlying dT = some (.slice elem)) (hs : (P.info? elem).map (·.size) = some 3)
    (hg : w.heap[g]? = some (.cells cur t (0, 0))) (hn : cs.length = Nat.min sLen dLen * 3)
    (hsrc : ∀ j v, cs[j]? = some v → w.cell? (a.add j) = some v) (hfit : cs.length ≤ cur.size) (h1 : ∀ v ∈ cs, v.oneCell' = true) :
    (Builtin.copy_ #[dT, sT] ty #[.slice (some ⟨g, 0, none⟩) dLen dCap, .slice (some a) sLen sCap]).run P w = .ok (goInt (Nat.min sLen dLen : Nat)) (w.setRow g (cs ++ cur.toList.drop cs.length).toArray) := by
  have hl := run_loadCells_list (P := P) w a cs hsrc
  have hst := run_storeCells_at P g 0 t cs 0 cur w hg (by simpa using hfit) h1
  simp only [Nat.add_zero, Nat.zero_add, List.take_zero, List.nil_append] at hst
  cases hq : P.info? elem with
  | none => simp [hq] at hs
  | some i =>
    have hi : i.size = 3 := by simpa [hq] using hs
    rw [hn] at hl
    simp [Builtin.copy_, run_underlying hu, Builtin.lenOf, Builtin.firstCells, sizeOf, typeInfo, hq, hi, hl, hst]

/-- The slots of a new row behind the copy of an old one. -/
theorem copy_vals {w : World} {Ab Ao n m : Nat} {F : Nat → V} (ty : TypeId) (hA : w.heap[Ab]? = some (.cells (zeros3 n) 34)) (hF : Rv w Ao m F) :
    ∃ w', (Builtin.copy_ #[22, 22] ty #[.slice (some ⟨Ab, 0, none⟩) n n, .slice (some ⟨Ao, 0, none⟩) m m]).run Tryz.prog w = .ok (.int .i64 ((min n m : Nat) : Int)) w' ∧
      Rv w' Ab n (fun i => if i < min n m then F i else nil) ∧ (∀ j, w'.frozen? ⟨Ab, j, none⟩ = false) ∧ Keep (fun x => x ≠ Ab) w w' := by
  have hlen : (cellsV F (min n m)).length = Nat.min m n * 3 := by rw [cellsV_len]; show _ = min m n * 3; rw [Nat.min_comm]
  have hsz : (zeros3 n).size = n * 3 := by simp [zeros3, madeCells]
  have hr := run_copy3 (P := Tryz.prog) w 22 22 ty 34 Ab n n ⟨Ao, 0, none⟩ m m (zeros3 n) 34 (cellsV F (min n m)) Tryz.underlying22 (by kernel_rfl) hA hlen (fun j v hj => ?_) (by rw [cellsV_len, hsz]; have := Nat.min_le_left n m; omega) (cellsV_one F _)
  · rw [show Nat.min m n = min n m from Nat.min_comm _ _] at hr
    refine ⟨w.setRow Ab (cellsV F (min n m) ++ (zeros3 n).toList.drop (cellsV F (min n m)).length).toArray, hr, ⟨fun i hi j hj => ?_⟩, fun j => ?_, ⟨rfl, rfl, rfl, by simp [World.setRow], fun g _ hg => setRow_other _ _ _ _ hg⟩⟩
    · rw [cell_of_row (setRow_heap w Ab _ _ _ _ hA)]
      simp only [List.getElem?_toArray]
      by_cases q : i < min n m
      · rw [if_pos q, List.getElem?_append_left (by rw [cellsV_len]; omega), cellsV_at _ _ _ (by omega)]
        rw [show (i * 3 + j) / 3 = i by omega, show (i * 3 + j) % 3 = j by omega]
      · rw [if_neg q, List.getElem?_append_right (by rw [cellsV_len]; omega), List.getElem?_drop, cellsV_len]
        have e : min n m * 3 + (i * 3 + j - min n m * 3) = i * 3 + j := by omega
        rw [e]
        have h0 := (zeros_rv hA).c i hi j hj
        rw [cell_of_row hA] at h0
        simpa using h0
    · exact H.free_row (setRow_heap w Ab _ _ _ _ hA) j
  · have hj2 : j < min n m * 3 := by have := (List.getElem?_eq_some_iff.1 hj).1; rwa [cellsV_len] at this
    rw [cellsV_at _ _ _ hj2] at hj
    injection hj with hj
    have hadd : (⟨Ao, 0, none⟩ : Addr).add j = ⟨Ao, j, none⟩ := by unfold Addr.add; split <;> simp_all
    rw [hadd, ← hj]
    have := hF.c (j / 3) (by have := Nat.min_le_right n m; omega) (j % 3) (by omega)
    rwa [show j / 3 * 3 + j % 3 = j by omega] at this
theorem wp_copy_run {P : Program} (w : World) {o : Oper} {a : Act} {K : Act → World → Prop} {Q : Exit → Act → World → Prop} (d s : Operand) (t t' : TypeId)
    (ho : o.op = .call { callee := .builtin .copy, args := #[d, s], argTypes := #[t, t'] }) (v u : Value) (hd : a.eval d = v) (hs : a.eval s = u) {v' : Value} {w' : World}
    (hr : (Builtin.copy_ #[t, t'] o.type #[v, u]).run P w = .ok v' w') (h : K (a.put o.dst v') w') : o.wp P a w K Q := by
  unfold Oper.wp execOp
  simp only [ho, resolve, invoke, builtin, Sem.run_bind, Sem.run_pure, Result.andThen_ok, List.map_toArray, List.map_cons, List.map_nil, hd, hs, hr]
  exact h
theorem wpList_copy_run {P : Program} (w : World) {ops : Array Oper} {rest : List Oper} {o : Oper} {a : Act} {Q : Exit → Act → World → Prop} (hgd : o.guard = none) (d s : Operand) (t t' : TypeId)
    (ho : o.op = .call { callee := .builtin .copy, args := #[d, s], argTypes := #[t, t'] }) (v u : Value) (hd : a.eval d = v) (hs : a.eval s = u) {v' : Value} {w' : World}
    (hr : (Builtin.copy_ #[t, t'] o.type #[v, u]).run P w = .ok v' w') (h : wpList P ops Q rest (a.put o.dst v') w') : wpList P ops Q (o :: rest) a w :=
  wpList_plain hgd fun _ hK => wp_copy_run w d s t t' ho v u hd hs hr (hK _ _ h)
end Go.Proofs.YtcaaaoehipcloaaGreat
