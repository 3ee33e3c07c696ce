/- The pure part of a table: what is cleared; how great it becomes; when a Set has no error. -/
import Derived.Test.YthlgeohncpmaaabCg19
import Derived.Test.YthlgeohncpmaaabCg18
import Derived.RangeFuncNested
import Derived.RangeFuncBound
import Derived.RangeFuncCalls
import Derived.RangeFuncLeaves
import Derived.RangeFuncFrom
import Derived.Shelf.Abstract
import Derived.Shelf.RegionOpen
import Derived.WalkKit
import Derived.OwnWalkIn
import Derived.TacticsInMore
import Derived.LoopNIn
import Derived.LoopIn
import Derived.Test.YthlgeohncpmaaabCg06
import Derived.Test.YthlgeohncpmaaabCg17
import Derived.Test.YthlgeohncpmaaabCg11
namespace Go.Proofs.Ythlgeohncpmaaab
open Go.RowKit

theorem nil_of {v : V} (h : fm v = true) (h0 : v.1 = 0) : v = nil := by
  obtain ⟨k, n, s⟩ := v
  simp only at h0
  subst h0
  have h1 : inF 0 n s = true := h
  unfold inF at h1
  simp only [if_true, Bool.and_eq_true, decide_eq_true_eq, List.isEmpty_iff] at h1
  obtain ⟨rfl, h2⟩ := h1
  have : s = ⟨#[]⟩ := bytes_iff.1 (by rw [h2]; simp [ByteArray.toList_eq])
  rw [this]; rfl
/-- The first m places are cleared. -/
def clrP (p : Pa) (m : Nat) : Pa := { p with F := fun j => if j < m ∧ j < p.n then nil else p.F j, g := { p.g with X := fun j => if p.n + j < m then nil else p.g.X j } }
theorem clr_0 (p : Pa) : clrP p 0 = p := by
  unfold clrP
  have h1 : (fun j => if j < 0 ∧ j < p.n then nil else p.F j) = p.F := by funext j; rw [if_neg (by omega)]
  have h2 : (fun j => if p.n + j < 0 then nil else p.g.X j) = p.g.X := by funext j; rw [if_neg (by omega)]
  rw [h1, h2]
theorem clr_nz (p : Pa) (m : Nat) : (clrP p m).n = p.n ∧ (clrP p m).z = p.z ∧ (clrP p m).g.f = p.g.f := ⟨rfl, rfl, rfl⟩
theorem clr_pair (p : Pa) (m : Nat) : pairK (clrP p m) m = pairK p m ∧ pairX (clrP p m) m = pairX p m := by
  unfold pairK pairX
  refine ⟨rfl, ?_⟩
  show (if m < p.n then (if m < m ∧ m < p.n then nil else p.F m) else (if p.n + (m - p.n) < m then nil else p.g.X (m - p.n))) = _
  by_cases h : m < p.n
  · rw [if_pos h, if_pos h, if_neg (by omega)]
  · rw [if_neg h, if_neg h, if_neg (by omega)]
theorem clr_skip {p : Pa} (h : TI p) {m : Nat} (hm : m < p.n + p.z) (hv : (pairX p m).1 = 0) : clrP p (m + 1) = clrP p m := by
  unfold pairX at hv
  have h1 : (fun j => if j < m + 1 ∧ j < p.n then nil else p.F j) = fun j => if j < m ∧ j < p.n then nil else p.F j := by
    funext j
    by_cases e : j = m
    · subst e
      by_cases hj : j < p.n
      · rw [if_pos hj] at hv
        rw [if_pos ⟨by omega, hj⟩, if_neg (by omega)]
        exact (nil_of (h.fv j hj) hv).symm
      · rw [if_neg (by omega), if_neg (by omega)]
    · by_cases q : j < m ∧ j < p.n
      · rw [if_pos q, if_pos ⟨by omega, q.2⟩]
      · rw [if_neg q, if_neg (by omega)]
  have h2 : (fun j => if p.n + j < m + 1 then nil else p.g.X j) = fun j => if p.n + j < m then nil else p.g.X j := by
    funext j
    by_cases e : p.n + j = m
    · subst e
      rw [if_neg (by omega), show p.n + j - p.n = j by omega] at hv
      rw [if_pos (by omega), if_neg (by omega)]
      exact (nil_of (h.xv j (by omega)) hv).symm
    · by_cases q : p.n + j < m
      · rw [if_pos q, if_pos (by omega)]
      · rw [if_neg q, if_neg (by omega)]
  unfold clrP
  rw [h1, h2]
theorem clr_A {p : Pa} {m : Nat} (hm : m < p.n) : clrP p (m + 1) = { clrP p m with F := upd (clrP p m).F m nil } := by
  have h1 : (fun j => if j < m + 1 ∧ j < p.n then nil else p.F j) = upd (fun j => if j < m ∧ j < p.n then nil else p.F j) m nil := by
    funext j
    show _ = if j = m then nil else (if j < m ∧ j < p.n then nil else p.F j)
    by_cases e : j = m
    · subst e; rw [if_pos ⟨by omega, hm⟩, if_pos rfl]
    · rw [if_neg e]
      by_cases q : j < m ∧ j < p.n
      · rw [if_pos q, if_pos ⟨by omega, q.2⟩]
      · rw [if_neg q, if_neg (by omega)]
  have h2 : (fun j => if p.n + j < m + 1 then nil else p.g.X j) = fun j => if p.n + j < m then nil else p.g.X j := by
    funext j; rw [if_neg (by omega), if_neg (by omega)]
  show ({ p with F := fun j => if j < m + 1 ∧ j < p.n then nil else p.F j, g := { p.g with X := fun j => if p.n + j < m + 1 then nil else p.g.X j } } : Pa) = { p with F := upd (fun j => if j < m ∧ j < p.n then nil else p.F j) m nil, g := { p.g with X := fun j => if p.n + j < m then nil else p.g.X j } }
  rw [h1, h2]
theorem clr_H {p : Pa} {i : Nat} : clrP p (p.n + i + 1) = { clrP p (p.n + i) with g := setX (clrP p (p.n + i)).g i nil } := by
  have h1 : (fun j => if j < p.n + i + 1 ∧ j < p.n then nil else p.F j) = fun j => if j < p.n + i ∧ j < p.n then nil else p.F j := by
    funext j
    by_cases q : j < p.n
    · rw [if_pos ⟨by omega, q⟩, if_pos ⟨by omega, q⟩]
    · rw [if_neg (by omega), if_neg (by omega)]
  have h2 : (fun j => if p.n + j < p.n + i + 1 then nil else p.g.X j) = upd (fun j => if p.n + j < p.n + i then nil else p.g.X j) i nil := by
    funext j
    show _ = if j = i then nil else (if p.n + j < p.n + i then nil else p.g.X j)
    by_cases e : j = i
    · subst e; rw [if_pos (by omega), if_pos rfl]
    · rw [if_neg e]
      by_cases q : p.n + j < p.n + i
      · rw [if_pos q, if_pos (by omega)]
      · rw [if_neg q, if_neg (by omega)]
  show ({ p with F := fun j => if j < p.n + i + 1 ∧ j < p.n then nil else p.F j, g := { p.g with X := fun j => if p.n + j < p.n + i + 1 then nil else p.g.X j } } : Pa) = { p with F := fun j => if j < p.n + i ∧ j < p.n then nil else p.F j, g := { p.g with X := upd (fun j => if p.n + j < p.n + i then nil else p.g.X j) i nil } }
  rw [h1, h2]
/-- What is there is cleared. -/
theorem clr_set {p : Pa} (h : TI p) {m : Nat} (hm : m < p.n + p.z) (hv : (pairX p m).1 ≠ 0) (t : TS) (s : H.St) (ht : t.p = clrP p m) :
    Rng (pairK p m) ∧ ∃ r, tset t s (pairK p m) nil = ({ t with p := clrP p (m + 1), pr := r }, s, 0) := by
  unfold pairX at hv
  unfold pairK
  by_cases hq : m < p.n
  · rw [if_pos hq] at hv ⊢
    have hle := h.le
    have hr : Rng (kn ((m : Int) + 1)) := by constructor <;> simp <;> omega
    refine ⟨hr, ?_⟩
    have hA : inA t.p.n (kn ((m : Int) + 1)) := by rw [ht]; exact ⟨rfl, rfl, by show 1 ≤ (m : Int) + 1; omega, by show (m : Int) + 1 ≤ (p.n : Int); omega⟩
    have hix : ix (kn ((m : Int) + 1)) = m := by show ((m : Int) + 1).toNat - 1 = m; omega
    have hp : pset t.p (kn ((m : Int) + 1)) nil = (clrP p (m + 1), 0, 0) := by
      unfold pset
      rw [if_pos hA, hix, clr_A hq, ht]
    have hf : fm (kn ((m : Int) + 1)) = true := by unfold fm inF; simp [ByteArray.toList_eq]
    refine ⟨t.pr + (0 : Nat), ?_⟩
    unfold tset one
    rw [if_neg (fun q => q ⟨hf, fm_nil⟩), if_neg (show ¬ (kn ((m : Int) + 1)).1 = 0 from (by show ¬ (2 : Int) = 0; omega)), hp, if_pos (fun e : (0 : Int) = 12 => absurd e (by decide))]
  · rw [if_neg hq] at hv ⊢
    obtain ⟨i, rfl⟩ : ∃ i, m = p.n + i := ⟨m - p.n, by omega⟩
    rw [show p.n + i - p.n = i by omega] at hv ⊢
    have hi : i < p.z := by omega
    have hK : p.g.K i ≠ nil := fun e => hv (by rw [h.inv.val i hi e]; rfl)
    have hk : KOK (p.g.K i) := (h.inv.key i hi).resolve_left hK
    have hz0 : p.z ≠ 0 := by omega
    have hpw := h.rt.resolve_left hz0
    obtain ⟨pq, _, _, _, hfind⟩ := h.inv.find_held (fun k _ => pl_lt hpw k) hi hK
    have hA : ¬ inA t.p.n (p.g.K i) := by rw [ht]; exact h.out i hi
    have hput : ∃ n', put p.z (clrP p (p.n + i)).g (p.g.K i) nil = (setX (clrP p (p.n + i)).g i nil, n', 0) := by
      refine ⟨pq.length + 1, ?_⟩
      unfold put
      rw [if_pos ⟨hk.1, fm_nil⟩, if_neg hk.2.1, if_neg hz0]
      have e : find (pl p.z) (clrP p (p.n + i)).g (p.g.K i) = find (pl p.z) p.g (p.g.K i) := rfl
      rw [e, hfind]
    obtain ⟨n', hput⟩ := hput
    have hp : pset t.p (p.g.K i) nil = (clrP p (p.n + i + 1), n', 0) := by
      unfold pset
      rw [if_neg hA, ht]
      show ({ clrP p (p.n + i) with g := (put p.z (clrP p (p.n + i)).g (p.g.K i) nil).1 }, (put p.z (clrP p (p.n + i)).g (p.g.K i) nil).2.1, (put p.z (clrP p (p.n + i)).g (p.g.K i) nil).2.2) = _
      rw [hput, clr_H]
    refine ⟨hk.2.2, t.pr + n', ?_⟩
    unfold tset one
    rw [if_neg (fun q => q ⟨hk.1, fm_nil⟩), if_neg hk.2.1, hp, if_pos (fun e : (0 : Int) = 12 => absurd e (by decide))]
theorem clr_pres (p : Pa) : pres (clrP p (p.n + p.z)) = [] := by
  have h1 : ∀ m, m ≤ p.n → kA (clrP p (p.n + p.z)).F m = [] := fun m => by
    induction m with
    | zero => intro _; rfl
    | succ m ih =>
      intro hm
      rw [kA, ih (by omega)]
      show [] ++ (if (if m < p.n + p.z ∧ m < p.n then nil else p.F m).1 = 0 then [] else _) = []
      rw [if_pos (show m < p.n + p.z ∧ m < p.n from ⟨by omega, by omega⟩), if_pos (show (nil : V).1 = 0 from rfl)]; rfl
  have h2 : ∀ m, m ≤ p.z → kH (clrP p (p.n + p.z)).g m = [] := fun m => by
    induction m with
    | zero => intro _; rfl
    | succ m ih =>
      intro hm
      rw [kH, ih (by omega)]
      show [] ++ (if (if p.n + m < p.n + p.z then nil else p.g.X m).1 = 0 then [] else _) = []
      rw [if_pos (show p.n + m < p.n + p.z by omega), if_pos (show (nil : V).1 = 0 from rfl)]; rfl
  unfold pres
  rw [show (clrP p (p.n + p.z)).n = p.n from rfl, show (clrP p (p.n + p.z)).z = p.z from rfl, h1 _ (Nat.le_refl _), h2 _ (Nat.le_refl _)]
  rfl

/-- A list without repeats is no longer than one that holds all of it. -/
theorem nd_len {α : Type} : ∀ {l l' : List α}, l.Nodup → (∀ x, x ∈ l → x ∈ l') → l.length ≤ l'.length
  | [], _, _, _ => Nat.zero_le _
  | a :: l, l', hn, hs => by
    obtain ⟨s, t, rfl⟩ := List.append_of_mem (hs a (by simp))
    have h := nd_len (l := l) (l' := s ++ t) (List.nodup_cons.1 hn).2 (fun x hx => by
      have := hs x (by simp [hx])
      have hne : x ≠ a := fun e => (List.nodup_cons.1 hn).1 (e ▸ hx)
      simp only [List.mem_append, List.mem_cons] at this ⊢
      rcases this with q | q | q
      · exact .inl q
      · exact absurd q hne
      · exact .inr q)
    simp only [List.length_append, List.length_cons] at h ⊢
    omega
theorem Fits.bound {l : List V} {A Z : Nat} (h : Fits l A Z) (hl : l.length ≤ 65536) : A ≤ 2 * l.length ∧ Z ≤ 2 * l.length := by
  have hi := ints_len l
  have hw : C.wi (ints l) A ≤ (ints l).length := by
    unfold C.wi
    have := List.countP_le_length (p := fun x => decide (1 ≤ x ∧ x ≤ (A : Int))) (l := ints l)
    omega
  have ho : outK A l ≤ l.length := List.countP_le_length
  constructor
  · by_cases h0 : A = 0
    · omega
    · have := h.dense.half (by omega); omega
  · have hu := h.up
    rcases C.up2_facts (outK A l : Nat) (by omega) (by omega) with ⟨q1, q2⟩ | ⟨q1, q2, q3, _⟩
    · rw [q2] at hu; omega
    · omega
theorem rs_ok {p : Pa} {k : V} (h : ∀ k', k' ∈ pres p ++ [k] → KOK k') (hn : (pres p ++ [k]).Nodup) (hl : (pres p ++ [k]).length ≤ 7000) : rsE p k = 0 ∧ rsA p k ≤ 14000 ∧ rsZ p k ≤ 14000 := by
  rcases cens h hn with q | ⟨q1, q2, _⟩
  · exfalso
    have hi := ints_len (pres p ++ [k])
    have hd := (C.dense_of (ints (pres p ++ [k])) (ints_fit h)).n
    unfold rsE at q
    have hw : 0 ≤ C.chN (C.cntL (ints (pres p ++ [k]))) 17 := by rw [← hd]; unfold C.wi; omega
    rcases C.szE_cases (ints (pres p ++ [k])) (oth (pres p ++ [k]) : Nat) with ⟨e, _⟩ | e
    · rw [e] at q; cases q
    · unfold C.szE C.rest at q
      split at q
      · cases q
      · split at q
        · cases q
        · split at q
          · rename_i h1; omega
          · cases q
  · have := q2.bound (by omega)
    exact ⟨q1, by omega, by omega⟩
/-- A rehash that is due has no error but the heap's. -/
theorem due_zero {t : TS} {s : H.St} {k v : V} (h : TI t.p) (hr : Rng k) (hd : Due t.p k v) (hR : (reh (one t k v) s k).2.2 = 0) : (tset t s k v).2.2 = 0 := by
  obtain ⟨d4, d5, hk0, he⟩ := (due_iff h hr).1 hd
  have hk : KOK k := ⟨d4, hk0, hr.1, hr.2⟩
  have e : (tset t s k v).2.2 = (pset (reh (one t k v) s k).1.p k v).2.2 := by
    unfold tset
    rw [if_neg (fun q => q ⟨d4, d5⟩), if_neg hk0, if_neg (fun q => q he), if_neg (fun q => q hR)]
  rw [e]
  obtain ⟨hA, hv, hv0, hnew, _, _, _, ha⟩ := h.full hk he
  have h1 : TI (one t k v).p := h.set hr hv
  have hA1 : ¬ inA (one t k v).p.n k := by show ¬ inA (pset t.p k v).1.n k; rw [(pset_nz t.p k v).1]; exact hA
  have ep : pset t.p k v = ({ t.p with g := (put t.p.z t.p.g k v).1 }, (put t.p.z t.p.g k v).2.1, (put t.p.z t.p.g k v).2.2) := by unfold pset; rw [if_neg hA]
  have hnew1 : ∀ i, i < (one t k v).p.z → (one t k v).p.g.K i ≠ k := fun i hi e => by
    have hi2 : i < t.p.z := by rw [← (pset_nz t.p k v).2]; exact hi
    have he' : (put t.p.z t.p.g k v).2.2 = 12 := by rw [ep] at he; exact he
    have e2 := (put_12 h.inv h.rt hk he').2.2.2.2.1
    have e3 : (pset t.p k v).1.g.K i = k := e
    rw [ep] at e3
    have e4 : (put t.p.z t.p.g k v).1.K i = k := e3
    rw [e2] at e4
    exact hnew i hi2 e4
  have e0 : rsE (one t k v).p k = 0 := by
    unfold reh at hR
    by_cases q : rsE (one t k v).p k = 0
    · exact q
    · rw [if_pos q] at hR; exact absurd hR q
  have e1 : (reh (one t k v) s k).1.p = fill (one t k v).p (fresh (rsA (one t k v).p k) (rsZ (one t k v).p k)) := by
    unfold reh at hR ⊢
    rw [if_neg (fun q => q e0)] at hR ⊢
    by_cases q : tpE s (rsA (one t k v).p k) (rsZ (one t k v).p k) = 0
    · rw [if_neg (fun x => x q)]
    · rw [if_pos q] at hR; exact absurd hR q
  rw [e1]
  exact (h1.behind hk hv hv0 hA1 hnew1 ha e0).2.2.2.2.2
theorem take0 {s : H.St} {n : Int} (h0 : 0 ≤ n) (h1 : n ≤ s.lim - s.live) : H.takeE s n = 0 := by
  unfold H.takeE; rw [if_neg (by omega), if_neg (by omega)]
/-- A small table on a great heap: a rehash that is due has no error. -/
theorem due_ok {t : TS} {s : H.St} {k v : V} (h : TI t.p) (hr : Rng k) (hd : Due t.p k v) (tb : TB t s 4) (iv : H.Inv 0 s) (hl : s.lim = 400000) (hn : t.p.n ≤ 2048) (hz : t.p.z ≤ 4096) : (tset t s k v).2.2 = 0 := by
  obtain ⟨d4, d5, hk0, he⟩ := (due_iff h hr).1 hd
  have hk : KOK k := ⟨d4, hk0, hr.1, hr.2⟩
  obtain ⟨_, _, _, _, _, _, hpp, ha⟩ := h.full hk he
  refine due_zero h hr hd ?_
  have hlen : (pres (one t k v).p ++ [k]).length ≤ 7000 := by
    have h1 := kA_len t.p.F t.p.n
    have h2 := kH_len t.p.g t.p.z
    have e : pres (one t k v).p = pres t.p := hpp
    rw [e, List.length_append]
    unfold pres
    rw [List.length_append]
    simp only [List.length_singleton]
    omega
  obtain ⟨r1, r2, r3⟩ := rs_ok (p := (one t k v).p) ha.ok ha.nd hlen
  have hlv := tb.live
  have t1 : H.takeE s (rsA (one t k v).p k : Nat) = 0 := take0 (by omega) (by omega)
  obtain ⟨_, a2, a3, _⟩ := blk_take iv t1
  have t2 : H.takeE (H.takeSt s (rsA (one t k v).p k : Nat)) (3 * (rsZ (one t k v).p k : Nat)) = 0 := take0 (by omega) (by omega)
  have t3 : tpE s (rsA (one t k v).p k : Nat) (rsZ (one t k v).p k : Nat) = 0 := by unfold tpE; rw [if_neg (fun q => q t1)]; exact t2
  unfold reh
  rw [if_neg (fun q => q r1), if_neg (fun q => q t3)]
/-- Where a node is free a Set has no error. -/
theorem set_room {t : TS} {s : H.St} {k v : V} (h : TI t.p) (hr : Rng k) (hk : fm k = true) (hv : fm v = true) (hk0 : k.1 ≠ 0) (hno : ¬ ∀ i, i < t.p.z → t.p.g.K i ≠ nil) : tset t s k v = (one t k v, s, 0) := by
  have hkk : KOK k := ⟨hk, hk0, hr.1, hr.2⟩
  have h12 : (pset t.p k v).2.2 ≠ 12 := fun e => hno (h.full hkk e).2.2.2.2.1
  have h0 : (pset t.p k v).2.2 = 0 := by
    unfold pset at h12 ⊢
    by_cases hA : inA t.p.n k
    · rw [if_pos hA]
    · rw [if_neg hA] at h12 ⊢
      show (put t.p.z t.p.g k v).2.2 = 0
      have h12' : (put t.p.z t.p.g k v).2.2 ≠ 12 := h12
      unfold put at h12' ⊢
      rw [if_pos ⟨hk, hv⟩, if_neg hk0] at h12' ⊢
      by_cases hz0 : t.p.z = 0
      · rw [if_pos hz0] at h12' ⊢
        by_cases hv0 : v.1 = 0
        · show (if v.1 = 0 then (0 : Int) else 12) = 0; rw [if_pos hv0]
        · exact absurd (by show (if v.1 = 0 then (0 : Int) else 12) = 12; rw [if_neg hv0]) h12'
      · rw [if_neg hz0] at h12' ⊢
        cases hf : find (pl t.p.z) t.p.g k with
        | mk o n =>
          rw [hf] at h12'
          cases o with
          | some i => rfl
          | none =>
            simp only at h12' ⊢
            by_cases hv0 : v.1 = 0
            · rw [if_pos hv0]
            · rw [if_neg hv0] at h12' ⊢
              have h12'' : full (ins (pl t.p.z) t.p.g k v).2 ≠ 12 := h12'
              show full (ins (pl t.p.z) t.p.g k v).2 = 0
              cases hb : (ins (pl t.p.z) t.p.g k v).2 with
              | true => rfl
              | false => rw [hb] at h12''; exact absurd rfl h12''
  unfold tset
  rw [if_neg (fun q => q ⟨hk, hv⟩), if_neg hk0, if_pos h12, h0]
/-- A table stays small: at most k keys are present. -/
structure Sm (t : TS) (k : Nat) : Prop where
  n : t.p.n ≤ 2048
  z : t.p.z ≤ 4096
  pr : (pres t.p).length ≤ k
theorem Sm.set {t : TS} {s : H.St} {m : Nat} {k v : V} (h : Sm t m) (hm : m ≤ 500) (ti : TI t.p) (hr : Rng k) (ti' : TI (tset t s k v).1.p) : Sm (tset t s k v).1 (m + 1) := by
  have hp : (pres (tset t s k v).1.p).length ≤ m + 1 := by
    have h1 : (pres (tset t s k v).1.p).length ≤ (k :: pres t.p).length := nd_len ti'.pres_nd (fun k' hk' => by
      obtain ⟨q1, q2⟩ := ti'.mem_pres.1 hk'
      by_cases e : k' = k
      · simp [e]
      · refine List.mem_cons_of_mem _ (ti.mem_pres.2 ⟨q1, ?_⟩)
        obtain ⟨m1, m2⟩ := tset_map (s := s) (k := k) (v := v) ti hr
        by_cases q : (tset t s k v).2.2 = 0
        · rw [(m1 q).2.2.2 k' q1 e] at q2; exact q2
        · rw [m2 q k'] at q2; exact q2)
    have := h.pr
    simp only [List.length_cons] at h1
    omega
  by_cases hd : Due t.p k v ∧ (tset t s k v).2.2 = 0
  · have hf := (set_due ti hr hd.1 hd.2 ti').1
    have := hf.bound (by omega)
    exact ⟨by omega, by omega, hp⟩
  · obtain ⟨e1, e2⟩ := set_same (s := s) ti hr hd
    exact ⟨by rw [e1]; exact h.n, by rw [e2]; exact h.z, hp⟩
end Go.Proofs.Ythlgeohncpmaaab

/- The pure part of the walk: places, the next pair, the list of all pairs. -/
namespace Go.Proofs.Ythlgeohncpmaaab
open Go.RowKit

/-- The first pair from a place on, and all of them. -/
def nxF (p : Pa) : Nat → Nat → V × V
  | 0, _ => (nil, nil)
  | f + 1, i => if (prO p i).2.1 ≠ 0 then prO p i else nxF p f (i + 1)
def lsF (p : Pa) : Nat → Nat → List (V × V)
  | 0, _ => []
  | f + 1, i => if (prO p i).2.1 ≠ 0 then prO p i :: lsF p f (i + 1) else lsF p f (i + 1)
def pnx (p : Pa) (i : Nat) : V × V := nxF p (p.n + p.z - i) (i + 1)
def wl (p : Pa) : List (V × V) := lsF p (p.n + p.z) 1
/-- What Next answers. -/
def wnx (p : Pa) (k : V) : V × V × Int :=
  if fm k = false then (nil, nil, 2) else if k.1 = 0 then ((pnx p 0).1, (pnx p 0).2, 0)
  else if plc p k = 0 then (nil, nil, 9) else ((pnx p (plc p k).toNat).1, (pnx p (plc p k).toNat).2, 0)
theorem lsF_nil {p : Pa} : ∀ {f i : Nat}, lsF p f i = [] → nxF p f i = (nil, nil)
  | 0, _, _ => rfl
  | f + 1, i, h => by
    rw [lsF] at h
    rw [nxF]
    split at h
    · cases h
    · rename_i q; rw [if_neg q]; exact lsF_nil h
theorem lsF_cons {p : Pa} : ∀ {f i : Nat} {x : V × V} {l : List (V × V)}, lsF p f i = x :: l → nxF p f i = x ∧ ∃ j, i ≤ j ∧ j < i + f ∧ x = prO p j ∧ (prO p j).2.1 ≠ 0 ∧ l = lsF p (i + f - (j + 1)) (j + 1)
  | 0, _, _, _, h => by cases h
  | f + 1, i, x, l, h => by
    rw [lsF] at h
    rw [nxF]
    split at h
    · rename_i q
      rw [if_pos q]
      injection h with h1 h2
      refine ⟨h1, i, Nat.le_refl _, by omega, h1.symm, q, ?_⟩
      rw [← h2]; congr 1; omega
    · rename_i q
      rw [if_neg q]
      obtain ⟨a, j, h1, h2, h3, h4, h5⟩ := lsF_cons h
      refine ⟨a, j, by omega, by omega, h3, h4, ?_⟩
      rw [h5]; congr 1; omega
/-- The places of what is listed. -/
def Rise (p : Pa) : Nat → List (V × V) → Prop
  | _, [] => True
  | i, x :: l => ∃ j, i < j ∧ j ≤ p.n + p.z ∧ x = prO p j ∧ (prO p j).2.1 ≠ 0 ∧ pnx p i = x ∧ Rise p j l
theorem lsF_rise {p : Pa} : ∀ (l : List (V × V)) (i : Nat), i ≤ p.n + p.z → lsF p (p.n + p.z - i) (i + 1) = l → Rise p i l
  | [], _, _, _ => trivial
  | x :: l, i, hi, h => by
    obtain ⟨a, j, h1, h2, h3, h4, h5⟩ := lsF_cons h
    refine ⟨j, by omega, by omega, h3, h4, a, lsF_rise l j (by omega) ?_⟩
    rw [h5]; congr 1; omega
theorem wl_rise (p : Pa) : Rise p 0 (wl p) := lsF_rise _ 0 (by omega) rfl
theorem lsF_mem {p : Pa} {x : V × V} : ∀ {f i : Nat}, x ∈ lsF p f i ↔ ∃ j, i ≤ j ∧ j < i + f ∧ (prO p j).2.1 ≠ 0 ∧ x = prO p j
  | 0, i => by simp [lsF]; intro j h1 h2; omega
  | f + 1, i => by
    rw [lsF]
    have ih := lsF_mem (p := p) (x := x) (f := f) (i := i + 1)
    split
    · rename_i q
      rw [List.mem_cons, ih]
      constructor
      · rintro (h | ⟨j, h1, h2, h3, h4⟩)
        · exact ⟨i, by omega, by omega, q, h⟩
        · exact ⟨j, by omega, by omega, h3, h4⟩
      · rintro ⟨j, h1, h2, h3, h4⟩
        by_cases e : j = i
        · subst e; exact .inl h4
        · exact .inr ⟨j, by omega, by omega, h3, h4⟩
    · rename_i q
      rw [ih]
      constructor
      · rintro ⟨j, h1, h2, h3, h4⟩; exact ⟨j, by omega, by omega, h3, h4⟩
      · rintro ⟨j, h1, h2, h3, h4⟩
        by_cases e : j = i
        · subst e; exact absurd h3 q
        · exact ⟨j, by omega, by omega, h3, h4⟩
theorem lsF_len (p : Pa) : ∀ f i, (lsF p f i).length ≤ f
  | 0, _ => by simp [lsF]
  | f + 1, i => by
    have := lsF_len p f (i + 1)
    rw [lsF]; split <;> simp <;> omega
theorem prO_A {p : Pa} {i : Nat} (h0 : 1 ≤ i) (h1 : i ≤ p.n) : prO p i = (kn i, p.F (i - 1)) := by
  unfold prO; rw [if_neg (by omega), if_pos (by omega)]; simp
theorem prO_H {p : Pa} {i : Nat} (h1 : i < p.z) : prO p ((p.n + 1 + i : Nat) : Int) = (p.g.K i, p.g.X i) := by
  unfold prO
  rw [if_neg (by omega), if_neg (by omega), if_pos (by omega)]
  have : ((p.n + 1 + i : Nat) : Int).toNat - p.n - 1 = i := by omega
  rw [this]
theorem plc_node {p : Pa} (h : TI p) {i : Nat} (hi : i < p.z) (hn : p.g.K i ≠ nil) : plc p (p.g.K i) = ((p.n + 1 + i : Nat) : Int) := by
  have hk := (h.inv.key i hi).resolve_left hn
  have hz0 : p.z ≠ 0 := by omega
  obtain ⟨_, _, _, _, hf⟩ := h.inv.find_held (fun k _ => pl_lt (h.rt.resolve_left hz0) k) hi hn
  unfold plc
  rw [if_neg (h.out i hi), fnd_good hz0 hk, hf]
  simp
/-- A pair that is there has its key's place. -/
theorem plc_prO {p : Pa} (h : TI p) {i : Nat} (h0 : 1 ≤ i) (h1 : i ≤ p.n + p.z) (hv : (prO p i).2.1 ≠ 0) : plc p (prO p i).1 = i ∧ fm (prO p i).1 = true ∧ (prO p i).1.1 ≠ 0 ∧ pget p (prO p i).1 = (prO p i).2 ∧ Rng (prO p i).1 := by
  by_cases q : i ≤ p.n
  · rw [prO_A h0 q] at hv ⊢
    obtain ⟨j, rfl⟩ : ∃ j, i = j + 1 := ⟨i - 1, by omega⟩
    have e : ((j + 1 : Nat) : Int) = (j : Int) + 1 := by omega
    rw [e]
    have hA : inA p.n (kn ((j : Int) + 1)) := inA_kn.2 (by omega)
    refine ⟨by unfold plc; rw [if_pos hA], fm_kn _, by simp, ?_, by have := h.le; constructor <;> simp <;> omega⟩
    simpa using h.get_slot (i := j) (by omega)
  · obtain ⟨j, hj, rfl⟩ : ∃ j, j < p.z ∧ i = p.n + 1 + j := ⟨i - p.n - 1, by omega, by omega⟩
    rw [prO_H hj] at hv ⊢
    obtain ⟨hn, hk⟩ := h.live hj hv
    exact ⟨plc_node h hj hn, hk.1, hk.2.1, h.get_node hj hn, ⟨hk.2.2.1, hk.2.2.2⟩⟩
theorem lsF_snoc (p : Pa) : ∀ (k i : Nat), lsF p (k + 1) i = lsF p k i ++ (if (prO p ((i + k : Nat) : Int)).2.1 ≠ 0 then [prO p ((i + k : Nat) : Int)] else [])
  | 0, i => by
    rw [lsF, lsF]
    by_cases q : (prO p ((i : Nat) : Int)).2.1 ≠ 0
    · rw [if_pos q, show i + 0 = i from rfl, if_pos q]; rfl
    · rw [if_neg q, show i + 0 = i from rfl, if_neg q]; rfl
  | k + 1, i => by
    have ih := lsF_snoc p k (i + 1)
    rw [show i + 1 + k = i + (k + 1) by omega] at ih
    rw [lsF, ih]
    conv => rhs; rw [lsF]
    split <;> simp
theorem lsF_pre (p : Pa) (k i : Nat) : ∀ {m : Nat}, k ≤ m → lsF p k i <+: lsF p m i := fun {m} h => by
  induction m with
  | zero => obtain rfl : k = 0 := by omega
            exact List.prefix_refl _
  | succ m ih =>
    by_cases e : k = m + 1
    · rw [e]; exact List.prefix_refl _
    · rw [lsF_snoc]
      exact (ih (by omega)).trans (List.prefix_append _ _)
end Go.Proofs.Ythlgeohncpmaaab

/- The walks of behind and of the iterator that it answers: it tells the pairs behind a place. -/
namespace Go.Proofs.Ythlgeohncpmaaab
open Go.RowKit Go.Shelf
attribute [local go_sem] Oper.semAt_some

theorem behind_any (q : Option Addr) (pl : Int) (w : World) : Calls Try.prog 30 #[.pointer q, .int .i64 pl] w fun e w' => e = .returned (.func (.func 51) #[] #[.pointer (some ⟨w.heap.size, 0, none⟩), .pointer (some ⟨w.heap.size + 1, 0, none⟩)]) ∧ w' = (w.alloc (.cells #[.pointer q] 26)).alloc (.cells #[.int .i64 pl] 3) := by
  go_enter Try.func30, Try.ntmps30
  go_wp2
  go_ret
  exact ⟨by simp, rfl⟩
/-- A pair as the iterator hands it on. -/
def encP (x : V × V) : Array Value := #[.agg #[.int .i64 x.1.1, .int .i64 x.1.2.1, .string x.1.2.2], .agg #[.int .i64 x.2.1, .int .i64 x.2.2.1, .string x.2.2.2]]
theorem grown_of_below {w w' : World} (h : Below w.heap.size w w') : w.grownBy w' none := ⟨h.os, h.tape, h.output, h.size, fun k hk _ => h.block k hk⟩
theorem abides_below {β : Type} {B : Nat} {J : β → World → Prop} (hJ : AbidesFrom B J) {s : β} {w w' : World} (h : J s w) (k : Below w.heap.size w w') : J s w' := hJ s w w' none h (grown_of_below k) (fun r e => by cases e)
/-- What the iterator reads: the table and its two boxes, all among Ks. -/
structure It (w : World) (Ks : Nat → Prop) (Xt Xp T A b a S : Nat) (t : TS) (pl : Nat) : Prop where
  tm : Tm w T A b a S t
  ct : w.cell? ⟨Xt, 0, none⟩ = some (tp T)
  cp : w.cell? ⟨Xp, 0, none⟩ = some (.int .i64 (pl : Nat))
  lt : Ks T ∧ Ks A ∧ Ks b ∧ Ks a ∧ Ks Xt ∧ Ks Xp
theorem It.kept {w w' : World} {Ks : Nat → Prop} {Xt Xp T A b a S : Nat} {t : TS} {pl : Nat} (h : It w Ks Xt Xp T A b a S t pl) (k : Keep Ks w w') : It w' Ks Xt Xp T A b a S t pl := by
  obtain ⟨l1, l2, l3, l4, l5, l6⟩ := h.lt
  exact ⟨h.tm.kept k l1 l2 l3 l4, by rw [World.cell?_of_block (w := w) (k.block Xt (World.block_lt_of_cell? w _ h.ct) l5)]; exact h.ct, by rw [World.cell?_of_block (w := w) (k.block Xp (World.block_lt_of_cell? w _ h.cp) l6)]; exact h.cp, h.lt⟩
set_option maxRecDepth 100000 in
set_option maxHeartbeats 2000000 in
theorem iter_any (Ks : Nat → Prop) (l Xt Xp T A b a S : Nat) (t : TS) (ti : TI t.p) (pl : Nat) (hpl : pl ≤ t.p.n + t.p.z) (J Jx : List (V × V) → World → Prop) (W : World) (hJ : AbidesFrom W.heap.size J)
    (hY : ∀ pre x W1, J pre W1 → pre.length < 200000 → YieldAt Fence.wide 4 Try.prog l (encP x) W1 fun e W' =>
      (e = .returned (.bool true) ∧ J (pre ++ [x]) W' ∧ Keep Ks W1 W') ∨ (e = .returned (.bool false) ∧ Jx (pre ++ [x]) W'))
    (hI : It W Ks Xt Xp T A b a S t pl) (h0 : J [] W) :
    CallsIn Fence.wide 5 Try.prog 51 #[.func (.yield l) #[] #[], .pointer (some ⟨Xt, 0, none⟩), .pointer (some ⟨Xp, 0, none⟩)] W fun e W' => (∃ v, e = .returned v) ∧
      ((∃ ys, ys = lsF t.p (t.p.n + t.p.z - pl) (pl + 1) ∧ J ys W') ∨ (∃ pre, pre <+: lsF t.p (t.p.n + t.p.z - pl) (pl + 1) ∧ Jx pre W')) := by
  have hle := ti.le
  have hlz := ti.rt.le
  have CP : CallsIn Fence.wide 4 Try.prog 21 #[.pointer (some ⟨T, 0, none⟩)] W.drew fun e w' => e = .returned (.int .i64 ((t.p.n + t.p.z : Nat) : Int)) ∧ Hid (Below W.heap.size W w') ∧ w'.cell? ⟨Xp, 0, none⟩ = some (.int .i64 (pl : Nat)) :=
    callsIn_wide.2 ((places_any (hI.tm.below (bdrew1 W)) hle hlz).mono fun e w' hh => by
      have kb : Below W.heap.size W w' := bthen (bdrew1 W) (Nat.le_refl _) hh.2
      exact ⟨hh.1, kb, (hI.kept (Keep.of kb)).cp⟩)
  have ct := hI.ct
  have cp := hI.cp
  unfold tp at ct
  obtain ⟨NZ, hNZ⟩ : ∃ NZ : Nat, t.p.n + t.p.z = NZ := ⟨_, rfl⟩
  rw [hNZ] at CP hpl ⊢
  obtain ⟨M, hM⟩ : ∃ M : Nat, NZ - pl = M := ⟨_, rfl⟩
  rw [hM]
  have hws : IntKind.i64.wrap ((NZ : Int) - (pl : Int)) = (M : Int) := by rw [IntKind.wrap_i64]; omega
  have hmo : Try.prog.follows Departure.mixedOrders = true := by kernel_rfl
  refine callsIn_of_wp Try.func51 rfl trivial ?_ rfl
  simp only [Try.ntmps51, List.size_toArray, List.length_cons, List.length_nil, Nat.reduceAdd, Nat.reduceSub, Array.replicate_succ, Array.replicate_zero, List.push_toArray, List.append_toArray, List.nil_append, List.cons_append]
  gi_wp2
  gi_region_with_o (refine ⟨trivial, ?_⟩; gi_at_call 21; refine CP.mono ?_; rintro e w1 ⟨rfl, k1, cp1⟩)
  all_goals
    gi_wp2
    first | go_simp | simp [Act.put]
    gi_loopw [11] (fun iw wr => ∃ k : Nat, iw = .int .i64 (k : Nat) ∧ k ≤ M ∧ Hid (J (lsF t.p k (pl + 1)) wr ∧ Keep Ks W wr ∧ W.heap.size ≤ wr.heap.size)) (fun iw _ => M - (intOf iw).toNat)
    case atStart => exact ⟨0, rfl, by omega, abides_below hJ h0 k1.out, Keep.of k1.out, k1.out.size⟩
    case round =>
      obtain ⟨k, rfl, hk, HR⟩ := hrel
      clear CP ct cp cp1 k1
      have hIr := hI.kept HR.out.2.1
      have ct := hIr.ct
      have cp := hIr.cp
      unfold tp at ct
      by_cases hlt : k < M
      · have hlt' : (k : Int) < (M : Int) := by omega
        have hw1 : IntKind.i64.wrap ((pl : Int) + 1) = (pl : Int) + 1 := by rw [IntKind.wrap_i64]; omega
        have hw2 : IntKind.i64.wrap ((pl : Int) + 1 + (k : Int)) = ((pl + 1 + k : Nat) : Int) := by rw [IntKind.wrap_i64]; omega
        have hwi : IntKind.i64.wrap ((k : Int) + 1) = (k : Int) + 1 := by rw [IntKind.wrap_i64]; omega
        have CQ : CallsIn Fence.wide 4 Try.prog 52 #[.pointer (some ⟨T, 0, none⟩), .int .i64 ((pl + 1 + k : Nat) : Int)] wr fun e w' => e = .returned (.tuple #[.agg #[.int .i64 (prO t.p ((pl + 1 + k : Nat) : Int)).1.1, .int .i64 (prO t.p ((pl + 1 + k : Nat) : Int)).1.2.1, .string (prO t.p ((pl + 1 + k : Nat) : Int)).1.2.2], .agg #[.int .i64 (prO t.p ((pl + 1 + k : Nat) : Int)).2.1, .int .i64 (prO t.p ((pl + 1 + k : Nat) : Int)).2.2.1, .string (prO t.p ((pl + 1 + k : Nat) : Int)).2.2.2]]) ∧ Below wr.heap.size wr w' := callsIn_wide.2 (pair_at hIr.tm hle hlz _ (by omega) (by omega))
        have esn := lsF_snoc t.p k (pl + 1)
        have hlen := lsF_len t.p k (pl + 1)
        have hsub : lsF t.p (k + 1) (pl + 1) <+: lsF t.p (M) (pl + 1) := lsF_pre t.p _ _ (by omega)
        generalize prO t.p ((pl + 1 + k : Nat) : Int) = x at *
        generalize lsF t.p k (pl + 1) = pre at *
        generalize ((pl + 1 + k : Nat) : Int) = at1 at *
        have HE : Hid (lsF t.p (k + 1) (pl + 1) = pre ++ (if x.2.1 ≠ 0 then [x] else [])) := esn
        have HSb : Hid (lsF t.p (k + 1) (pl + 1) <+: lsF t.p (M) (pl + 1)) := hsub
        clear esn hsub
        have hlen2 : pre.length < 200000 := by omega
        have HJ3 : Hid (∀ w2, Below wr.heap.size wr w2 → J pre ((w2.alloc (.cells #[.int .i64 x.1.1, .int .i64 x.1.2.1, .string x.1.2.2] 33)).alloc (.cells #[.int .i64 x.2.1, .int .i64 x.2.2.1, .string x.2.2.2] 33)) ∧ Keep Ks W ((w2.alloc (.cells #[.int .i64 x.1.1, .int .i64 x.1.2.1, .string x.1.2.2] 33)).alloc (.cells #[.int .i64 x.2.1, .int .i64 x.2.2.1, .string x.2.2.2] 33)) ∧ W.heap.size ≤ ((w2.alloc (.cells #[.int .i64 x.1.1, .int .i64 x.1.2.1, .string x.1.2.2] 33)).alloc (.cells #[.int .i64 x.2.1, .int .i64 x.2.2.1, .string x.2.2.2] 33)).heap.size) := fun w2 k2 => by
          have kb := bthen k2 k2.size (b2 w2 (.cells #[.int .i64 x.1.1, .int .i64 x.1.2.1, .string x.1.2.2] 33) (.cells #[.int .i64 x.2.1, .int .i64 x.2.2.1, .string x.2.2.2] 33))
          exact ⟨abides_below hJ HR.out.1 kb, HR.out.2.1.trans (Keep.of kb), Nat.le_trans HR.out.2.2 kb.size⟩
        by_cases hx : x.2.1 = 0
        · have hx0 : (x.2.1 != 0) = false := by simp [hx]
          have HE0 : Hid (lsF t.p (k + 1) (pl + 1) = pre) := by show _ = _; rw [HE.out, if_neg (fun q => q hx)]; simp
          clear hx HE
          gi_wp2_with (refine ⟨trivial, ?_⟩; gi_at_call 52; refine CQ.mono ?_; rintro e w2 ⟨rfl, k2⟩; have HJ4 : Hid _ := HJ3.out w2 k2; clear k2)
          refine ⟨fun _ h => (by cases h), ?_⟩
          gi_wp2
          go_roundw
          case rel => exact ⟨k + 1, by go_num, by omega, by rw [HE0.out]; exact HJ4.out⟩
          case measure => simp [intOf]; omega
        · have hx0 : (x.2.1 != 0) = true := by simp [hx]
          have HE0 : Hid (lsF t.p (k + 1) (pl + 1) = pre ++ [x]) := by show _ = _; rw [HE.out, if_pos hx]
          clear hx HE
          gi_wp2_with (refine ⟨trivial, ?_⟩; gi_at_call 52; refine CQ.mono ?_; rintro e w2 ⟨rfl, k2⟩; have HJ4 : Hid _ := HJ3.out w2 k2; obtain ⟨fn, tmps, assign, body, hy, hR⟩ := hY pre x _ HJ4.out.1 hlen2; dsimp only [encP] at hy; clear k2)
          refine hR.mono ?_
          rintro e W3 (⟨rfl, hJ5, hk5⟩ | ⟨rfl, hJx5⟩)
          · have HJ5 : Hid (J (pre ++ [x]) W3 ∧ Keep Ks W W3 ∧ W.heap.size ≤ W3.heap.size) := ⟨hJ5, HJ4.out.2.1.trans hk5, Nat.le_trans HJ4.out.2.2 hk5.size⟩
            clear hJ5 hk5 hy hR
            gi_wp2
            go_roundw
            case rel => exact ⟨k + 1, by go_num, by omega, by rw [HE0.out]; exact HJ5.out⟩
            case measure => simp [intOf]; omega
          · clear hy hR
            gi_wp2
            refine bodyPost_ret (results_none rfl _ _ _) rfl ?_
            exact ⟨⟨_, rfl⟩, .inr ⟨pre ++ [x], by rw [← HE0.out]; exact HSb.out, hJx5⟩⟩
      · obtain rfl : k = M := by omega
        gi_wp2
        go_end0
        exact ⟨⟨_, rfl⟩, .inl ⟨_, rfl, HR.out.1⟩⟩
theorem iter_stops (Ks : Nat → Prop) (Xt Xp T A b a S : Nat) (t : TS) (ti : TI t.p) (pl : Nat) (hpl : pl ≤ t.p.n + t.p.z) (w : World) (hI : It w Ks Xt Xp T A b a S t pl) :
    SeqStopsK Fence.wide 5 Try.prog 51 #[.pointer (some ⟨Xt, 0, none⟩), .pointer (some ⟨Xp, 0, none⟩)] encP (Keep Ks) (fun xs => xs = lsF t.p (t.p.n + t.p.z - pl) (pl + 1)) (fun pre => pre <+: lsF t.p (t.p.n + t.p.z - pl) (pl + 1)) 200000 w :=
  fun l J Jx W hW hJ _ hY h0 => iter_any Ks l Xt Xp T A b a S t ti pl hpl J Jx W hJ hY (hI.kept (Keep.of hW)) h0
theorem keepK_t {Ks : Nat → Prop} {A B C : World} (h : Keep Ks A B) (k : Keep Ks B C) : Keep Ks A C := h.trans k
theorem keepK_b {Ks : Nat → Prop} {w : World} (hk : ∀ g, Ks g → g < w.heap.size) (W : World) (l : Nat) (o o' : Obj) (hl : w.heap.size ≤ l) (_ : W.heap[l]? = some o) (_ : o.isCells = false) (_ : o.isWalk = false) : Keep Ks W (W.putObj l o') :=
  ⟨rfl, rfl, rfl, by simp, fun g _ hg => World.putObj_heap_other (fun e => by have := hk g hg; omega)⟩
end Go.Proofs.Ythlgeohncpmaaab

/- The walk of the reference's Ceil2. -/
namespace Go.Proofs.Ythlgeohncpmaaab.C
open Go.RowKit

set_option maxRecDepth 20000 in
set_option maxHeartbeats 1000000 in
theorem rlog_pos (n : Int) (w : World) (h0 : 1 ≤ n) (h1 : n ≤ 9223372036854775807) : Calls Try.prog 61 #[.int .i64 n] w fun e w' => e = .returned (.int .i64 (lgN n)) ∧ w' = w := by
  have H1 : Hid (n ≤ 9223372036854775807) := h1
  clear h1
  go_enter Try.func61, Try.ntmps61
  go_wp2
  go_loop [3] (fun v => ∃ k : Nat, k ≤ 62 ∧ Hid (k = 0 ∨ 2 ^ (k - 1) < n.toNat) ∧ v = .int .i64 k) (fun v => 62 - (intOf v).toNat)
  case atStart => exact ⟨0, by omega, .inl rfl, rfl⟩
  case round =>
    obtain ⟨k, hk, HK, rfl⟩ := hrel
    have hp := pow_fit k hk
    have HP : Hid (((2 ^ k : Nat) : Int) = (2 : Int) ^ k) := pow_int k
    go_wp2
    · go_round
      case rel => exact ⟨k + 1, by omega, .inr (by have := HP.out; show 2 ^ k < _; omega), by go_num⟩
      case measure => simp [intOf]; omega
    · go_ret
      exact ⟨ret1 (by rw [← lgN_unique n k h0 H1.out (by have := HP.out; omega) HK.out]), rfl⟩
    · go_ret
      obtain rfl : k = 62 := by omega
      have h63 : n.toNat ≤ 2 ^ 63 := by have := H1.out; omega
      exact ⟨ret1 (by rw [← lgN_unique n 63 h0 H1.out h63 (.inr (by have := HP.out; show 2 ^ 62 < _; omega))]; rfl), rfl⟩
    · go_ret
      exact ⟨ret1 (by rw [← lgN_unique n k h0 H1.out (by have := HP.out; omega) HK.out]), rfl⟩
set_option maxRecDepth 20000 in
set_option maxHeartbeats 1000000 in
theorem rceil_any (n : Int) (w : World) (h0 : 0 ≤ n) (h1 : n ≤ 65536) : Calls Try.prog 43 #[.int .i64 n] w fun e w' => e = .returned (.tuple #[.int .i64 (up2 n), .int .i64 0]) ∧ w' = w := by
  unfold up2
  by_cases hz : n = 0
  · subst hz
    rw [if_pos rfl]
    go_enter Try.func43, Try.ntmps43
    go_wp2
    go_ret2
    exact ⟨rfl, rfl⟩
  · rw [if_neg hz]
    have hn : 1 ≤ n := by omega
    obtain ⟨hc, _, _, _, _, h30⟩ := cl_facts n hn (by omega)
    have HC : Hid (wrap64 (2 ^ lgN n) = cl n) := hc
    clear hc
    go_enter Try.func43, Try.ntmps43
    go_wp2_with (go_at_call 61; refine (rlog_pos _ _ hn (by omega)).mono ?_; rintro e w' ⟨rfl, rfl⟩)
    go_ret2
    exact ⟨ret2 HC.out rfl, rfl⟩
end Go.Proofs.Ythlgeohncpmaaab.C

/- The reference's heap as the program's says; the walk of the reference's New. -/
namespace Go.Proofs.Ythlgeohncpmaaab
open Go.RowKit

/-- The reference's heap, block S: it answers as s does. -/
def RH (No : Nat → Prop) (w : World) (S c : Nat) (s : H.St) : Prop := ∃ va r, H.Rp No w S c va r ∧ H.Sim 0 s r ∧ r.ck ≤ (c : Int)
theorem ck_take (r : H.Rs) (n : Int) : (H.rtSt r n).ck = r.ck := by unfold H.rtSt; split; rfl; split <;> rfl
theorem ck_give (r : H.Rs) (n : Int) : (H.rgSt r n).ck ≤ r.ck + 1 := by
  unfold H.rgSt
  split
  · exact Int.le_refl _
  · omega
section
variable {No No' : Nat → Prop} {w w' : World} {S c : Nat} {s : H.St}
theorem RH.below (h : RH No w S c s) (k : Below w.heap.size w w') : RH No w' S c s := by
  obtain ⟨va, r, h1, h2, h3⟩ := h
  exact ⟨va, r, h1.below k, h2, h3⟩
theorem RH.more (h : RH No w S c s) {c' : Nat} (hc : c ≤ c') : RH No w S c' s := by
  obtain ⟨va, r, h1, h2, h3⟩ := h
  exact ⟨va, r, h1.more hc, h2, by omega⟩
theorem RH.news (h : RH No w S c s) (k : Below w.heap.size w w') : RH (fun g => No g ∨ (w.heap.size ≤ g ∧ g < w'.heap.size)) w' S c s := by
  obtain ⟨va, r, h1, h2, h3⟩ := h
  refine ⟨va, r, h1.far (k.block S h1.apart.2) (fun g e => k.block g (h1.row.lt g e).2) (Nat.le_refl _) (fun g q => ?_), h2, h3⟩
  have := k.size
  rcases q with q | q
  · have := h1.nos g q
    exact ⟨by omega, fun e => h1.noS (e ▸ q), fun e => h1.nov g e q⟩
  · exact ⟨q.2, fun e => by have := h1.apart.2; omega, fun e => by have := (h1.row.lt g e).2; omega⟩
theorem RH.sub (h : RH No w S c s) (hn : ∀ g, No' g → No g) : RH No' w S c s := by
  obtain ⟨va, r, h1, h2, h3⟩ := h
  exact ⟨va, r, h1.far rfl (fun _ _ => rfl) (Nat.le_refl _) (fun g q => ⟨h1.nos g (hn g q), fun e => h1.noS (e ▸ hn g q), fun e => h1.nov g e (hn g q)⟩), h2, h3⟩
theorem RH.frame (h : RH No w S c s) (hs : w.heap.size ≤ w'.heap.size) (hb : ∀ g, g < w.heap.size → ¬ No g → w'.heap[g]? = w.heap[g]?) : RH No w' S c s := by
  obtain ⟨va, r, h1, h2, h3⟩ := h
  exact ⟨va, r, h1.far (hb S h1.apart.2 h1.noS) (fun g e => hb g (h1.row.lt g e).2 (h1.nov g e)) (Nat.le_refl _) (fun g q => ⟨Nat.lt_of_lt_of_le (h1.nos g q) hs, fun e => h1.noS (e ▸ q), fun e => h1.nov g e q⟩), h2, h3⟩
theorem RH.nos (h : RH No w S c s) : ∀ g, No g → g < w.heap.size := by
  obtain ⟨va, r, h1, h2, h3⟩ := h
  exact h1.nos
theorem RH.sets (h : RH No w S c s) {N i : Nat} (v : Value) (hN : No N) : RH No (w.setCell ⟨N, i, none⟩ v) S c s := h.frame (by simp [World.setCell]) (fun g _ hn => Below.heap_setCell _ _ _ _ (fun e => hn (by rw [e]; exact hN)))
theorem rtk (h : RH No w S c s) (hc : c ≤ 900000) (iv : H.Inv 0 s) (n : Int) :
    Calls Try.prog 44 #[.pointer (some ⟨S, 0, none⟩), .int .i64 n] w fun e w' => e = .returned (.tuple #[.int .i64 (H.takeId s n), .int .i64 (H.takeE s n)]) ∧ RH No w' S (c + 1) (H.takeSt s n) ∧ Keep No w w' := by
  obtain ⟨va, r, h1, h2, h3⟩ := h
  have hl := h2.live iv
  have h5 := iv.ok.l0
  have h6 := iv.l1
  have h7 := iv.l2
  have hlim := h2.lim
  refine (H.rtake_any h1 (by omega) (h2.ok iv) (by omega) (by omega) (by omega) n).mono ?_
  rintro e w' ⟨rfl, ⟨v', hp⟩, kk⟩
  obtain ⟨m1, m2⟩ := h2.take iv n
  exact ⟨by rw [m2, h2.E iv n], ⟨v', _, hp, m1, by rw [ck_take]; omega⟩, kh kk⟩
theorem rgv (h : RH No w S c s) (hc : c ≤ 900000) (iv : H.Inv 0 s) (id : Int) :
    Calls Try.prog 45 #[.pointer (some ⟨S, 0, none⟩), .int .i64 id] w fun e w' => e = .returned (.int .i64 (H.giveE s id)) ∧ RH No w' S (c + 1) (H.giveSt s id) ∧ Keep No w w' := by
  obtain ⟨va, r, h1, h2, h3⟩ := h
  refine (H.rgive_any h1 (by omega) h2.ck0 (by omega) id).mono ?_
  rintro e w' ⟨rfl, hp, kk⟩
  exact ⟨by rw [h2.giveE id], ⟨va, _, hp.more (by omega), h2.give iv id, by have := ck_give r id; omega⟩, kh kk⟩
theorem rlv_any (h : RH No w S c s) (hc : c ≤ 900000) (iv : H.Inv 0 s) : Calls Try.prog 62 #[.pointer (some ⟨S, 0, none⟩)] w fun e w' => e = .returned (.int .i64 s.live) ∧ w' = w := by
  obtain ⟨va, r, h1, h2, h3⟩ := h
  rw [← h2.live iv]
  exact H.rlive_any h1 (by omega) (h2.ok iv)
end
end Go.Proofs.Ythlgeohncpmaaab
