/- The pure part, on: how a part fills up. -/
import Derived.Test.YtbkgbojfjijalaaGs
import Derived.Test.YtbkgbojfjijalaaDu
namespace Go.Proofs.Ytbkgbojfjijalaa
open Go.RowKit

theorem held_new {K K' : Nat → V} {n a : Nat} (ha : a < n) (h0 : K a = nil) (h1 : K' a ≠ nil) (h2 : ∀ i, i ≠ a → (K' i = nil ↔ K i = nil)) :
    sumTo n (fun j => if K' j = nil then 0 else 1) = sumTo n (fun j => if K j = nil then 0 else 1) + 1 := by
  have e : sumTo n (fun j => if K' j = nil then 0 else 1) = sumTo n (fun j => (if K j = nil then 0 else 1) + (if j = a then 1 else 0)) := sumTo_congr fun j _ => by
    by_cases e : j = a
    · subst e; rw [if_neg h1, if_pos h0, if_pos rfl]
    · rw [if_neg e]
      by_cases e2 : K j = nil
      · rw [if_pos ((h2 j e).2 e2), if_pos e2]
      · rw [if_neg (fun q => e2 ((h2 j e).1 q)), if_neg e2]
  rw [e, sumTo_add, sumTo_one _ ha]
theorem full_all {K : Nat → V} {n : Nat} (h : sumTo n (fun j => if K j = nil then 0 else 1) = n) : ∀ i, i < n → K i ≠ nil := by
  induction n with
  | zero => intro i hi; omega
  | succ n ih =>
    rw [sumTo] at h
    have h1 : sumTo n (fun j => if K j = nil then 0 else 1) ≤ n := held_le { K := K, X := K, C := fun _ => [], f := 0 } n
    intro i hi
    by_cases e : i = n
    · subst e
      intro q
      rw [if_pos q] at h
      omega
    · refine ih ?_ i (by omega)
      split at h <;> omega
theorem room_ex {K : Nat → V} {n : Nat} (h : sumTo n (fun j => if K j = nil then 0 else 1) < n) : ∃ i, i < n ∧ K i = nil := by
  induction n with
  | zero => omega
  | succ n ih =>
    rw [sumTo] at h
    by_cases e : K n = nil
    · exact ⟨n, by omega, e⟩
    · rw [if_neg e] at h
      obtain ⟨i, h1, h2⟩ := ih (by omega)
      exact ⟨i, by omega, h2⟩

/-- A new key with a value goes in while there is room: one node more; which keys there are then. -/
theorem put_new {z : Nat} {g : G} {k v : V} (hi : Inv z (pl z) KOK g) (hz : pw z = true) (hk : KOK k) (hv : fm v = true) (hv0 : v.1 ≠ 0) (hnew : ∀ i, i < z → g.K i ≠ k) (hroom : held g z < z) :
    (put z g k v).2.2 = 0 ∧ held (put z g k v).1 z = held g z + 1 ∧ ∀ i, i < z → (put z g k v).1.K i = k ∨ (put z g k v).1.K i = nil ∨ ∃ j, j < z ∧ (put z g k v).1.K i = g.K j := by
  have hz0 : z ≠ 0 := by omega
  have hpl := pl_lt hz k
  have hfn : ∃ n, find (pl z) g k = (none, n) := by
    cases hf : find (pl z) g k with
    | mk o n =>
      cases o with
      | none => exact ⟨n, rfl⟩
      | some i =>
        have := hi.find_some (fun k _ => pl_lt hz k) hk hf
        exact absurd this.1 (hnew i this.2.1)
  obtain ⟨n, hfn⟩ := hfn
  have e : put z g k v = ((ins (pl z) g k v).1, n, full (ins (pl z) g k v).2) := by
    rw [put, if_pos ⟨hk.1, hv⟩, if_neg hk.2.1, if_neg hz0, hfn]
    exact if_neg hv0
  rw [e]
  unfold held
  generalize hM : pl z k = m at *
  by_cases hE : g.K m = nil
  · have e2 : ins (pl z) g k v = (ins0 g m k v, true) := by rw [ins, hM, if_pos hE]
    rw [e2]
    refine ⟨rfl, held_new hpl hE (by show upd g.K m k m ≠ nil; rw [upd_at]; exact hk.ne) (fun i hi2 => by show upd g.K m k i = nil ↔ _; rw [upd_ne _ _ hi2]), fun i hi2 => ?_⟩
    show upd g.K m k i = k ∨ upd g.K m k i = nil ∨ ∃ j, j < z ∧ upd g.K m k i = g.K j
    by_cases q : i = m
    · rw [q, upd_at]; exact .inl rfl
    · rw [upd_ne _ _ q]; exact .inr (.inr ⟨i, hi2, rfl⟩)
  · obtain ⟨i0, hi0, hn0⟩ := room_ex hroom
    obtain ⟨a, ha⟩ := hi.room hi0 hn0
    obtain ⟨t1, t2, t3⟩ := tf_some ha
    have haz : a < z := Nat.lt_of_lt_of_le t1 hi.fle
    have ham : a ≠ m := fun x => hE (x ▸ t2)
    by_cases hO : pl z (g.K m) = m
    · have e2 : ins (pl z) g k v = (ins1 g m a k v, true) := by rw [ins, hM, if_neg hE, ha]; simp only; rw [if_pos hO]
      rw [e2]
      refine ⟨rfl, held_new haz t2 (by show upd g.K a k a ≠ nil; rw [upd_at]; exact hk.ne) (fun i hi2 => by show upd g.K a k i = nil ↔ _; rw [upd_ne _ _ hi2]), fun i hi2 => ?_⟩
      show upd g.K a k i = k ∨ upd g.K a k i = nil ∨ ∃ j, j < z ∧ upd g.K a k i = g.K j
      by_cases q : i = a
      · rw [q, upd_at]; exact .inl rfl
      · rw [upd_ne _ _ q]; exact .inr (.inr ⟨i, hi2, rfl⟩)
    · have e2 : ins (pl z) g k v = (ins2 g (pl z (g.K m)) m a k v, true) := by rw [ins, hM, if_neg hE, ha]; simp only; rw [if_neg hO]
      rw [e2]
      refine ⟨rfl, held_new haz t2 (by show upd (upd g.K a (g.K m)) m k a ≠ nil; rw [upd_ne _ _ ham, upd_at]; exact hE) (fun i hi2 => ?_), fun i hi2 => ?_⟩
      · show upd (upd g.K a (g.K m)) m k i = nil ↔ _
        by_cases q : i = m
        · rw [q, upd_at]; exact ⟨fun x => absurd x hk.ne, fun x => absurd x hE⟩
        · rw [upd_ne _ _ q, upd_ne _ _ hi2]
      · show upd (upd g.K a (g.K m)) m k i = k ∨ upd (upd g.K a (g.K m)) m k i = nil ∨ ∃ j, j < z ∧ upd (upd g.K a (g.K m)) m k i = g.K j
        by_cases q : i = m
        · rw [q, upd_at]; exact .inl rfl
        · rw [upd_ne _ _ q]
          by_cases q2 : i = a
          · rw [q2, upd_at]; exact .inr (.inr ⟨m, hpl, rfl⟩)
          · rw [upd_ne _ _ q2]; exact .inr (.inr ⟨i, hi2, rfl⟩)
/-- A new key where all nodes hold keys: ErrFull, and the free pointer alone has changed. -/
theorem put_full {z : Nat} {g : G} {k v : V} (hi : Inv z (pl z) KOK g) (hz : pw z = true) (hk : KOK k) (hv : fm v = true) (hv0 : v.1 ≠ 0) (hnew : ∀ i, i < z → g.K i ≠ k) (hfull : held g z = z) :
    ∃ n, put z g k v = ({ g with f := 0 }, n, 12) := by
  have hz0 : z ≠ 0 := by have := (pw_bounds z hz).1; omega
  have hpl := pl_lt hz k
  have hall := full_all hfull
  have hfn : ∃ n, find (pl z) g k = (none, n) := by
    cases hf : find (pl z) g k with
    | mk o n =>
      cases o with
      | none => exact ⟨n, rfl⟩
      | some i =>
        have := hi.find_some (fun k _ => pl_lt hz k) hk hf
        exact absurd this.1 (hnew i this.2.1)
  obtain ⟨n, hfn⟩ := hfn
  have ht : tf g.K g.f = none := by
    cases ht : tf g.K g.f with
    | none => rfl
    | some a =>
      obtain ⟨t1, t2, t3⟩ := tf_some ht
      exact absurd t2 (hall a (Nat.lt_of_lt_of_le t1 hi.fle))
  have e2 : ins (pl z) g k v = ({ g with f := 0 }, false) := by rw [ins, if_neg (hall _ hpl), ht]
  refine ⟨n, ?_⟩
  rw [put, if_pos ⟨hk.1, hv⟩, if_neg hk.2.1, if_neg hz0, hfn]
  simp only
  rw [if_neg hv0, e2]
  rfl
end Go.Proofs.Ytbkgbojfjijalaa
