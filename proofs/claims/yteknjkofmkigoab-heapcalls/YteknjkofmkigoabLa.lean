/- The law HeapLast: what comes of blocks of one size; the walk. -/
import Derived.Test.YteknjkofmkigoabHf
namespace Go.Proofs.Yteknjkofmkigoab.H
open Go.RowKit

/-- Over whatever turns a row of No's and makes new blocks, which may be No's too. -/
theorem Hp.grow {No No' : Nat → Prop} {w w' : World} {S b c : Nat} {vb : Value} {s : St} {row : Option Nat} (h : Hp No w S b c vb s) (hg : w.grownBy w' row) (hr : ∀ g, row = some g → No g) (hn : ∀ g, No' g → No g ∨ (w.heap.size ≤ g ∧ g < w'.heap.size)) : Hp No' w' S b c vb s := by
  obtain ⟨a1, a2, a3, a4, lS, lb⟩ := h.apart
  have neS : some S ≠ row := fun e => h.noS (hr S e.symm)
  have neb : some b ≠ row := fun e => h.nob (hr b e.symm)
  obtain ⟨D, ho, hs, hR⟩ := h.rdy
  refine ⟨(hg.block S lS neS).trans h.str, h.row.kept hg ?_, ⟨D, ho.kept hg neb (hs.rowsOff hr), (hs.reno ho (fun g q => (hn g q).imp id (fun q => q.1))).kept hg lb neb, hR⟩, h.len, fun q => ?_, fun q => ?_, fun g e q => ?_, fun g q => ?_⟩
  · cases q : vb.ownBlock with
    | none => exact .inl rfl
    | some y => exact .inr (fun e => h.nov y q (hr y e.symm))
  · rcases hn S q with q | q
    · exact h.noS q
    · omega
  · rcases hn b q with q | q
    · exact h.nob q
    · omega
  · rcases hn g q with q | q
    · exact h.nov g e q
    · have := (h.row.lt g e).2; omega
  · rcases hn g q with q | q
    · exact Nat.lt_of_lt_of_le (h.nos g q) hg.size
    · exact q.2
theorem own_keep {w w' : World} {B n size : Nat} {e : TypeId} {v : Value} {xs : List Value} (h : w.ownsRow B e size v n xs) (hb : ∀ g, v.ownBlock = some g → w'.heap[g]? = w.heap[g]?) : w'.ownsRow B e size v n xs := by
  refine ⟨h.1, ?_⟩
  rcases h.2 with q | ⟨g, cap, cur, h1, h2, h3, h4⟩
  · exact .inl q
  · exact .inr ⟨g, cap, cur, h1, h2, by rw [hb g (by rw [h1]; rfl)]; exact h3, h4⟩

theorem md_wrap (x d : Int) (h : 1 ≤ d) (h' : d ≤ 65536) : ∃ n : Nat, wrap64 ((IntKind.u64.wrap x).tmod d) = (n : Int) ∧ (n : Int) < d := by
  refine ⟨((x % 18446744073709551616) % d).toNat, ?_⟩
  rw [IntKind.wrap_u64]
  have q0 : 0 ≤ x % 18446744073709551616 := by omega
  have q1 := Int.emod_nonneg (x % 18446744073709551616) (show d ≠ 0 by omega)
  have q2 := Int.emod_lt_of_pos (x % 18446744073709551616) (show 0 < d by omega)
  rw [Int.tmod_eq_emod_of_nonneg q0]
  refine ⟨?_, by omega⟩
  unfold wrap64; omega

/-- The numbers 1 to j. -/
def ups (j : Nat) : List Int := (List.range j).map fun i : Nat => (i : Int) + 1
theorem ups_succ (j : Nat) : ups (j + 1) = ups j ++ [(j : Int) + 1] := by simp [ups, List.range_succ]
theorem ups_len (j : Nat) : (ups j).length = j := by simp [ups]
theorem ups_get (j i : Nat) (h : i < j) : (ups j)[i]? = some ((i : Int) + 1) := by simp [ups, h]
/-- k blocks of n cells; the first j of them lie ready. -/
def X (n : Int) (k j : Nat) : St := ⟨2000, ((k : Int) - j) * n, k * n, List.replicate j (n, false) ++ List.replicate (k - j) (n, true), fun m => if m = n then ups j else []⟩
theorem X_new (n : Int) : X n 0 0 = newSt 2000 := by
  unfold X newSt
  have : (fun m => if m = n then ups 0 else []) = fun _ : Int => ([] : List Int) := by
    funext m
    show (if m = n then [] else []) = []
    split <;> rfl
  rw [this]
  simp
theorem X_len (n : Int) (k j : Nat) (h : j ≤ k) : (X n k j).bl.length = k := by simp [X]; omega
theorem mul_bd (n : Int) (m : Int) (h0 : 0 ≤ m) (h1 : m ≤ 20) (hn : 1 ≤ n) (hn2 : n ≤ 50) : 0 ≤ m * n ∧ m * n ≤ 1000 := by
  have h2 : m * n ≤ 20 * 50 := Int.mul_le_mul h1 hn2 (by omega) (by omega)
  have h3 : 0 ≤ m * n := Int.mul_nonneg h0 (by omega)
  omega
theorem X_lay (n : Int) (hn : 1 ≤ n) (hn2 : n ≤ 50) (k : Nat) (hk : k ≤ 19) : takeSt (X n k 0) n = X n (k + 1) 0 ∧ takeId (X n k 0) n = (k : Int) + 1 ∧ takeE (X n k 0) n = 0 := by
  have hb := mul_bd n ((k : Int) - (0 : Nat)) (by omega) (by omega) hn hn2
  obtain ⟨e1, e2, e3⟩ := take_new (s := X n k 0) hn (by show n ≤ 2000 - ((k : Int) - (0 : Nat)) * n; omega) (by show (if n = n then ups 0 else []) = []; rw [if_pos rfl]; rfl)
  refine ⟨?_, by rw [e2, X_len n k 0 (by omega)], e3⟩
  rw [e1]
  unfold X
  have h1 : ((k : Int) - (0 : Nat)) * n + n = (((k + 1 : Nat) : Int) - (0 : Nat)) * n := by
    rw [show (((k + 1 : Nat) : Int) - (0 : Nat)) = ((k : Int) - (0 : Nat)) + 1 by omega, Int.add_mul]; omega
  have h2 : (k : Int) * n + n = ((k + 1 : Nat) : Int) * n := by
    rw [show ((k + 1 : Nat) : Int) = (k : Int) + 1 by omega, Int.add_mul]; omega
  simp only [h1, h2]
  congr 1
  simp only [List.replicate_zero, List.nil_append, Nat.sub_zero]
  rw [List.replicate_succ']
theorem X_give (n : Int) (k j : Nat) (hj : j < k) : giveSt (X n k j) ((j : Int) + 1) = X n k (j + 1) ∧ giveE (X n k j) ((j : Int) + 1) = 0 := by
  obtain ⟨m, rfl⟩ : ∃ m, k = j + 1 + m := ⟨k - j - 1, by omega⟩
  have hbl : (X n (j + 1 + m) j).bl = List.replicate j (n, false) ++ (n, true) :: List.replicate m (n, true) := by
    show List.replicate j (n, false) ++ List.replicate (j + 1 + m - j) (n, true) = _
    rw [show j + 1 + m - j = m + 1 by omega, List.replicate_succ]
  have hlt : j < (X n (j + 1 + m) j).bl.length := by rw [X_len _ _ _ (by omega)]; omega
  have hget : (X n (j + 1 + m) j).bl[j]'hlt = (n, true) := by
    simp only [hbl]
    rw [List.getElem_append_right (by simp)]
    simp
  obtain ⟨e1, e2⟩ := give_at hlt (by rw [hget])
  rw [hget] at e2
  refine ⟨?_, e1⟩
  rw [e2]
  have h1 : setT (X n (j + 1 + m) j).bl j false = (X n (j + 1 + m) (j + 1)).bl := by
    rw [setT_eq _ _ hlt, hget, hbl]
    show _ = List.replicate (j + 1) (n, false) ++ List.replicate (j + 1 + m - (j + 1)) (n, true)
    rw [show j + 1 + m - (j + 1) = m by omega, List.replicate_succ', List.set_append_right _ _ (by simp)]
    simp
  have h2 : (((j + 1 + m : Nat) : Int) - (j : Nat)) * n - n = (((j + 1 + m : Nat) : Int) - ((j + 1 : Nat) : Int)) * n := by
    rw [show (((j + 1 + m : Nat) : Int) - (j : Nat)) = (((j + 1 + m : Nat) : Int) - ((j + 1 : Nat) : Int)) + 1 by omega, Int.add_mul]; omega
  have h3 : upd (X n (j + 1 + m) j).R n ((X n (j + 1 + m) j).R n ++ [(j : Int) + 1]) = (X n (j + 1 + m) (j + 1)).R := by
    funext q
    show (if q = n then (if n = n then ups j else []) ++ [(j : Int) + 1] else (if q = n then ups j else [])) = (if q = n then ups (j + 1) else [])
    by_cases hq : q = n
    · rw [if_pos hq, if_pos hq, if_pos rfl, ups_succ]
    · rw [if_neg hq, if_neg hq, if_neg hq]
  show St.mk 2000 ((((j + 1 + m : Nat) : Int) - (j : Nat)) * n - n) (((j + 1 + m : Nat) : Int) * n) (setT (X n (j + 1 + m) j).bl j false) (upd (X n (j + 1 + m) j).R n ((X n (j + 1 + m) j).R n ++ [(j : Int) + 1])) = _
  rw [h1, h2, h3]
  rfl
theorem X_again (n : Int) (hn : 1 ≤ n) (hn2 : n ≤ 50) (k j : Nat) (hj : j < k) (hk : k ≤ 20) : takeSt (X n k (j + 1)) n = X n k j ∧ takeId (X n k (j + 1)) n = (j : Int) + 1 ∧ takeE (X n k (j + 1)) n = 0 := by
  have hb := mul_bd n ((k : Int) - ((j + 1 : Nat) : Int)) (by omega) (by omega) hn hn2
  obtain ⟨e1, e2, e3⟩ := take_old (s := X n k (j + 1)) (zs := ups j) (k := j) hn (by show n ≤ 2000 - ((k : Int) - ((j + 1 : Nat) : Int)) * n; omega) (by show (if n = n then ups (j + 1) else []) = _; rw [if_pos rfl, ups_succ])
  refine ⟨?_, e2, e3⟩
  rw [e1]
  obtain ⟨m, rfl⟩ : ∃ m, k = j + 1 + m := ⟨k - j - 1, by omega⟩
  have hbl : (X n (j + 1 + m) (j + 1)).bl = List.replicate j (n, false) ++ (n, false) :: List.replicate m (n, true) := by
    show List.replicate (j + 1) (n, false) ++ List.replicate (j + 1 + m - (j + 1)) (n, true) = _
    rw [show j + 1 + m - (j + 1) = m by omega, List.replicate_succ', List.append_assoc]
    rfl
  have hlt : j < (X n (j + 1 + m) (j + 1)).bl.length := by rw [X_len _ _ _ (by omega)]; omega
  have hget : (X n (j + 1 + m) (j + 1)).bl[j]'hlt = (n, false) := by
    simp only [hbl]
    rw [List.getElem_append_right (by simp)]
    simp
  have h1 : setT (X n (j + 1 + m) (j + 1)).bl j true = (X n (j + 1 + m) j).bl := by
    rw [setT_eq _ _ hlt, hget, hbl]
    show _ = List.replicate j (n, false) ++ List.replicate (j + 1 + m - j) (n, true)
    rw [show j + 1 + m - j = m + 1 by omega, List.replicate_succ, List.set_append_right _ _ (by simp)]
    simp
  have h2 : (((j + 1 + m : Nat) : Int) - ((j + 1 : Nat) : Int)) * n + n = (((j + 1 + m : Nat) : Int) - (j : Nat)) * n := by
    rw [show (((j + 1 + m : Nat) : Int) - (j : Nat)) = (((j + 1 + m : Nat) : Int) - ((j + 1 : Nat) : Int)) + 1 by omega, Int.add_mul]; omega
  have h3 : upd (X n (j + 1 + m) (j + 1)).R n (ups j) = (X n (j + 1 + m) j).R := by
    funext q
    show (if q = n then ups j else (if q = n then ups (j + 1) else [])) = (if q = n then ups j else [])
    by_cases hq : q = n
    · rw [if_pos hq, if_pos hq]
    · rw [if_neg hq, if_neg hq, if_neg hq]
  show St.mk 2000 ((((j + 1 + m : Nat) : Int) - ((j + 1 : Nat) : Int)) * n + n) (((j + 1 + m : Nat) : Int) * n) (setT (X n (j + 1 + m) (j + 1)).bl j true) (upd (X n (j + 1 + m) (j + 1)).R n (ups j)) = _
  rw [h1, h2, h3]
  rfl
theorem X_inv (n : Int) (hn : 1 ≤ n) (hn2 : n ≤ 50) (k : Nat) (hk : k ≤ 20) : Inv 0 (X n k 0) := by
  induction k with
  | zero => rw [X_new]; exact Inv.new 2000 (by omega) (by omega)
  | succ k ih =>
    have := (ih (by omega)).take n
    rwa [(X_lay n hn hn2 k (by omega)).1] at this
theorem X_inv2 (n : Int) (hn : 1 ≤ n) (hn2 : n ≤ 50) (k j : Nat) (hk : k ≤ 20) (hj : j ≤ k) : Inv 0 (X n k j) := by
  induction j with
  | zero => exact X_inv n hn hn2 k hk
  | succ j ih =>
    have := (ih (by omega)).give ((j : Int) + 1)
    rwa [(X_give n k j (by omega)).1] at this
end Go.Proofs.Yteknjkofmkigoab.H
