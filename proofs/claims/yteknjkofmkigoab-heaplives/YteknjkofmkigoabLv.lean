/- The law HeapLives: what comes of a block that is taken, given back, and asked for anew. -/
import Derived.Test.YteknjkofmkigoabHf
namespace Go.Proofs.Yteknjkofmkigoab.H
open Go.RowKit

/-- An operation of any kind. -/
def op4 (s : St) (k n : Int) : St := if k = 1 ∨ k = 2 ∨ k = 3 then opSt s k n else s
def stL (n : Int) (l : List (Int × Int)) : Nat → St
  | 0 => newSt n
  | k + 1 => op4 (stL n l k) (l.getD k (0, 0)).1 (l.getD k (0, 0)).2
def spL (n : Int) (l : List (Int × Int)) : Nat → Int
  | 0 => 0
  | k + 1 => opSp (spL n l k) (stL n l k) (l.getD k (0, 0)).1 (l.getD k (0, 0)).2
theorem Inv.op4 {sp : Int} {s : St} (h : Inv sp s) (k n : Int) : Inv (opSp sp s k n) (op4 s k n) := by
  unfold H.op4
  by_cases hk : k = 1 ∨ k = 2 ∨ k = 3
  · rw [if_pos hk]; exact h.op k n (by omega)
  · rw [if_neg hk]; unfold opSp; rw [if_neg (by omega)]; exact h
theorem inv_L (n : Int) (l : List (Int × Int)) (h0 : 0 ≤ n) (h1 : n ≤ 400000) (k : Nat) : Inv (spL n l k) (stL n l k) := by
  induction k with
  | zero => exact Inv.new n h0 h1
  | succ k ih => exact ih.op4 _ _
theorem take_lim (s : St) (n : Int) : (takeSt s n).lim = s.lim := by unfold takeSt; split; rfl; split; rfl; split; rfl; split <;> rfl
theorem give_lim (s : St) (n : Int) : (giveSt s n).lim = s.lim := by unfold giveSt; split <;> rfl
theorem spend_lim (s : St) (n : Int) : (spendSt s n).lim = s.lim := by unfold spendSt; split; rfl; split <;> rfl
theorem op4_lim (s : St) (k n : Int) : (op4 s k n).lim = s.lim := by
  unfold op4 opSt
  split
  · split
    · exact take_lim s n
    · split
      · exact give_lim s n
      · exact spend_lim s n
  · rfl
theorem lim_L (n : Int) (l : List (Int × Int)) (k : Nat) : (stL n l k).lim = n := by
  induction k with
  | zero => rfl
  | succ k ih => exact (op4_lim _ _ _).trans ih
/-- What the law asks of each state. -/
theorem Inv.asks {sp : Int} {s : St} (h : Inv sp s) : 0 ≤ sp ∧ s.live ≤ s.lim ∧ sp ≤ s.live ∧ s.live - sp ≤ s.laid ∧ s.lim ≤ 400000 ∧ 0 ≤ s.laid := by
  have h1 := tk_le s.bl (fun k hk => by have := h.cells k hk; omega)
  have := h.sp0
  have := h.live
  have := h.laid
  have := h.l1
  have := h.l2
  omega

theorem tids_same (l m : List (Int × Bool)) (hl : l.length ≤ m.length) (h : ∀ i, i < l.length → (m.getD i (0, false)).2 = (l.getD i (0, false)).2) (h2 : ∀ i, l.length ≤ i → (m.getD i (0, false)).2 = false) : tids m m.length = tids l l.length := by
  have e : ∀ k, tids m k = tids l k := fun k => by
    induction k with
    | zero => rfl
    | succ k ih =>
      rw [tids_succ, tids_succ, ih]
      by_cases hk : k < l.length
      · rw [h k hk]
      · rw [h2 k (by omega), List.getD, List.getElem?_eq_none (by omega)]; rfl
  have e2 : ∀ k, l.length ≤ k → tids m k = tids m l.length := fun k hk => by
    induction k with
    | zero => rw [show l.length = 0 by omega]
    | succ k ih =>
      by_cases hk2 : l.length = k + 1
      · rw [hk2]
      · rw [tids_succ, ih (by omega), h2 k (by omega)]; simp
  rw [e2 m.length hl, e]

structure Lives (s : St) (n : Int) : Prop where
  live1 : (takeSt s n).live = s.live + n
  e2 : giveE (takeSt s n) (takeId s n) = 0
  live2 : (giveSt (takeSt s n) (takeId s n)).live = s.live
  bl : tids (giveSt (takeSt s n) (takeId s n)).bl (giveSt (takeSt s n) (takeId s n)).bl.length = tids s.bl s.bl.length
  e3 : takeE (giveSt (takeSt s n) (takeId s n)) n = 0
  id3 : takeId (giveSt (takeSt s n) (takeId s n)) n = takeId s n
  laid3 : (takeSt (giveSt (takeSt s n) (takeId s n)) n).laid = (takeSt s n).laid
  live3 : (takeSt (giveSt (takeSt s n) (takeId s n)) n).live = s.live + n
theorem lives_pure {sp : Int} {s : St} (iv : Inv sp s) (n : Int) (h0 : 0 ≤ n) (h1 : n ≤ s.lim - s.live) : Lives s n := by
  by_cases hz : n = 0
  · subst hz
    have e1 : takeSt s 0 = s := by unfold takeSt; rw [if_neg (by omega), if_neg (by omega), if_pos rfl]
    have e2 : takeId s 0 = 0 := by unfold takeId; rw [if_neg (by omega), if_neg (by omega), if_pos rfl]
    have e3 : takeE s 0 = 0 := by unfold takeE; rw [if_neg (by omega), if_neg (by omega)]
    have g := give_zero s
    refine ⟨?_, ?_, ?_, ?_, ?_, ?_, ?_, ?_⟩
    · rw [e1]; omega
    · rw [e1, e2]; exact g.1
    · rw [e1, e2, g.2]
    · rw [e1, e2, g.2]
    · rw [e1, e2, g.2]; exact e3
    · rw [e1, e2, g.2]; exact e2
    · rw [e1, e2, g.2]; rw [e1]
    · rw [e1, e2, g.2, e1]; omega
  · have h2 : 1 ≤ n := by omega
    rcases List.eq_nil_or_concat (s.R n) with hR | ⟨zs, x, hR⟩
    · obtain ⟨a1, a2, a3⟩ := take_new h2 h1 hR
      have hlt : s.bl.length < (s.bl ++ [(n, true)]).length := by simp
      have hget : (s.bl ++ [(n, true)])[s.bl.length]'hlt = (n, true) := by simp
      have hg := give_at (s := { s with laid := s.laid + n, live := s.live + n, bl := s.bl ++ [(n, true)] }) hlt (by rw [hget])
      have g2 : giveSt { s with laid := s.laid + n, live := s.live + n, bl := s.bl ++ [(n, true)] } ((s.bl.length : Int) + 1) = { s with laid := s.laid + n, bl := s.bl ++ [(n, false)], R := upd s.R n [(s.bl.length : Int) + 1] } := by
        rw [hg.2]
        simp only [hget, hR, List.nil_append, setT_last]
        rw [Int.add_sub_cancel]
      obtain ⟨c1, c2, c3⟩ := take_old (s := { s with laid := s.laid + n, bl := s.bl ++ [(n, false)], R := upd s.R n [(s.bl.length : Int) + 1] }) (n := n) (zs := []) (k := s.bl.length) h2 h1 (by simp [upd])
      have ht : tids (s.bl ++ [(n, false)]) (s.bl ++ [(n, false)]).length = tids s.bl s.bl.length := by
        refine tids_same _ _ (by simp) (fun i hi => ?_) (fun i hi => ?_)
        · rw [List.getD, List.getElem?_append_left hi]; rfl
        · rw [List.getD, List.getElem?_append_right hi]
          by_cases hq : i - s.bl.length = 0
          · rw [hq]; rfl
          · rw [List.getElem?_eq_none (by simp; omega)]; rfl
      refine ⟨?_, ?_, ?_, ?_, ?_, ?_, ?_, ?_⟩
      · rw [a1]
      · rw [a1, a2]; exact hg.1
      · rw [a1, a2, g2]
      · rw [a1, a2, g2]; exact ht
      · rw [a1, a2, g2]; exact c3
      · rw [a1, a2, g2]; exact c2
      · rw [a1, a2, g2, c1]
      · rw [a1, a2, g2, c1]
    · rw [List.concat_eq_append] at hR
      obtain ⟨k, rfl, hk, hbk⟩ := iv.ids n x (by rw [hR]; simp)
      obtain ⟨a1, a2, a3⟩ := take_old h2 h1 hR
      have hlt : k < (setT s.bl k true).length := by rw [setT_len]; exact hk
      have hget : (setT s.bl k true)[k]'hlt = (n, true) := by rw [setT_get s.bl k k true hk hlt, if_pos rfl, hbk]
      have hg := give_at (s := { s with live := s.live + n, R := upd s.R n zs, bl := setT s.bl k true }) hlt (by rw [hget])
      have hss : setT (setT s.bl k true) k false = s.bl := by
        rw [setT_eq _ _ hlt, hget, setT_eq _ _ hk, List.set_set]
        apply List.ext_getElem
        · simp
        · intro i h3 h4
          by_cases hik : k = i
          · subst hik; rw [List.getElem_set_self, hbk]
          · rw [List.getElem_set_ne hik]
      have g2 : giveSt { s with live := s.live + n, R := upd s.R n zs, bl := setT s.bl k true } ((k : Int) + 1) = { s with R := upd (upd s.R n zs) n (zs ++ [(k : Int) + 1]) } := by
        rw [hg.2]
        have hu : upd s.R n zs n = zs := by simp [upd]
        simp only [hget, hu, hss]
        rw [Int.add_sub_cancel]
      obtain ⟨c1, c2, c3⟩ := take_old (s := { s with R := upd (upd s.R n zs) n (zs ++ [(k : Int) + 1]) }) (n := n) (zs := zs) (k := k) h2 h1 (by simp [upd])
      refine ⟨?_, ?_, ?_, ?_, ?_, ?_, ?_, ?_⟩
      · rw [a1]
      · rw [a1, a2]; exact hg.1
      · rw [a1, a2, g2]
      · rw [a1, a2, g2]
      · rw [a1, a2, g2]; exact c3
      · rw [a1, a2, g2]; exact c2
      · rw [a1, a2, g2, c1]
      · rw [a1, a2, g2, c1]
end Go.Proofs.Yteknjkofmkigoab.H
