/- A step of the scanner hangs on its own bytes, and on the first behind them (no program in it). -/
import Derived.Test.YtmejlldabdjpjaaGreatCg20
import Derived.Test.YtmejlldabdjpjaaGreatCg30
namespace Go.Proofs.YtmejlldabdjpjaaGreat
open Go.RowKit

theorem spn_nlB (l : List UInt8) : spn (fun r => decide (r ≠ 10)) l = (l.takeWhile fun c => decide (c.toNat ≠ 10)).length := by
  match l with
  | [] => rw [spn_nil]; rfl
  | c :: t =>
    by_cases h10 : c.toNat = 10
    · have := asc c t (by omega)
      rw [spn_no _ _ (by simp) (by rw [this.1]; simp [h10])]
      simp [h10]
    · have hr : rnL (c :: t) ≠ 10 := fun e => h10 (by have := rn_lt c t (by omega); omega)
      have hw := wdL_pos (c :: t)
      have hl := wdL_le (c :: t) (by simp)
      rw [spn_yes _ _ (by simp) (by simpa using hr)]
      have hall : ∀ x ∈ (c :: t).take (wdL (c :: t)), (decide (x.toNat ≠ 10)) = true := fun x hx => by
        rcases Nat.lt_or_ge c.toNat 128 with h1 | h1
        · have h2 := (asc c t h1).2
          rw [h2] at hx
          simp at hx; subst hx; simpa using h10
        · have := hi_bytes c t h1 x hx
          simp; omega
      have hsp : c :: t = (c :: t).take (wdL (c :: t)) ++ (c :: t).drop (wdL (c :: t)) := (List.take_append_drop _ _).symm
      have ih := spn_nlB ((c :: t).drop (wdL (c :: t)))
      rw [ih]
      conv => rhs; rw [hsp]
      rw [List.takeWhile_append_of_pos hall, List.length_append, List.length_take]
      omega
termination_by l.length
decreasing_by simp only [List.length_drop, List.length_cons] at *; omega
/-- A rune's bytes alone tell it, where it is one. -/
theorem dec_own (l : List UInt8) (n : Nat) (r' : List UInt8) (h0 : l ≠ []) (h1 : wdL l ≤ n) (hv : rnL l ≠ 65533) : wdL (l.take n ++ r') = wdL l ∧ rnL (l.take n ++ r') = rnL l := by
  have hle := wdL_le l h0
  have hpos := wdL_pos l
  exact decode_local ⟨l.toArray⟩ ⟨(l.take n ++ r').toArray⟩ 0 0 (by unfold okR; exact fun h => hv h.1) (by rw [sz_list, List.length_append, List.length_take]; show 0 + wdL l ≤ _; omega) (fun i hi => by
    rw [get_list, get_list]
    simp only [Nat.zero_add]
    have hi' : i < wdL l := hi
    rw [List.getD_eq_getElem?_getD, List.getD_eq_getElem?_getD, List.getElem?_append_left (by rw [List.length_take]; omega), List.getElem?_take_of_lt (by omega)])
theorem nm_fffd : inNm 65533 = false := by decide
/-- What may stand behind in place of what stood there. -/
def TL (r r' : List UInt8) : Prop := (r = [] ∧ r' = []) ∨ ∃ c c' s s', r = c :: s ∧ r' = c' :: s' ∧ ((c = c' ∧ rnL r' = rnL r) ∨ (c = 97 ∧ c' = 122))
theorem TL.nm {r r' : List UInt8} (h : TL r r') (k : spn inNm r = 0) : spn inNm r' = 0 := by
  rcases h with ⟨_, rfl⟩ | ⟨c, c', s, s', rfl, rfl, h⟩
  · exact spn_nil _
  · have hf : inNm (rnL (c :: s)) = false := by
      cases hf : inNm (rnL (c :: s))
      · rfl
      · have := spn_yes inNm (c :: s) (by simp) hf
        have := wdL_pos (c :: s)
        omega
    rcases h with ⟨rfl, h⟩ | ⟨rfl, rfl⟩
    · exact spn_no inNm _ (by simp) (by rw [h]; exact hf)
    · rw [(asc 97 s (by decide)).1] at hf
      exact absurd hf (by decide)
theorem spn_own (r' : List UInt8) (l : List UInt8) (h : TL (l.drop (spn inNm l)) r') : spn inNm (l.take (spn inNm l) ++ r') = spn inNm l := by
  by_cases hl : l = []
  · subst hl
    rw [spn_nil] at h ⊢
    exact h.nm (spn_nil _)
  · cases hf : inNm (rnL l)
    · have e := spn_no inNm l hl hf
      rw [e] at h ⊢
      exact h.nm (by rw [List.drop_zero, e])
    · have e := spn_yes inNm l hl hf
      have hw := wdL_le l hl
      have hp := wdL_pos l
      have hlp := List.length_pos_iff.2 hl
      have hd := dec_own l (spn inNm l) r' hl (by omega) (fun x => by rw [x, nm_fffd] at hf; cases hf)
      have hne : l.take (spn inNm l) ++ r' ≠ [] := fun x => by have := congrArg List.length x; rw [List.length_append, List.length_take] at this; simp only [List.length_nil] at this; omega
      have ih := spn_own r' (l.drop (wdL l)) (by rw [List.drop_drop]; rw [e] at h; exact h)
      rw [spn_yes inNm _ hne (by rw [hd.2]; exact hf), hd.1]
      have hs := spn_le inNm l
      rw [List.drop_append_of_le_length (by rw [List.length_take]; omega), List.drop_take, show spn inNm l - wdL l = spn inNm (l.drop (wdL l)) by omega, ih]
      exact e.symm
termination_by l.length
decreasing_by rw [List.length_drop]; omega
/-- A run at a list's head that ends within the first m. -/
theorem run_own (f : UInt8 → Bool) (r' : List UInt8) : ∀ (k m : Nat) (u : List UInt8), m ≤ u.length → ((u.take k).takeWhile f).length < m → ((u.take m ++ r').take k).takeWhile f = (u.take k).takeWhile f
  | 0, m, u, _, _ => by simp
  | k + 1, 0, u, _, h => by omega
  | k + 1, m + 1, [], h, _ => by simp at h
  | k + 1, m + 1, c :: u, h, hm => by
    simp only [List.take_succ_cons, List.cons_append, List.takeWhile_cons] at hm ⊢
    cases hf : f c
    · rfl
    · rw [hf] at hm
      simp only [if_true, List.length_cons] at hm ⊢
      rw [run_own f r' k m u (by simp only [List.length_cons] at h; omega) (by omega)]
theorem hxs_own (r' : List UInt8) (k m : Nat) (u : List UInt8) (h : m ≤ u.length) (hm : (hxs k u).length < m) : hxs k (u.take m ++ r') = hxs k u := run_own _ r' k m u h hm
theorem dgs_own (r' : List UInt8) (k m : Nat) (u : List UInt8) (h : m ≤ u.length) (hm : (dgs k u).length < m) : dgs k (u.take m ++ r') = dgs k u := run_own _ r' k m u h hm
theorem esc_own (r' : List UInt8) (m : Nat) (u : List UInt8) (h : m ≤ u.length) (h0 : (esc u).2 ≠ 0) (hm : (esc u).2 < m) : esc (u.take m ++ r') = esc u := by
  match u, m with
  | [], _ => simp [esc] at h0
  | c :: u, 0 => omega
  | c :: u, m + 1 =>
    simp only [List.length_cons] at h
    show esc (c :: (u.take m ++ r')) = esc (c :: u)
    simp only [esc] at h0 hm ⊢
    split
    · rfl
    split
    · rfl
    split
    · rfl
    split
    · rfl
    rename_i h1 h2 h3 h4
    rw [if_neg h1, if_neg h2, if_neg h3, if_neg h4] at h0 hm
    split
    · rename_i hx
      rw [if_pos hx] at h0 hm
      unfold escX at h0 hm ⊢
      by_cases h2 : (hxs 2 u).length = 2
      · rw [if_pos h2] at hm
        simp only at hm
        rw [hxs_own r' 2 m u (by omega) (by omega)]
      · rw [if_neg h2] at h0; simp at h0
    rename_i hx
    rw [if_neg hx] at h0 hm
    split
    · rename_i hu
      rw [if_pos hu] at h0 hm
      unfold escU at h0 hm
      split at h0
      · rename_i hc
        rw [if_pos hc] at hm
        simp only at hm
        obtain ⟨a1, a2, a3, a4⟩ := hc
        cases u with
        | nil => simp at a1
        | cons d u =>
          cases m with
          | zero => omega
          | succ m =>
            simp only [List.length_cons] at h
            simp only [List.drop_one, List.tail_cons] at hm a2 a3 a4
            have e1 : hxs 8 (u.take m ++ r') = hxs 8 u := hxs_own r' 8 m u (by omega) (by omega)
            unfold escU
            have e2 : ((d :: u).take (m + 1) ++ r').headD 0 = (d :: u).headD 0 := rfl
            have e3 : ((d :: u).take (m + 1) ++ r').drop 1 = u.take m ++ r' := rfl
            have e4 : (((d :: u).take (m + 1) ++ r').drop (1 + (hxs 8 u).length)).headD 0 = ((d :: u).drop (1 + (hxs 8 u).length)).headD 0 := by
              rw [Nat.add_comm 1]
              show ((u.take m ++ r').drop (hxs 8 u).length).headD 0 = (u.drop (hxs 8 u).length).headD 0
              have hlt : (hxs 8 u).length < u.length := by omega
              rw [List.drop_append_of_le_length (by rw [List.length_take]; omega)]
              rw [List.drop_take]
              obtain ⟨y, ys, hy⟩ : ∃ y ys, u.drop (hxs 8 u).length = y :: ys := by
                cases hq : u.drop (hxs 8 u).length with
                | nil => have := congrArg List.length hq; simp at this; omega
                | cons y ys => exact ⟨y, ys, rfl⟩
              obtain ⟨j, hj⟩ : ∃ j, m - (hxs 8 u).length = j + 1 := ⟨m - (hxs 8 u).length - 1, by omega⟩
              rw [hy, hj]; rfl
            rw [e2, e3, e1, e4]
            rfl
      · simp at h0
    · rename_i hu
      rw [if_neg hu] at h0 hm
      unfold escD at h0 hm
      split at h0
      · simp at h0
      · rename_i hc
        rw [if_neg hc] at hm
        simp only at hm
        have e := dgs_own r' 3 (m + 1) (c :: u) (by simp; omega) hm
        unfold escD
        rw [show c :: (u.take m ++ r') = (c :: u).take (m + 1) ++ r' from rfl, e]
theorem qt_own (q : UInt8) (r' : List UInt8) (l : List UInt8) (i : Nat) (acc v : List UInt8) (n : Nat) (h : qt q l i acc = .ok v n) : qt q (l.take (n - i) ++ r') i acc = .ok v n := by
  have hle := qt_le q l i acc v n h
  match l with
  | [] => rw [qt_nil] at h; cases h
  | c :: t =>
    simp only [List.length_cons] at hle
    obtain ⟨m, hm⟩ : ∃ m, n - i = m + 1 := ⟨n - i - 1, by omega⟩
    rw [hm, List.take_succ_cons, List.cons_append]
    rw [qt] at h ⊢
    split at h
    · cases h
    · rename_i h10
      rw [if_neg h10]
      split at h
      · rename_i hq; rw [if_pos hq]; exact h
      · rename_i hq
        rw [if_neg hq]
        split at h
        · rename_i h92
          rw [if_pos h92]
          split at h
          · cases h
          · rename_i hu
            split at h
            · cases h
            · rename_i h0
              have h2 := qt_le q _ _ _ v n h
              have hk := (esc_take t).1
              rw [List.length_drop] at h2
              have he := esc_own r' m t (by omega) h0 (by omega)
              have hne : t.take m ++ r' ≠ [] := fun e => by have := congrArg List.length e; rw [List.length_append, List.length_take] at this; simp only [List.length_nil] at this; omega
              rw [if_neg hne, he, if_neg h0]
              have ih := qt_own q r' (t.drop (esc t).2) _ _ v n h
              rw [List.drop_append_of_le_length (by rw [List.length_take]; omega), List.drop_take]
              rw [show n - (i + 1 + (esc t).2) = m - (esc t).2 by omega] at ih
              exact ih
        · rename_i h92
          rw [if_neg h92]
          have ih := qt_own q r' t _ _ v n h
          rw [show n - (i + 1) = m by omega] at ih
          exact ih
termination_by l.length
decreasing_by all_goals (simp; try omega)
theorem tw_len {f : UInt8 → Bool} : ∀ l : List UInt8, l.take (l.takeWhile f).length = l.takeWhile f
  | [] => rfl
  | c :: l => by
    cases h : f c
    · simp [h]
    · simp [h, tw_len l]
theorem tw_rest {f : UInt8 → Bool} : ∀ l : List UInt8, ∀ c s, l.drop (l.takeWhile f).length = c :: s → f c = false
  | [], c, s, h => by simp at h
  | d :: l, c, s, h => by
    cases hd : f d
    · simp [hd] at h; obtain ⟨rfl, -⟩ := h; exact hd
    · simp [hd] at h; exact tw_rest l c s h
theorem nl_own (l r' : List UInt8) (h : TL (l.drop (l.takeWhile fun c => decide (c.toNat ≠ 10)).length) r') : ((l.take (l.takeWhile fun c => decide (c.toNat ≠ 10)).length ++ r').takeWhile fun c => decide (c.toNat ≠ 10)).length = (l.takeWhile fun c => decide (c.toNat ≠ 10)).length := by
  rw [tw_len, List.takeWhile_append_of_pos fun a ha => (List.all_eq_true.1 List.all_takeWhile) a ha]
  rcases h with ⟨_, rfl⟩ | ⟨c, c', s, s', h1, rfl, h2⟩
  · simp
  · have h3 := tw_rest l c s h1
    have h4 : c = c' := by
      rcases h2 with h2 | ⟨rfl, _⟩
      · exact h2.1
      · simp at h3
    subst h4
    simp only [List.takeWhile_cons, h3]
    simp
theorem pre45b (c : UInt8) (l : List UInt8) (h : c ≠ 45) : Lib.hasPrefix (c :: l) [45, 45] = false := by
  have h' : ((45 : UInt8) == c) = false := by simpa using fun e => h e.symm
  unfold Lib.hasPrefix
  rw [List.isPrefixOf_cons_cons, h']; rfl
theorem sgz_hi (c : UInt8) (t : List UInt8) (h : 128 ≤ c.toNat) : sgz (c :: t) = 0 := by
  unfold sgz
  have n1 : ∀ x : UInt8, x.toNat < 128 → c ≠ x := fun x hx e => by subst e; omega
  have h2 : sgn2.contains ((c :: t).take 2) = false := by
    simp [sgn2, List.take_succ_cons, n1 61 (by decide), n1 126 (by decide), n1 60 (by decide), n1 62 (by decide), n1 47 (by decide), n1 46 (by decide)]
  have h1 : sgn1.contains c = false := by
    simp [sgn1, n1 43 (by decide), n1 45 (by decide), n1 42 (by decide), n1 37 (by decide), n1 60 (by decide), n1 62 (by decide), n1 61 (by decide), n1 35 (by decide), n1 40 (by decide), n1 41 (by decide), n1 123 (by decide), n1 125 (by decide), n1 91 (by decide), n1 93 (by decide), n1 59 (by decide), n1 44 (by decide), n1 46 (by decide)]
  rw [h2, if_neg (by simp), List.headD_cons, h1, if_neg (by simp)]
theorem sgz_own (c : UInt8) (t r' : List UInt8) (h0 : sgz (c :: t) ≠ 0) (h : TL ((c :: t).drop (sgz (c :: t))) r') : sgz ((c :: t).take (sgz (c :: t)) ++ r') = sgz (c :: t) := by
  have h12 := sgz_le (c :: t)
  by_cases h2 : sgz (c :: t) = 2
  · rw [h2] at h h12 ⊢
    obtain ⟨d, u, rfl⟩ : ∃ d u, t = d :: u := by
      cases t with
      | nil => simp at h12
      | cons d u => exact ⟨d, u, rfl⟩
    exact h2
  · have h1 : sgz (c :: t) = 1 := by omega
    rw [h1] at h ⊢
    have e2 : sgn2.contains ((c :: t).take 2) = false := by
      cases e : sgn2.contains ((c :: t).take 2)
      · rfl
      · unfold sgz at h1; rw [e, if_pos rfl] at h1; omega
    have e1 : sgn1.contains c = true := by
      unfold sgz at h1; rw [e2, if_neg (by simp)] at h1
      cases e : sgn1.contains c
      · rw [List.headD_cons, e] at h1; simp at h1
      · rfl
    have e3 : sgn2.contains ((c :: r').take 2) = false := by
      simp only [List.drop_one, List.tail_cons] at h
      rcases h with ⟨rfl, rfl⟩ | ⟨a, a', s, s', rfl, rfl, h⟩
      · exact e2
      · rcases h with ⟨rfl, _⟩ | ⟨rfl, rfl⟩
        · exact e2
        · simp [sgn2]
    show sgz (c :: r') = 1
    unfold sgz
    rw [e3, if_neg (by simp), List.headD_cons, e1, if_pos rfl]
theorem tok_n {X : St} {k : Int} {t : List UInt8} {v : Int} {n n' : Nat} (h : X = .tok k t v n) (hn : X = .skip n' ∨ ∃ k t v, X = .tok k t v n') : n = n' := by
  rcases hn with e | ⟨k', t', v', e⟩
  · rw [h] at e; cases e
  · rw [h] at e; injection e
theorem skip_n {X : St} {n n' : Nat} (h : X = .skip n) (hn : X = .skip n' ∨ ∃ k t v, X = .tok k t v n') : n = n' := by
  rcases hn with e | ⟨k', t', v', e⟩
  · rw [h] at e; injection e
  · rw [h] at e; cases e
/-- A step hangs on its own bytes and the first behind them. -/
theorem stp_own (l r' : List UInt8) (hl : l ≠ []) (n : Nat) (hn : stp l = .skip n ∨ ∃ k t v, stp l = .tok k t v n) (ht : TL (l.drop n) r') : stp (l.take n ++ r') = stp l := by
  have hp : 1 ≤ n ∧ n ≤ l.length := by
    rcases hn with h | ⟨k, t, v, h⟩
    · exact (stp_pos l hl).1 n h
    · exact (stp_pos l hl).2 k t v n h
  have hg : ∀ c o, stp l ≠ .bad c o := fun c o e => by rcases hn with h | ⟨k, t, v, h⟩ <;> rw [h] at e <;> cases e
  obtain ⟨c, t, rfl⟩ : ∃ c t, l = c :: t := by
    cases l with
    | nil => exact absurd rfl hl
    | cons c t => exact ⟨c, t, rfl⟩
  obtain ⟨m, rfl⟩ : ∃ m, n = m + 1 := ⟨n - 1, by omega⟩
  have hT : (c :: t).take (m + 1) ++ r' = c :: (t.take m ++ r') := rfl
  by_cases hblk : rnL (c :: t) = 32 ∨ rnL (c :: t) = 9 ∨ rnL (c :: t) = 10 ∨ rnL (c :: t) = 13
  · have ha := (rn_lt c t (by omega)).1
    have hb := (asc c (t.take m ++ r') (by omega)).1
    rw [hT, stp_blank _ _ rfl hblk, stp_blank _ (rnL (c :: t)) (by rw [hb]; exact ha) hblk]
  · cases hpre : Lib.hasPrefix (c :: t) [45, 45]
    · have hname : letB (rnL (c :: t)) = true → stp ((c :: t).take (m + 1) ++ r') = stp (c :: t) := fun hle => by
        have e1 := stp_name _ _ rfl hblk hpre hle
        have h40 : ¬ 40 < spn inNm (c :: t) := fun h => hg _ _ (by rw [e1, if_pos h])
        rw [if_neg h40] at e1
        have hsp : spn inNm (c :: t) = m + 1 := tok_n e1 hn
        have hnm : inNm (rnL (c :: t)) = true := by unfold inNm; rw [hle]; rfl
        have hd := dec_own (c :: t) (m + 1) r' (by simp) (by rw [← hsp, spn_yes inNm _ (by simp) hnm]; omega) (fun x => by rw [x, nm_fffd] at hnm; cases hnm)
        have ho := spn_own r' (c :: t) (by rw [hsp]; exact ht)
        rw [hsp] at ho
        have h45 : c ≠ 45 := by rintro rfl; rw [(asc 45 t (by decide)).1] at hle; exact absurd hle (by decide)
        have e2 := stp_name ((c :: t).take (m + 1) ++ r') _ hd.2 hblk (pre45b c _ h45) hle
        rw [ho, if_neg (by omega), List.take_append_of_le_length (by rw [List.length_take]; omega), List.take_take, Nat.min_self] at e2
        rw [e2, e1, hsp]
      cases hle : letB (rnL (c :: t))
      · have hc : c.toNat < 128 := by
          rcases Nat.lt_or_ge c.toNat 128 with h | h
          · exact h
          · exfalso
            have a := hi c t h
            have hd : digB (rnL (c :: t)) = false := by unfold digB; simp; omega
            exact hg 4 0 (by rw [stp_sign _ _ rfl hblk hpre hle hd (by omega), if_pos (sgz_hi c t h)])
        have a1 := (asc c t hc).1
        have a2 := (asc c (t.take m ++ r') hc).1
        have hr : rnL (c :: (t.take m ++ r')) = rnL (c :: t) := a2.trans a1.symm
        cases hdi : digB (rnL (c :: t))
        · by_cases hq : rnL (c :: t) = 39 ∨ rnL (c :: t) = 34
          · have h45 : c ≠ 45 := by rintro rfl; rw [a1] at hq; simp at hq
            have e1 := stp_quote _ _ rfl hblk hpre hle hdi hq
            have e2 := stp_quote _ _ hr hblk (pre45b c _ h45) hle hdi hq
            simp only [List.headD_cons, List.drop_one, List.tail_cons] at e1 e2
            cases hqt : qt c t 1 [] with
            | ok v n =>
              rw [hqt] at e1
              have hmn : n = m + 1 := by
                rcases hn with h | ⟨k, t', v, h⟩ <;> rw [e1] at h <;> cases h
                rfl
              subst hmn
              have ho := qt_own c r' t 1 [] v (m + 1) hqt
              rw [Nat.add_sub_cancel] at ho
              rw [ho] at e2
              rw [hT, e2, e1]
            | bad d o =>
              rw [hqt] at e1
              exact absurd e1 (hg d o)
          · have e1 := stp_sign _ _ rfl hblk hpre hle hdi hq
            have h0 : sgz (c :: t) ≠ 0 := fun h => hg _ _ (by rw [e1, if_pos h])
            rw [if_neg h0] at e1
            have hsp : sgz (c :: t) = m + 1 := tok_n e1 hn
            have ho := sgz_own c t r' h0 (by rw [hsp]; exact ht)
            rw [hsp] at ho
            have hpre2 : Lib.hasPrefix (c :: (t.take m ++ r')) [45, 45] = false := by
              by_cases h45 : c = 45
              · subst h45
                have hm0 : m = 0 := by
                  have : sgz (45 :: t) ≠ 2 := fun h => by
                    unfold sgz at h
                    split at h
                    · rename_i h2
                      cases t with
                      | nil => simp [sgn2] at h2
                      | cons d u => simp [sgn2] at h2
                    · split at h <;> omega
                  have := (sgz_le (45 :: t)).1
                  omega
                subst hm0
                simp only [List.take_zero, List.nil_append, Nat.zero_add, List.drop_one, List.tail_cons] at ht ⊢
                rcases ht with ⟨rfl, rfl⟩ | ⟨a, a', s, s', rfl, rfl, h⟩
                · exact hpre
                · have ha : a ≠ 45 := by rintro rfl; simp [Lib.hasPrefix, List.isPrefixOf] at hpre
                  have ha' : a' ≠ 45 := by
                    rcases h with ⟨rfl, _⟩ | ⟨rfl, rfl⟩
                    · exact ha
                    · decide
                  have : ((45 : UInt8) == a') = false := by simpa using fun e => ha' e.symm
                  simp [Lib.hasPrefix, List.isPrefixOf, this]
              · exact pre45b c _ h45
            have e2 := stp_sign _ _ hr hblk hpre2 hle hdi hq
            rw [hT] at ho
            rw [ho, if_neg (by omega)] at e2
            rw [hT, e2, e1, hsp, List.take_succ_cons, List.take_succ_cons, List.take_append_of_le_length (by rw [List.length_take]; simp only [List.length_cons] at hp; omega), List.take_take, Nat.min_self]
        · have e1 := stp_number _ _ rfl hblk hpre hle hdi
          have h0 : ¬ W.parE ((c :: t).take (spn inNm (c :: t))) ≠ 0 := fun h => hg _ _ (by rw [e1, if_pos h])
          rw [if_neg h0] at e1
          have hsp : spn inNm (c :: t) = m + 1 := tok_n e1 hn
          have ho := spn_own r' (c :: t) (by rw [hsp]; exact ht)
          rw [hsp] at ho h0
          have h45 : c ≠ 45 := by rintro rfl; rw [a1] at hdi; exact absurd hdi (by decide)
          have e2 := stp_number ((c :: t).take (m + 1) ++ r') _ hr hblk (pre45b c _ h45) hle hdi
          rw [ho, List.take_append_of_le_length (by rw [List.length_take]; omega), List.take_take, Nat.min_self, if_neg h0] at e2
          rw [e2, e1, hsp]
      · exact hname hle
    · have hd : ∃ u, t = 45 :: u ∧ c = 45 := by
        cases t with
        | nil => simp [Lib.hasPrefix, List.isPrefixOf] at hpre
        | cons d u => simp [Lib.hasPrefix, List.isPrefixOf] at hpre; exact ⟨u, by rw [hpre.2], hpre.1.symm⟩
      obtain ⟨u, rfl, rfl⟩ := hd
      have e1 := stp_comment _ _ rfl hblk hpre
      rw [spn_nlB] at e1
      have hsp : ((45 :: 45 :: u).takeWhile fun c => decide (c.toNat ≠ 10)).length = m + 1 := skip_n e1 hn
      have ho := nl_own (45 :: 45 :: u) r' (by rw [hsp]; exact ht)
      rw [hsp] at ho e1
      have hm1 : ∃ j, m = j + 1 := by
        simp at hsp
        exact ⟨m - 1, by omega⟩
      obtain ⟨j, rfl⟩ := hm1
      have hr : rnL ((45 :: 45 :: u).take (j + 1 + 1) ++ r') = rnL (45 :: 45 :: u) := ((asc 45 _ (by decide)).1).trans ((asc 45 _ (by decide)).1).symm
      rw [stp_comment _ _ hr hblk (by simp [Lib.hasPrefix, List.isPrefixOf]), spn_nlB, ho, e1]
end Go.Proofs.YtmejlldabdjpjaaGreat

/- A text with each name a written zzz: its tokens (no program in it). -/
namespace Go.Proofs.YtmejlldabdjpjaaGreat
open Go.RowKit

def zzz : List UInt8 := [122, 122, 122]
def ren (t : List UInt8) : List UInt8 := if t = [97] then zzz else t
/-- The text written anew. -/
def rnS (l : List UInt8) : List UInt8 :=
  match l with
  | [] => []
  | c :: u =>
    match stp (c :: u) with
    | .skip n => (c :: u).take n ++ rnS (u.drop (n - 1))
    | .tok k t _ n => (if k = 1 ∧ t = [97] then zzz else (c :: u).take n) ++ rnS (u.drop (n - 1))
    | .bad _ _ => c :: u
termination_by l.length
decreasing_by all_goals (simp; try omega)
theorem rnS_nil : rnS [] = [] := by rw [rnS]
theorem rnS_skip {l : List UInt8} (hl : l ≠ []) {n : Nat} (h : stp l = .skip n) : rnS l = l.take n ++ rnS (l.drop n) := by
  have hp := ((stp_pos l hl).1 n h).1
  match l, hl with
  | c :: u, _ => rw [rnS, h]; simp only; rw [drop_wd c u n hp]
theorem rnS_tok {l : List UInt8} (hl : l ≠ []) {k : Int} {t : List UInt8} {v : Int} {n : Nat} (h : stp l = .tok k t v n) : rnS l = (if k = 1 ∧ t = [97] then zzz else l.take n) ++ rnS (l.drop n) := by
  have hp := ((stp_pos l hl).2 k t v n h).1
  match l, hl with
  | c :: u, _ => rw [rnS, h]; simp only; rw [drop_wd c u n hp]
theorem rnS_bad {l : List UInt8} (hl : l ≠ []) {c : Int} {o : Nat} (h : stp l = .bad c o) : rnS l = l := by
  match l, hl with
  | x :: u, _ => rw [rnS, h]
/-- The first rune of a step lies within its bytes. -/
theorem rn_own (l : List UInt8) (hl : l ≠ []) (n : Nat) (hn : stp l = .skip n ∨ ∃ k t v, stp l = .tok k t v n) (r' : List UInt8) : rnL (l.take n ++ r') = rnL l := by
  have hp : 1 ≤ n := by
    rcases hn with h | ⟨k, t, v, h⟩
    · exact ((stp_pos l hl).1 n h).1
    · exact ((stp_pos l hl).2 k t v n h).1
  obtain ⟨c, t, rfl⟩ : ∃ c t, l = c :: t := by
    cases l with
    | nil => exact absurd rfl hl
    | cons c t => exact ⟨c, t, rfl⟩
  obtain ⟨m, rfl⟩ : ∃ m, n = m + 1 := ⟨n - 1, by omega⟩
  rcases Nat.lt_or_ge c.toNat 128 with h | h
  · rw [show (c :: t).take (m + 1) ++ r' = c :: (t.take m ++ r') from rfl, (asc c _ h).1, (asc c _ h).1]
  · have a := hi c t h
    have p45 : c ≠ 45 := by rintro rfl; simp at h
    cases hle : letB (rnL (c :: t))
    · exfalso
      have hd : digB (rnL (c :: t)) = false := by unfold digB; simp; omega
      have e := stp_sign _ _ rfl (by omega) (pre45b c t p45) hle hd (by omega)
      rw [if_pos (sgz_hi c t h)] at e
      rcases hn with h | ⟨k, t', v, h⟩ <;> rw [e] at h <;> cases h
    · have e := stp_name _ _ rfl (by omega) (pre45b c t p45) hle
      by_cases h40 : 40 < spn inNm (c :: t)
      · rw [if_pos h40] at e
        rcases hn with h | ⟨k, t', v, h⟩ <;> rw [e] at h <;> cases h
      · rw [if_neg h40] at e
        have hsp := tok_n e hn
        have hnm : inNm (rnL (c :: t)) = true := by unfold inNm; rw [hle]; rfl
        exact (dec_own (c :: t) (m + 1) r' (by simp) (by rw [← hsp, spn_yes inNm _ (by simp) hnm]; omega) (fun x => by rw [x, nm_fffd] at hnm; cases hnm)).2
/-- The name a, as a token. -/
theorem tok_a {l : List UInt8} (hl : l ≠ []) {v : Int} {n : Nat} (h : stp l = .tok 1 [97] v n) : v = 0 ∧ n = 1 ∧ ∃ u, l = 97 :: u ∧ spn inNm u = 0 := by
  obtain ⟨c, t, rfl⟩ : ∃ c t, l = c :: t := by
    cases l with
    | nil => exact absurd rfl hl
    | cons c t => exact ⟨c, t, rfl⟩
  have hp := (stp_pos _ hl).2 _ _ _ _ h
  have ht := (stp_tok _ hl _ _ _ _ h).2.1 (by decide)
  have hc : c = 97 ∧ n = 1 := by
    obtain ⟨m, rfl⟩ : ∃ m, n = m + 1 := ⟨n - 1, by omega⟩
    rw [List.take_succ_cons] at ht
    injection ht with h1 h2
    have := congrArg List.length h2
    rw [List.length_take] at this
    simp only [List.length_nil, List.length_cons] at this hp
    exact ⟨h1.symm, by omega⟩
  obtain ⟨rfl, rfl⟩ := hc
  have a := (asc 97 t (by decide))
  have e := stp_name (97 :: t) _ a.1 (by decide) (pre45b 97 t (by decide)) (by decide)
  by_cases h40 : 40 < spn inNm (97 :: t)
  · rw [if_pos h40, h] at e; cases e
  · rw [if_neg h40] at e
    have hsp : spn inNm (97 :: t) = 1 := tok_n e (.inr ⟨_, _, _, h⟩)
    rw [h] at e
    injection e with e1 e2 e3 e4
    refine ⟨e3, rfl, t, rfl, ?_⟩
    have := spn_yes inNm (97 :: t) (by simp) (by rw [a.1]; decide)
    rw [a.2, List.drop_one, List.tail_cons] at this
    omega
theorem stp_zzz (r : List UInt8) (h : spn inNm r = 0) : stp (zzz ++ r) = .tok 1 zzz 0 3 := by
  have s1 : ∀ u, spn inNm (122 :: u) = 1 + spn inNm u := fun u => by
    have a := asc 122 u (by decide)
    have := spn_yes inNm (122 :: u) (by simp) (by rw [a.1]; decide)
    rw [a.2, List.drop_one, List.tail_cons] at this
    exact this
  have e : spn inNm (zzz ++ r) = 3 := by
    show spn inNm (122 :: 122 :: 122 :: r) = 3
    rw [s1, s1, s1, h]
  have a := (asc 122 (122 :: 122 :: r) (by decide)).1
  rw [stp_name (zzz ++ r) _ a (by decide) (pre45b 122 _ (by decide)) (by decide), e, if_neg (by decide)]
  rfl
theorem TL.rnS (r : List UInt8) : TL r (rnS r) := by
  by_cases hl : r = []
  · subst hl; rw [rnS_nil]; exact .inl ⟨rfl, rfl⟩
  · have key : ∀ n, (stp r = .skip n ∨ ∃ k t v, stp r = .tok k t v n) → TL r (r.take n ++ Go.Proofs.YtmejlldabdjpjaaGreat.rnS (r.drop n)) := fun n hn => by
      have h := rn_own r hl n hn (Go.Proofs.YtmejlldabdjpjaaGreat.rnS (r.drop n))
      have hp : 1 ≤ n := by
        rcases hn with h | ⟨k, t, v, h⟩
        · exact ((stp_pos r hl).1 n h).1
        · exact ((stp_pos r hl).2 k t v n h).1
      obtain ⟨c, t, rfl⟩ : ∃ c t, r = c :: t := by
        cases r with
        | nil => exact absurd rfl hl
        | cons c t => exact ⟨c, t, rfl⟩
      obtain ⟨m, rfl⟩ : ∃ m, n = m + 1 := ⟨n - 1, by omega⟩
      exact .inr ⟨c, c, t, t.take m ++ Go.Proofs.YtmejlldabdjpjaaGreat.rnS ((c :: t).drop (m + 1)), rfl, rfl, .inl ⟨rfl, h⟩⟩
    cases hs : stp r with
    | skip n => rw [rnS_skip hl hs]; exact key n (.inl hs)
    | tok k t v n =>
      rw [rnS_tok hl hs]
      by_cases ha : k = 1 ∧ t = [97]
      · obtain ⟨rfl, rfl⟩ := ha
        obtain ⟨_, _, u, rfl, _⟩ := tok_a hl hs
        rw [if_pos ⟨rfl, rfl⟩]
        exact .inr ⟨97, 122, u, _, rfl, rfl, .inr ⟨rfl, rfl⟩⟩
      · rw [if_neg ha]; exact key n (.inr ⟨k, t, v, hs⟩)
    | bad c o =>
      rw [rnS_bad hl hs]
      obtain ⟨c, t, rfl⟩ : ∃ c t, r = c :: t := by
        cases r with
        | nil => exact absurd rfl hl
        | cons c t => exact ⟨c, t, rfl⟩
      exact .inr ⟨c, c, t, t, rfl, rfl, .inl ⟨rfl, rfl⟩⟩
/-- A token and the like one of the text written anew. -/
structure RT (t t' : Tok) : Prop where
  k : t'.k = t.k
  v : t'.v = t.v
  t : t'.t = if t.k = 1 then ren t.t else t.t
def L2 : List Tok → List Tok → Prop
  | [], [] => True
  | t :: l, t' :: l' => RT t t' ∧ L2 l l'
  | _, _ => False
theorem scn_ren : ∀ (m : Nat) (l : List UInt8) (p p' : Nat) (acc : List Tok), l.length ≤ m → ∀ ts, scn l p acc = .ok ts → ∃ us us', ts = acc ++ us ∧ (∀ acc', scn (rnS l) p' acc' = .ok (acc' ++ us')) ∧ L2 us us'
  | m, l, p, p', acc, hm, ts, h => by
    by_cases hl : l = []
    · subst hl
      rw [scn_nil] at h
      injection h with h
      exact ⟨[⟨6, [], 0, p⟩], [⟨6, [], 0, p'⟩], h.symm, fun acc' => by rw [rnS_nil, scn_nil], ⟨⟨rfl, rfl, rfl⟩, trivial⟩⟩
    · have hne : ∀ (a b : List UInt8), a ≠ [] → a ++ b ≠ [] := fun a b h e => h (List.append_eq_nil_iff.1 e).1
      have hlp := List.length_pos_iff.2 hl
      match m with
      | 0 => omega
      | m + 1 =>
        cases hs : stp l with
        | skip n =>
          have hp := (stp_pos l hl).1 n hs
          have htn : l.take n ≠ [] := fun e => by have := congrArg List.length e; rw [List.length_take] at this; simp only [List.length_nil] at this; omega
          rw [scn_skip hl hs] at h
          obtain ⟨us, us', h1, h2, h3⟩ := scn_ren m (l.drop n) (p + n) (p' + n) acc (by rw [List.length_drop]; omega) ts h
          refine ⟨us, us', h1, fun acc' => ?_, h3⟩
          have ho := (stp_own l _ hl n (.inl hs) (TL.rnS _)).trans hs
          rw [rnS_skip hl hs, scn_skip (hne _ _ htn) ho, List.drop_append_of_le_length (by rw [List.length_take]; omega), List.drop_take, Nat.sub_self, List.take_zero, List.nil_append]
          exact h2 acc'
        | tok k t v n =>
          have hp := (stp_pos l hl).2 k t v n hs
          rw [scn_tok hl hs] at h
          by_cases ha : k = 1 ∧ t = [97]
          · obtain ⟨rfl, rfl⟩ := ha
            obtain ⟨rfl, rfl, u, rfl, hu⟩ := tok_a hl hs
            obtain ⟨us, us', h1, h2, h3⟩ := scn_ren m ((97 :: u).drop 1) (p + 1) (p' + 3) (acc ++ [⟨1, [97], 0, p⟩]) (by rw [List.length_drop]; omega) ts h
            refine ⟨⟨1, [97], 0, p⟩ :: us, ⟨1, zzz, 0, p'⟩ :: us', by rw [h1]; simp, fun acc' => ?_, ⟨rfl, rfl, rfl⟩, h3⟩
            have hz := (TL.rnS u).nm hu
            rw [rnS_tok hl hs, if_pos ⟨rfl, rfl⟩]
            simp only [List.drop_one, List.tail_cons] at h2 ⊢
            rw [scn_tok (by simp [zzz]) (stp_zzz _ hz), show (zzz ++ rnS u).drop 3 = rnS u from rfl, h2]
            simp
          · have htn : l.take n ≠ [] := fun e => by have := congrArg List.length e; rw [List.length_take] at this; simp only [List.length_nil] at this; omega
            obtain ⟨us, us', h1, h2, h3⟩ := scn_ren m (l.drop n) (p + n) (p' + n) (acc ++ [⟨k, t, v, p⟩]) (by rw [List.length_drop]; omega) ts h
            refine ⟨⟨k, t, v, p⟩ :: us, ⟨k, t, v, p'⟩ :: us', by rw [h1]; simp, fun acc' => ?_, ⟨rfl, rfl, ?_⟩, h3⟩
            · have ho := (stp_own l _ hl n (.inr ⟨k, t, v, hs⟩) (TL.rnS _)).trans hs
              rw [rnS_tok hl hs, if_neg ha, scn_tok (hne _ _ htn) ho, List.drop_append_of_le_length (by rw [List.length_take]; omega), List.drop_take, Nat.sub_self, List.take_zero, List.nil_append, h2]
              simp
            · show t = if k = 1 then ren t else t
              unfold ren
              split
              · rename_i hk
                rw [if_neg fun e => ha ⟨hk, e⟩]
              · rfl
        | bad c o => rw [scn_bad hl hs] at h; cases h
def isA (t : Tok) : Prop := t.k = 1 ∧ t.t = [97]
instance (t : Tok) : Decidable (isA t) := inferInstanceAs (Decidable (_ ∧ _))
/-- The text written anew, by its tokens, from a place on. -/
def rw (s : List UInt8) : List Tok → Nat → List UInt8
  | [], a => s.drop a
  | t :: ts, a => if isA t then (s.drop a).take (t.p - a) ++ (zzz ++ rw s ts (t.p + 1)) else rw s ts a
def gp (s : List UInt8) : List Tok → Nat → Prop
  | [], a => a ≤ s.length
  | t :: ts, a => a ≤ t.p ∧ t.p ≤ s.length ∧ (isA t → t.p + 1 ≤ s.length) ∧ gp s ts (if isA t then t.p + 1 else a)
theorem rw_rnS (s : List UInt8) : ∀ (m p : Nat) (acc : List Tok), s.length - p ≤ m → p ≤ s.length → ∀ ts, scn (s.drop p) p acc = .ok ts → ∃ us, ts = acc ++ us ∧ ∀ a, a ≤ p → gp s us a ∧ rw s us a = (s.drop a).take (p - a) ++ rnS (s.drop p)
  | m, p, acc, hm, hp, ts, h => by
    have tk : ∀ a n, a ≤ p → (s.drop a).take (p + n - a) = (s.drop a).take (p - a) ++ (s.drop p).take n := fun a n ha => by
      rw [show p + n - a = (p - a) + n by omega, List.take_add, List.drop_drop, show a + (p - a) = p by omega]
    by_cases hl : s.drop p = []
    · have hpl : p = s.length := by have := congrArg List.length hl; rw [List.length_drop] at this; simp only [List.length_nil] at this; omega
      rw [hl, scn_nil] at h
      injection h with h
      refine ⟨[⟨6, [], 0, p⟩], h.symm, fun a ha => ⟨⟨ha, hp, fun x => absurd x.1 (show ¬ (6 : Int) = 1 by decide), ?_⟩, ?_⟩⟩
      · rw [if_neg fun x => absurd x.1 (show ¬ (6 : Int) = 1 by decide)]; show a ≤ s.length; omega
      · rw [hl, rnS_nil, List.append_nil]
        show (if isA _ then _ else s.drop a) = _
        rw [if_neg fun x => absurd x.1 (show ¬ (6 : Int) = 1 by decide), List.take_of_length_le (by rw [List.length_drop]; omega)]
    · have hlp := List.length_pos_iff.2 hl
      rw [List.length_drop] at hlp
      match m with
      | 0 => omega
      | m + 1 =>
        cases hs : stp (s.drop p) with
        | skip n =>
          have hpn := (stp_pos _ hl).1 n hs
          rw [List.length_drop] at hpn
          rw [scn_skip hl hs, List.drop_drop] at h
          obtain ⟨us, h1, h2⟩ := rw_rnS s m (p + n) acc (by omega) (by omega) ts h
          refine ⟨us, h1, fun a ha => ⟨(h2 a (by omega)).1, ?_⟩⟩
          rw [(h2 a (by omega)).2, rnS_skip hl hs, List.drop_drop, tk a n ha, List.append_assoc]
        | tok k t v n =>
          have hpn := (stp_pos _ hl).2 k t v n hs
          rw [List.length_drop] at hpn
          rw [scn_tok hl hs, List.drop_drop] at h
          obtain ⟨us, h1, h2⟩ := rw_rnS s m (p + n) (acc ++ [⟨k, t, v, p⟩]) (by omega) (by omega) ts h
          refine ⟨⟨k, t, v, p⟩ :: us, by rw [h1]; simp, fun a ha => ?_⟩
          rw [rnS_tok hl hs]
          by_cases hA : k = 1 ∧ t = [97]
          · have hn1 : n = 1 := by
              obtain ⟨rfl, rfl⟩ := hA
              exact (tok_a hl hs).2.1
            subst hn1
            refine ⟨⟨ha, by show p ≤ _; omega, fun _ => by show p + 1 ≤ _; omega, ?_⟩, ?_⟩
            · rw [if_pos (show isA ⟨k, t, v, p⟩ from hA)]; exact (h2 (p + 1) (Nat.le_refl _)).1
            · show (if isA _ then _ else _) = _
              rw [if_pos (show isA ⟨k, t, v, p⟩ from hA), if_pos hA, (h2 (p + 1) (Nat.le_refl _)).2, Nat.sub_self, List.take_zero, List.nil_append, List.drop_drop]
          · refine ⟨⟨ha, by show p ≤ _; omega, fun x => absurd x hA, ?_⟩, ?_⟩
            · rw [if_neg (show ¬ isA ⟨k, t, v, p⟩ from hA)]; exact (h2 a (by omega)).1
            · show (if isA _ then _ else _) = _
              rw [if_neg (show ¬ isA ⟨k, t, v, p⟩ from hA), if_neg hA, (h2 a (by omega)).2, tk a n ha, List.append_assoc, List.drop_drop]
        | bad c o => rw [scn_bad hl hs] at h; cases h
theorem rnS_len (m : Nat) : ∀ l : List UInt8, l.length ≤ m → (rnS l).length ≤ 3 * l.length
  | l, hm => by
    by_cases hl : l = []
    · subst hl; rw [rnS_nil]; simp
    · have hlp := List.length_pos_iff.2 hl
      match m with
      | 0 => omega
      | m + 1 =>
        cases hs : stp l with
        | skip n =>
          have hp := (stp_pos l hl).1 n hs
          have ih := rnS_len m (l.drop n) (by rw [List.length_drop]; omega)
          rw [rnS_skip hl hs, List.length_append, List.length_take]
          rw [List.length_drop] at ih
          omega
        | tok k t v n =>
          have hp := (stp_pos l hl).2 k t v n hs
          have ih := rnS_len m (l.drop n) (by rw [List.length_drop]; omega)
          rw [rnS_tok hl hs, List.length_append]
          rw [List.length_drop] at ih
          split
          · simp only [zzz, List.length_cons, List.length_nil]; omega
          · rw [List.length_take]; omega
        | bad c o => rw [rnS_bad hl hs]; omega
end Go.Proofs.YtmejlldabdjpjaaGreat

/- The tree of the text written anew (no program in it). -/
namespace Go.Proofs.YtmejlldabdjpjaaGreat
open Go.RowKit

/-- Names are written anew, and none is zzz; no point, no brace. -/
structure RU (t t' : Tok) : Prop where
  r : RT t t'
  z : t.k = 1 → t.t ≠ zzz
  p : cls t ≠ 21
  b : cls t ≠ 22
theorem RU.cls {t t' : Tok} (h : RU t t') : cls t' = cls t := by
  unfold Go.Proofs.YtmejlldabdjpjaaGreat.cls
  rw [h.r.k]
  by_cases hk : t.k = 2 ∨ t.k = 5
  · rw [if_pos hk, if_pos hk, h.r.t, if_neg (by omega)]
  · rw [if_neg hk, if_neg hk]
def U2 : List Tok → List Tok → Prop
  | [], [] => True
  | t :: l, t' :: l' => RU t t' ∧ U2 l l'
  | _, _ => False
theorem U2.hc : ∀ {l l' : List Tok}, U2 l l' → hc l' = hc l
  | [], [], _ => rfl
  | _ :: _, _ :: _, h => h.1.cls
theorem U2.tl : ∀ {l l' : List Tok}, U2 l l' → U2 l.tail l'.tail
  | [], [], _ => trivial
  | _ :: _, _ :: _, h => h.2
theorem U2.hv : ∀ {l l' : List Tok}, U2 l l' → hv l' = hv l
  | [], [], _ => rfl
  | _ :: _, _ :: _, h => h.1.r.v
theorem U2.ht : ∀ {l l' : List Tok}, U2 l l' → Go.Proofs.YtmejlldabdjpjaaGreat.hc l ≠ 51 → ht l' = ht l
  | [], [], _, _ => rfl
  | t :: _, t' :: _, h, k => by
    show t'.t = t.t
    rw [h.1.r.t, if_neg]
    intro e
    exact k (cls_of_kind t 1 e (.inl rfl))
theorem U2.htn : ∀ {l l' : List Tok}, U2 l l' → Go.Proofs.YtmejlldabdjpjaaGreat.hc l = 51 → Go.Proofs.YtmejlldabdjpjaaGreat.ht l' = ren (Go.Proofs.YtmejlldabdjpjaaGreat.ht l) ∧ Go.Proofs.YtmejlldabdjpjaaGreat.ht l ≠ zzz
  | [], [], _, k => by exact absurd k (by decide)
  | t :: _, t' :: _, h, k => by
    have hk : t.k = 1 := by have := cls_kind t 51 k (by decide); simpa using this
    exact ⟨by show t'.t = ren t.t; rw [h.1.r.t, if_pos hk], h.1.z hk⟩
theorem U2.np : ∀ {l l' : List Tok}, U2 l l' → Go.Proofs.YtmejlldabdjpjaaGreat.hc l ≠ 21 ∧ Go.Proofs.YtmejlldabdjpjaaGreat.hc l ≠ 22
  | [], [], _ => by decide
  | _ :: _, _ :: _, h => ⟨h.1.p, h.1.b⟩
theorem U2.closes {l l' : List Tok} (h : U2 l l') : closes l' = closes l := by unfold Go.Proofs.YtmejlldabdjpjaaGreat.closes; rw [h.hc]
/-- All trees of a row are Names. -/
def nmsF : F → Prop
  | .nil => True
  | .cons k _ _ _ _ r => k = 6 ∧ nmsF r
theorem nmsF.app : ∀ {f g : F}, nmsF f → nmsF g → nmsF (f.app g)
  | .nil, _, _, h => h
  | .cons _ _ _ _ _ _, _, h, k => ⟨h.1, nmsF.app h.2 k⟩
theorem take_app : ∀ f g : F, (f.app g).take f.len = f
  | .nil, g => by cases g <;> rfl
  | .cons k t n p ks r, g => by simp only [F.app, F.len, F.take, take_app r g]
theorem app_assoc : ∀ f g h : F, (f.app g).app h = f.app (g.app h)
  | .nil, _, _ => rfl
  | .cons k t n p ks r, g, h => by simp only [F.app, app_assoc r g h]
/-- The first kids of some nodes are Names. -/
def nmk (k n : Int) (ks : F) : Prop := (k = 21 ∨ k = 27 ∨ k = 31 → nmsF (ks.take n.toNat)) ∧ (k = 26 → nmsF (ks.take 1))
/-- Trees alike but for places and the name. -/
def RF : F → F → Prop
  | .nil, .nil => True
  | .cons k t n _ ks r, .cons k' t' n' _ ks' r' => k' = k ∧ n' = n ∧ t' = (if k = 6 ∨ k = 31 then ren t else t) ∧ ((k = 6 ∨ k = 31 → t ≠ zzz) ∧ nmk k n ks) ∧ RF ks ks' ∧ RF r r'
  | _, _ => False
theorem RF.app : ∀ {f f' g g' : F}, RF f f' → RF g g' → RF (f.app g) (f'.app g')
  | .nil, .nil, _, _, _, h => h
  | .cons _ _ _ _ _ _, .cons _ _ _ _ _ _, _, _, h, k => ⟨h.1, h.2.1, h.2.2.1, h.2.2.2.1, h.2.2.2.2.1, RF.app h.2.2.2.2.2 k⟩
theorem RF.len : ∀ {f f' : F}, RF f f' → f'.len = f.len
  | .nil, .nil, _ => rfl
  | .cons _ _ _ _ _ _, .cons _ _ _ _ _ _, h => by simp only [F.len, RF.len h.2.2.2.2.2]
theorem RF.kind : ∀ {f f' : F}, RF f f' → f'.kind = f.kind
  | .nil, .nil, _ => rfl
  | .cons _ _ _ _ _ _, .cons _ _ _ _ _ _, h => h.1
theorem RF.text : ∀ {f f' : F}, RF f f' → f.kind = 6 → f'.text = ren f.text ∧ f.text ≠ zzz
  | .nil, .nil, _, k => by exact absurd k (by decide)
  | .cons _ _ _ _ _ _, .cons _ _ _ _ _ _, h, k => ⟨by have := h.2.2.1; rw [if_pos (.inl k)] at this; exact this, h.2.2.2.1.1 (.inl k)⟩
abbrev nok (k : Int) : Prop := ¬ (k = 6 ∨ k = 31 ∨ k = 21 ∨ k = 26 ∨ k = 27)
theorem nmk_no {k n : Int} {f : F} (h : nok k) : nmk k n f := ⟨fun e => absurd e (by unfold nok at h; omega), fun e => absurd e (by unfold nok at h; omega)⟩
theorem RF.one {k : Int} {t : List UInt8} {n p p' : Int} {f f' : F} (h : RF f f') (hk : nok k) : RF (one k t n p f) (one k t n p' f') := ⟨rfl, rfl, by rw [if_neg (by unfold nok at hk; omega)], ⟨fun e => absurd e (by unfold nok at hk; omega), nmk_no hk⟩, h, trivial⟩
theorem RF.oneN {k : Int} {t : List UInt8} {n n' p p' : Int} {f f' : F} (h : RF f f') (hn : n' = n) (hk : ¬ (k = 6 ∨ k = 31)) (q : nmk k n f) : RF (Go.Proofs.YtmejlldabdjpjaaGreat.one k t n p f) (Go.Proofs.YtmejlldabdjpjaaGreat.one k t n' p' f') := ⟨rfl, hn, by rw [if_neg hk], ⟨fun e => absurd e hk, q⟩, h, trivial⟩
theorem nmk_take {k : Int} {ns g : F} (h : nmsF ns) (hk : k ≠ 26) : nmk k ns.len (ns.app g) := ⟨fun _ => by rw [Int.toNat_natCast, take_app]; exact h, fun e => absurd e hk⟩
theorem nmk_one {n : Int} {a g : F} (h : nmsF a) (hl : a.len = 1) : nmk 26 n (a.app g) := ⟨fun e => absurd e (by decide), fun _ => by have := take_app a g; rw [hl] at this; rw [this]; exact h⟩
inductive RP (Q : F → Prop) : PR → PR → Prop
  | ok {f f' : F} {l l' : List Tok} (q : Q f) (h : RF f f') (k : U2 l l') : RP Q (.ok f l) (.ok f' l')
  | bad (p p' : Int) : RP Q (.bad p) (.bad p')
  | out : RP Q .out .out
def anyF (_ : F) : Prop := True
theorem RP.y {f f' : F} {l l' : List Tok} (h : RF f f') (k : U2 l l') : RP anyF (.ok f l) (.ok f' l') := .ok trivial h k
theorem RP.bindq {Q Q' : F → Prop} {x x' : PR} {k k' : F → List Tok → PR} (h : RP Q x x') (hk : ∀ f f' l l', Q f → RF f f' → U2 l l' → RP Q' (k f l) (k' f' l')) : RP Q' (x.bind k) (x'.bind k') := by
  cases h with
  | ok q h u => exact hk _ _ _ _ q h u
  | bad p p' => exact .bad _ _
  | out => exact .out
theorem RP.bind {Q Q' : F → Prop} {x x' : PR} {k k' : F → List Tok → PR} (h : RP Q x x') (hk : ∀ f f' l l', RF f f' → U2 l l' → RP Q' (k f l) (k' f' l')) : RP Q' (x.bind k) (x'.bind k') := h.bindq fun f f' l l' _ => hk f f' l l'
theorem RP.need {Q : F → Prop} {c : Nat} {l l' : List Tok} {k k' : List Tok → PR} (h : U2 l l') (hk : U2 l.tail l'.tail → RP Q (k l.tail) (k' l'.tail)) : RP Q (need c l k) (need c l' k') := by
  unfold Go.Proofs.YtmejlldabdjpjaaGreat.need
  rw [h.hc]
  split
  · exact hk h.tl
  · exact .bad _ _
theorem RP.mono {Q Q' : F → Prop} {x x' : PR} (h : RP Q x x') (k : ∀ f, Q f → Q' f) : RP Q' x x' := by
  cases h with
  | ok q h u => exact .ok (k _ q) h u
  | bad p p' => exact .bad _ _
  | out => exact .out
theorem F.app_nl : ∀ f : F, f.app .nil = f
  | .nil => rfl
  | .cons k t n p ks r => by simp only [F.app, F.app_nl r]
/-- A single Name. -/
def nm1 (f : F) : Prop := nmsF f ∧ f.len = 1 ∧ f.kind = 6
theorem RP.nam {Q : F → Prop} {l l' : List Tok} {k k' : F → List Tok → PR} (h : U2 l l') (hk : ∀ f f', RF f f' → nm1 f → U2 l.tail l'.tail → RP Q (k f l.tail) (k' f' l'.tail)) : RP Q (nam 6 l k) (nam 6 l' k') := by
  unfold Go.Proofs.YtmejlldabdjpjaaGreat.nam
  rw [h.hc]
  split
  · rename_i h51
    have a := h.htn h51
    exact hk _ _ ⟨rfl, rfl, by rw [if_pos (.inl rfl)]; exact a.1, ⟨fun _ => a.2, ⟨fun e => absurd e (by decide), fun e => absurd e (by decide)⟩⟩, trivial, trivial⟩ ⟨⟨rfl, trivial⟩, rfl, rfl⟩ h.tl
  · exact .bad _ _
/-- Jobs alike. -/
inductive RJ : J → J → Prop
  | blk (c : Bool) : RJ (.blk c) (.blk c)
  | bk (c : Bool) {a a' : F} (h : RF a a') : RJ (.bk c a) (.bk c a')
  | stat : RJ .stat .stat
  | lst {a a' : F} (h : RF a a') : RJ (.lst a) (.lst a')
  | nms {a a' : F} (h : RF a a') (q : nmsF a) : RJ (.nms a) (.nms a')
  | ifs {a a' : F} (h : RF a a') : RJ (.ifs a) (.ifs a')
  | asg {a a' : F} (h : RF a a') : RJ (.asg a) (.asg a')
  | ex (a : Nat) : RJ (.ex a) (.ex a)
  | exl (a : Nat) {f f' : F} (h : RF f f') : RJ (.exl a f) (.exl a f')
  | opd : RJ .opd .opd
  | suf : RJ .suf .suf
  | sufl {f f' : F} (h : RF f f') : RJ (.sufl f) (.sufl f')
def qj : J → F → Prop
  | .nms _ => nmsF
  | .lst a => fun f => ∃ g, f = a.app g
  | _ => anyF
theorem RP.ite {Q : F → Prop} {c c' : Prop} [Decidable c] [Decidable c'] (e : c' ↔ c) {x y x' y' : PR} (h1 : c → RP Q x x') (h2 : ¬ c → RP Q y y') : RP Q (if c then x else y) (if c' then x' else y') := by
  by_cases h : c
  · rw [if_pos h, if_pos (e.2 h)]; exact h1 h
  · rw [if_neg h, if_neg (fun k => h (e.1 k))]; exact h2 h
section
variable {rec : J → List Tok → PR} (ih : ∀ j j' l l', RJ j j' → U2 l l' → RP (qj j) (rec j l) (rec j' l'))
include ih
theorem r_body {Q : F → Prop} {l l' : List Tok} {k k' : F → List Tok → PR} (h : U2 l l') (hk : ∀ f f' l l', RF f f' → U2 l l' → RP Q (k f l) (k' f' l')) : RP Q (bodyP rec l k) (bodyP rec l' k') :=
  .need h fun u => .bind (ih _ _ _ _ (.blk false) u) fun _ _ _ _ hf hm => .need hm fun u => hk _ _ _ _ hf u
theorem r_last {l l' : List Tok} (h : U2 l l') : RP anyF (lastP rec l) (lastP rec l') := by
  unfold lastP
  refine .ite (by rw [h.tl.hc]) (fun _ => .y (RF.one trivial (by decide)) h.tl.tl) fun _ => .ite (by rw [h.tl.closes]) (fun _ => .y (RF.one trivial (by decide)) h.tl) fun _ => .bind (ih _ _ _ _ (.lst trivial) h.tl) fun f f' m m' hf hm => .y (RF.one hf (by decide)) ?_
  rw [hm.hc]
  split
  · exact hm.tl
  · exact hm
theorem r_par {l l' : List Tok} (h : U2 l l') : RP nmsF (parP rec l) (parP rec l') :=
  .ite (by rw [h.hc]) (fun _ => .ok trivial trivial h) fun _ => .nam h fun f f' hf q u => ih _ _ _ _ (.nms hf q.1) u
theorem r_fun {l l' : List Tok} (h : U2 l l') : RP anyF (funP rec l) (funP rec l') :=
  .nam h.tl fun m m' hm k6 u => .need u fun u => .bindq (r_par ih u) fun ps ps' l1 l1' qp hp u => .need u fun u => .bind (ih _ _ _ _ (.blk false) u) fun b b' l2 l2' hb u => .need u fun u =>
    .y (show RF (one 31 m.text ps.len (ha l) (ps.app b)) (one 31 m'.text ps'.len (ha l') (ps'.app b')) from ⟨rfl, by rw [hp.len], by rw [if_pos (.inr rfl)]; exact (hm.text k6.2.2).1, ⟨fun _ => (hm.text k6.2.2).2, nmk_take qp (by decide)⟩, hp.app hb, trivial⟩) u
theorem r_while {l l' : List Tok} (h : U2 l l') : RP anyF (whileP rec l) (whileP rec l') :=
  .bind (ih _ _ _ _ (.ex 0) h.tl) fun e e' l1 l1' he u => r_body ih u fun b b' l2 l2' hb u => .y (RF.one (he.app hb) (by decide)) u
theorem r_if {l l' : List Tok} (h : U2 l l') : RP anyF (ifP rec l) (ifP rec l') :=
  .bind (ih _ _ _ _ (.ifs trivial) h.tl) fun f f' l1 l1' hf u => .y (RF.one hf (by decide)) u
theorem r_br {a a' : F} (ha : RF a a') {l l' : List Tok} (h : U2 l l') : RP anyF (brP rec a l) (brP rec a' l') :=
  .bind (ih _ _ _ _ (.ex 0) h) fun _ _ _ _ he u => .need u fun u => .bind (ih _ _ _ _ (.blk false) u) fun _ _ _ _ hb u => .y ((ha.app he).app hb) u
theorem r_num {p p' : Int} {a a' : F} (ha : RF a a') (qa : nm1 a) {l l' : List Tok} (h : U2 l l') : RP anyF (numP rec p a l) (numP rec p' a' l') :=
  .bind (ih _ _ _ _ (.ex 0) h) fun e1 e1' l1 l1' h1 u => .need u fun u => .bind (ih _ _ _ _ (.ex 0) u) fun e2 e2' l2 l2' h2 u =>
    .ite (by rw [u.hc]) (fun _ => .bind (ih _ _ _ _ (.ex 0) u.tl) fun e3 e3' l3 l3' h3 u => r_body ih u fun b b' l4 l4' hb u => .y (RF.oneN ((((ha.app h1).app h2).app h3).app hb) rfl (by decide) (by simp only [app_assoc]; exact nmk_one qa.1 qa.2.1)) u)
      fun _ => r_body ih u fun b b' l4 l4' hb u => .y (RF.oneN (((ha.app h1).app h2).app hb) rfl (by decide) (by simp only [app_assoc]; exact nmk_one qa.1 qa.2.1)) u
theorem r_for {l l' : List Tok} (h : U2 l l') : RP anyF (forP rec l) (forP rec l') :=
  .nam h.tl fun m m' hm qm u => .ite (by rw [u.hc]) (fun _ => r_num ih hm qm u.tl) fun _ => .bindq (ih _ _ _ _ (.nms hm qm.1) u) fun ns ns' l1 l1' qn hn u => .need u fun u => .bindq (ih _ _ _ _ (.lst hn) u) fun f f' l2 l2' qf hf u => r_body ih u fun b b' l3 l3' hb u =>
    .y (RF.oneN (hf.app hb) (by rw [hn.len]) (by decide) (by obtain ⟨g, rfl⟩ := qf; rw [app_assoc]; exact nmk_take qn (by decide))) u
theorem r_loc {l l' : List Tok} (h : U2 l l') : RP anyF (locP rec l) (locP rec l') :=
  .nam h.tl fun m m' hm qm u => .bindq (ih _ _ _ _ (.nms hm qm.1) u) fun ns ns' l1 l1' qn hn u => .ite (by rw [u.hc]) (fun _ => .bindq (ih _ _ _ _ (.lst hn) u.tl) fun f f' l2 l2' qf hf u => .y (RF.oneN hf (by rw [hn.len]) (by decide) (by obtain ⟨g, rfl⟩ := qf; exact nmk_take qn (by decide))) u)
    fun _ => .y (RF.oneN hn (by rw [hn.len]) (by decide) (by have := nmk_take (k := 21) (g := .nil) qn (by decide); rw [F.app_nl] at this; exact this)) u
theorem r_asg {l l' : List Tok} (h : U2 l l') : RP anyF (asgP rec l) (asgP rec l') :=
  .bind (ih _ _ _ _ .suf h) fun f f' l1 l1' hf u => .ite (by rw [u.hc])
    (fun _ => .ite (by rw [hf.kind]) (fun _ => .bind (ih _ _ _ _ (.asg hf) u) fun ts ts' l2 l2' ht u => .need u fun u => .bind (ih _ _ _ _ (.lst ht) u) fun g g' l3 l3' hg u => .y (RF.oneN hg (by rw [ht.len]) (by decide) ⟨fun e => absurd e (by decide), fun e => absurd e (by decide)⟩) u) fun _ => .bad _ _)
    fun _ => .ite (by rw [hf.kind]) (fun _ => .y (RF.one hf (by decide)) u) fun _ => .bad _ _
theorem r_arg {a a' : F} (ha : RF a a') {l l' : List Tok} (h : U2 l l') : RP anyF (argP rec a l) (argP rec a' l') :=
  .ite (by rw [h.hc]) (fun _ => .y ha h.tl) fun _ => .bind (ih _ _ _ _ (.lst ha) h) fun f f' l1 l1' hf u => .need u fun u => .y hf u
theorem r_stem {l l' : List Tok} (h : U2 l l') : RP anyF (stemP rec l) (stemP rec l') :=
  .ite (by rw [h.hc]) (fun _ => .bind (ih _ _ _ _ (.ex 0) h.tl) fun e e' l1 l1' he u => .need u fun u => .y (RF.one he (by decide)) u) fun _ => .nam h fun f f' hf _ u => .y hf u
theorem r_step (j j' : J) (l l' : List Tok) (hj : RJ j j') (h : U2 l l') : RP (qj j) (stp' rec j l) (stp' rec j' l') := by
  have e := h.hc
  cases hj with
  | blk c => exact .bind (ih _ _ _ _ (.bk c trivial) h) fun f f' l1 l1' hf u => .y (RF.one hf (by decide)) u
  | bk c ha =>
    exact .ite (by rw [e]) (fun _ => ih _ _ _ _ (.bk c ha) h.tl) fun _ => .ite (by rw [e]) (fun _ => .bind (r_last ih h) fun f f' l1 l1' hf u => .y (ha.app hf) u) fun _ =>
      .ite (by rw [e]) (fun _ => .bind (r_fun ih h) fun f f' l1 l1' hf u => ih _ _ _ _ (.bk c (ha.app hf)) u) fun _ => .ite (by rw [h.closes]) (fun _ => .y ha h) fun _ =>
      .bind (ih _ _ _ _ .stat h) fun f f' l1 l1' hf u => ih _ _ _ _ (.bk c (ha.app hf)) u
  | stat =>
    exact .ite (by rw [e]) (fun _ => r_body ih h fun b b' l1 l1' hb u => .y (RF.one hb (by decide)) u) fun _ => .ite (by rw [e]) (fun _ => r_while ih h) fun _ => .ite (by rw [e]) (fun _ => r_if ih h) fun _ => .ite (by rw [e]) (fun _ => r_for ih h) fun _ =>
      .ite (by rw [e]) (fun _ => r_loc ih h) fun _ => .ite (by rw [e]) (fun _ => .y (RF.one trivial (by decide)) h.tl) fun _ => r_asg ih h
  | lst ha => exact .bind (ih _ _ _ _ (.ex 0) h) fun f f' l1 l1' hf u => .ite (by rw [u.hc]) (fun _ => (ih _ _ _ _ (.lst (ha.app hf)) u.tl).mono fun r ⟨g, e⟩ => ⟨f.app g, by rw [e, app_assoc]⟩) fun _ => .ok ⟨f, rfl⟩ (ha.app hf) u
  | nms ha q => exact .ite (by rw [e]) (fun _ => .nam h.tl fun f f' hf qf u => ih _ _ _ _ (.nms (ha.app hf) (q.app qf.1)) u) fun _ => .ok q ha h
  | ifs ha =>
    exact .bind (r_br ih ha h) fun f f' l1 l1' hf u => .ite (by rw [u.hc]) (fun _ => ih _ _ _ _ (.ifs hf) u.tl) fun _ => .ite (by rw [u.hc]) (fun _ => .bind (ih _ _ _ _ (.blk false) u.tl) fun b b' l2 l2' hb u => .need u fun u => .y (hf.app hb) u) fun _ => .need u fun u => .y hf u
  | asg ha => exact .ite (by rw [e]) (fun _ => .bind (ih _ _ _ _ .suf h.tl) fun f f' l1 l1' hf u => .ite (by rw [hf.kind]) (fun _ => ih _ _ _ _ (.asg (ha.app hf)) u) fun _ => .bad _ _) fun _ => .y ha h
  | ex a => exact .bind (ih _ _ _ _ .opd h) fun f f' l1 l1' hf u => ih _ _ _ _ (.exl a hf) u
  | exl a hf =>
    refine .ite (by rw [e]) (fun hb => ?_) fun _ => .y hf h
    have hh : ht l' = ht l := h.ht (fun x => by rw [x] at hb; exact absurd hb (by simp [bnd]))
    rw [e, hh]
    exact .bind (ih _ _ _ _ (.ex _) h.tl) fun g g' l1 l1' hg u => ih _ _ _ _ (.exl a (RF.one (hf.app hg) (by decide))) u
  | opd =>
    refine .ite (by rw [e]) (fun _ => ih _ _ _ _ .suf h) fun h51 => .ite (by rw [e]) (fun x => absurd x h.np.2) fun _ => .ite (by rw [e]) (fun x => ?_) fun _ => .ite (by rw [e]) (fun x => ?_) fun _ => .ite (by rw [e]) (fun x => ?_) fun _ =>
      .ite (by rw [e]) (fun _ => .y (RF.one trivial (by decide)) h.tl) fun _ => .ite (by rw [e]) (fun _ => .y (RF.one trivial (by decide)) h.tl) fun _ => .ite (by rw [e]) (fun _ => .y (RF.one trivial (by decide)) h.tl) fun _ => .bad _ _
    · rw [h.ht (by omega)]
      exact .bind (ih _ _ _ _ .opd h.tl) fun f f' l1 l1' hf u => .y (RF.one hf (by decide)) u
    · rw [h.hv]; exact .y (RF.one trivial (by decide)) h.tl
    · rw [h.ht (by omega)]; exact .y (RF.one trivial (by decide)) h.tl
  | suf => exact .bind (r_stem ih h) fun f f' l1 l1' hf u => ih _ _ _ _ (.sufl hf) u
  | sufl hf =>
    exact .ite (by rw [e]) (fun _ => .bind (ih _ _ _ _ (.ex 0) h.tl) fun k k' l1 l1' hk u => .need u fun u => ih _ _ _ _ (.sufl (RF.one (hf.app hk) (by decide))) u) fun _ => .ite (by rw [e]) (fun x => absurd x h.np.1) fun _ =>
      .ite (by rw [e]) (fun _ => .bind (r_arg ih hf h.tl) fun g g' l1 l1' hg u => ih _ _ _ _ (.sufl (RF.one hg (by decide))) u) fun _ => .y hf h
end
theorem r_pr : ∀ (N : Nat) (j j' : J) (l l' : List Tok), RJ j j' → U2 l l' → RP (qj j) (pr N j l) (pr N j' l')
  | 0, _, _, _, _, _, _ => .out
  | N + 1, j, j', l, l', hj, h => r_step (r_pr N) j j' l l' hj h
theorem U2.len : ∀ {l l' : List Tok}, U2 l l' → l'.length = l.length
  | [], [], _ => rfl
  | _ :: _, _ :: _, h => by simp only [List.length_cons, U2.len h.2]
theorem r_chk {l l' : List Tok} (h : U2 l l') : RP anyF (chk l) (chk l') := by
  unfold chk
  rw [h.len]
  exact .bind (r_pr _ _ _ _ _ (.blk true) h) fun f f' m m' hf hm => .ite (by rw [hm.hc]) (fun _ => .y hf hm) fun _ => .bad _ _
end Go.Proofs.YtmejlldabdjpjaaGreat

/- What Check tells of the text written anew (no program in it). -/
namespace Go.Proofs.YtmejlldabdjpjaaGreat
open Go.RowKit

theorem ren_inj {a b : Tx} (ha : a ≠ zzz) (hb : b ≠ zzz) : (ren a = ren b) ↔ (a = b) := by
  constructor
  · intro h
    unfold ren at h
    split at h
    · rename_i e
      split at h
      · rename_i e2; rw [e, e2]
      · exact absurd h.symm hb
    · split at h
      · exact absurd h ha
      · exact h
  · intro h; rw [h]
def NZ (l : List Tx) : Prop := ∀ t ∈ l, t ≠ zzz
theorem con_ren {l : List Tx} {t : Tx} (hl : NZ l) (ht : t ≠ zzz) : (l.map ren).contains (ren t) = l.contains t := by
  rw [Bool.eq_iff_iff, List.contains_iff_mem, List.contains_iff_mem, List.mem_map]
  constructor
  · rintro ⟨a, ha, e⟩; rw [(ren_inj (hl a ha) ht).1 e] at ha; exact ha
  · intro h; exact ⟨t, h, rfl⟩
theorem kep_ren (t : Tx) (h : t ≠ zzz) : kep (ren t) = kep t := by
  unfold ren
  split
  · rename_i e; subst e; rfl
  · rfl
theorem ren_kep (t : Tx) (h : kep t = true) : ren t = t := by
  unfold ren
  split
  · rename_i e; subst e; exact absurd h (by decide)
  · rfl
def fk (f : Fn) : Int × Int × List Vl := (f.pa, f.sl, f.cs)
/-- States alike. -/
structure RC (s s' : Cs) : Prop where
  fs : s'.fs.map fk = s.fs.map fk
  gl : s'.gl = s.gl.map ren
  nu : s'.nu = s.nu
  lo : s'.lo = s.lo.map ren
  lp : s'.lp = s.lp
  ar : s'.ar = s.ar.map ren
  bad : s'.bad = s.bad
  ng : NZ s.gl
  nl : NZ s.lo
  na : NZ s.ar
  bc : s.bad = true → s.cd ≠ 0
theorem RC.fau {s s' : Cs} (h : RC s s') (c a a' : Int) (hc : c ≠ 0) : RC (fau c a s) (fau c a' s') := by
  unfold Go.Proofs.YtmejlldabdjpjaaGreat.fau
  rw [h.bad]
  split
  · exact h
  · exact ⟨h.fs, h.gl, h.nu, h.lo, h.lp, h.ar, by unfold Cs.bad; simp [hc], h.ng, h.nl, h.na, fun _ => hc⟩
theorem RC.lim {s s' : Cs} (h : RC s s') (p p' n m : Int) : RC (lim p n m s) (lim p' n m s') := by
  unfold Go.Proofs.YtmejlldabdjpjaaGreat.lim
  split
  · exact h.fau _ _ _ (by decide)
  · exact h
theorem RC.unk {s s' : Cs} (h : RC s s') (t : Tx) (ht : t ≠ zzz) (p p' : Int) : RC (unk t p s) (unk (ren t) p' s') := by
  unfold Go.Proofs.YtmejlldabdjpjaaGreat.unk
  rw [kep_ren t ht]
  split
  · exact h.fau _ _ _ (by decide)
  · exact h
theorem NZ.snoc {l : List Tx} (h : NZ l) {t : Tx} (ht : t ≠ zzz) : NZ (l ++ [t]) := fun x hx => by
  rcases List.mem_append.1 hx with h1 | h1
  · exact h x h1
  · rw [List.mem_singleton.1 h1]; exact ht
theorem NZ.take {l : List Tx} (h : NZ l) (n : Nat) : NZ (l.take n) := fun x hx => h x (List.mem_of_mem_take hx)
theorem RC.glo {s s' : Cs} (h : RC s s') (t : Tx) (ht : t ≠ zzz) : RC (glo t s) (glo (ren t) s') := by
  unfold Go.Proofs.YtmejlldabdjpjaaGreat.glo
  rw [h.gl, con_ren h.ng ht]
  split
  · exact h
  · exact ⟨h.fs, by simp, h.nu, h.lo, h.lp, h.ar, h.bad, h.ng.snoc ht, h.nl, h.na, h.bc⟩
theorem fs_get {l l' : List Fn} (h : l'.map fk = l.map fk) (i : Nat) : (l'[i]? = none ∧ l[i]? = none) ∨ ∃ f f', l[i]? = some f ∧ l'[i]? = some f' ∧ fk f' = fk f := by
  have e : (l'.map fk)[i]? = (l.map fk)[i]? := by rw [h]
  rw [List.getElem?_map, List.getElem?_map] at e
  cases h1 : l'[i]? with
  | none => rw [h1] at e; cases h2 : l[i]? with
    | none => exact .inl ⟨rfl, rfl⟩
    | some f => rw [h2] at e; cases e
  | some f' => rw [h1] at e; cases h2 : l[i]? with
    | none => rw [h2] at e; cases e
    | some f => rw [h2] at e; exact .inr ⟨f, f', rfl, rfl, by simpa using e⟩
theorem fs_set {l l' : List Fn} (h : l'.map fk = l.map fk) (i : Nat) {f f' : Fn} (hf : fk f' = fk f) : (l'.set i f').map fk = (l.set i f).map fk := by
  rw [List.map_set, List.map_set, h, hf]
theorem fk_eq {f f' : Fn} (h : fk f' = fk f) : f'.pa = f.pa ∧ f'.sl = f.sl ∧ f'.cs = f.cs := by
  unfold fk at h; simpa using h
theorem RC.con {s s' : Cs} (h : RC s s') (v : Vl) (p p' : Int) : RC (con v p s) (con v p' s') := by
  unfold Go.Proofs.YtmejlldabdjpjaaGreat.con
  rw [h.nu]
  rcases fs_get h.fs s.nu with ⟨h1, h2⟩ | ⟨f, f', h1, h2, hk⟩
  · rw [h1, h2]; exact h
  · rw [h1, h2]
    obtain ⟨e1, e2, e3⟩ := fk_eq hk
    show RC (conF f v p s) (conF f' v p' s')
    unfold conF
    rw [e3]
    split
    · exact h
    · refine RC.lim ?_ _ _ _ _
      exact ⟨by rw [h.nu]; exact fs_set h.fs _ (by simp [fk, e1, e2]), h.gl, h.nu, h.lo, h.lp, h.ar, h.bad, h.ng, h.nl, h.na, h.bc⟩
theorem RC.ngl {s s' : Cs} (h : RC s s') (t : Tx) (ht : t ≠ zzz) (p p' : Int) : RC (ngl t p s) (ngl (ren t) p' s') := by
  unfold Go.Proofs.YtmejlldabdjpjaaGreat.ngl
  rw [h.ar, con_ren h.na ht]
  split
  · exact (h.fau _ _ _ (by decide)).glo t ht
  · exact h.glo t ht
theorem RC.nmC {s s' : Cs} (h : RC s s') (t : Tx) (ht : t ≠ zzz) (p p' : Int) : RC (nmC t p s) (nmC (ren t) p' s') := by
  unfold Go.Proofs.YtmejlldabdjpjaaGreat.nmC
  rw [h.lo, con_ren h.nl ht]
  split
  · exact h.unk t ht p p'
  · exact (h.unk t ht p p').ngl t ht p p'
theorem RC.brN : ∀ {r r' : F} {s s' : Cs}, RF r r' → nmsF r → RC s s' → RC (brN r s) (brN r' s')
  | .nil, .nil, _, _, _, _, h => h
  | .cons k t n p ks r, .cons k' t' n' p' ks' r', s, s', hr, hn, h => by
    have ht := hr.2.2.2.1.1 (.inl hn.1)
    have e := hr.2.2.1
    rw [if_pos (.inl hn.1)] at e
    subst e
    have u := h.unk t ht p p'
    show RC (Go.Proofs.YtmejlldabdjpjaaGreat.brN r { Go.Proofs.YtmejlldabdjpjaaGreat.unk t p s with lo := s.lo ++ [t] }) (Go.Proofs.YtmejlldabdjpjaaGreat.brN r' { Go.Proofs.YtmejlldabdjpjaaGreat.unk (ren t) p' s' with lo := s'.lo ++ [ren t] })
    exact RC.brN (r := r) (r' := r') hr.2.2.2.2.2 hn.2 ⟨u.fs, u.gl, u.nu, by simp [h.lo], u.lp, u.ar, u.bad, u.ng, h.nl.snoc ht, u.na, u.bc⟩
theorem RC.slo {s s' : Cs} (h : RC s s') : RC (slo s) (slo s') := by
  unfold Go.Proofs.YtmejlldabdjpjaaGreat.slo
  rw [h.nu]
  rcases fs_get h.fs s.nu with ⟨h1, h2⟩ | ⟨f, f', h1, h2, hk⟩
  · rw [h1, h2]; exact h
  · rw [h1, h2]
    obtain ⟨e1, e2, e3⟩ := fk_eq hk
    have e : s'.lo.length = s.lo.length := by rw [h.lo, List.length_map]
    exact ⟨by simp only [Option.elim]; exact fs_set h.fs _ (by simp [fk, e1, e2, e3, e]), h.gl, rfl, h.lo, h.lp, h.ar, h.bad, h.ng, h.nl, h.na, h.bc⟩
theorem RC.bri {s s' : Cs} (h : RC s s') {r r' : F} (hr : RF r r') (hn : nmsF r) (p p' : Int) : RC (bri p r s) (bri p' r' s') := by
  unfold Go.Proofs.YtmejlldabdjpjaaGreat.bri
  have b := RC.brN hr hn h
  have e : (Go.Proofs.YtmejlldabdjpjaaGreat.brN r' s').lo.length = (Go.Proofs.YtmejlldabdjpjaaGreat.brN r s).lo.length := by rw [b.lo, List.length_map]
  rw [e]
  exact (b.lim _ _ _ _).slo
theorem RF.get : ∀ {f f' : F} (i : Nat), RF f f' → (f.get? i = none ∧ f'.get? i = none) ∨ ∃ k t n p p' ks ks' t', f.get? i = some (k, t, n, p, ks) ∧ f'.get? i = some (k, t', n, p', ks') ∧ t' = (if k = 6 ∨ k = 31 then ren t else t) ∧ ((k = 6 ∨ k = 31 → t ≠ zzz) ∧ nmk k n ks) ∧ RF ks ks'
  | .nil, .nil, i, _ => .inl ⟨rfl, rfl⟩
  | .cons k t n p ks r, .cons k' t' n' p' ks' r', 0, h => by
    obtain ⟨rfl, rfl, h3, h4, h5, _⟩ := h
    exact .inr ⟨_, t, _, p, p', ks, ks', t', rfl, rfl, h3, h4, h5⟩
  | .cons k t n p ks r, .cons k' t' n' p' ks' r', i + 1, h => RF.get (f := r) (f' := r') i h.2.2.2.2.2
theorem RF.take : ∀ {f f' : F} (i : Nat), RF f f' → RF (f.take i) (f'.take i)
  | .nil, .nil, i, _ => by cases i <;> exact trivial
  | .cons _ _ _ _ _ _, .cons _ _ _ _ _ _, 0, _ => trivial
  | .cons _ _ _ _ _ r, .cons _ _ _ _ _ r', i + 1, h => ⟨h.1, h.2.1, h.2.2.1, h.2.2.2.1, h.2.2.2.2.1, RF.take (f := r) (f' := r') i h.2.2.2.2.2⟩
theorem RF.drop : ∀ {f f' : F} (i : Nat), RF f f' → RF (f.drop i) (f'.drop i)
  | f, f', 0, h => by
    have e1 : f.drop 0 = f := by cases f <;> rfl
    have e2 : f'.drop 0 = f' := by cases f' <;> rfl
    rw [e1, e2]; exact h
  | .nil, .nil, i + 1, _ => trivial
  | .cons _ _ _ _ _ r, .cons _ _ _ _ _ r', i + 1, h => RF.drop (f := r) (f' := r') i h.2.2.2.2.2
theorem RF.siz : ∀ {f f' : F}, RF f f' → f'.siz = f.siz
  | .nil, .nil, _ => rfl
  | .cons _ _ _ _ ks r, .cons _ _ _ _ ks' r', h => by simp only [F.siz, RF.siz (f := ks) (f' := ks') h.2.2.2.2.1, RF.siz (f := r) (f' := r') h.2.2.2.2.2]
theorem RF.hgt : ∀ {f f' : F}, RF f f' → f'.hgt = f.hgt
  | .nil, .nil, _ => rfl
  | .cons _ _ _ _ ks r, .cons _ _ _ _ ks' r', h => by simp only [F.hgt, RF.hgt (f := ks) (f' := ks') h.2.2.2.2.1, RF.hgt (f := r) (f' := r') h.2.2.2.2.2]
theorem RF.ixk {f f' : F} (h : RF f f') (k : Int) : ixk k f' = ixk k f := by
  unfold Go.Proofs.YtmejlldabdjpjaaGreat.ixk
  rcases RF.get 0 h with ⟨h1, h2⟩ | ⟨q, t, n, p, p', ks, ks', t', h1, h2, h3, h4, _⟩
  · rw [h1, h2]
  · rw [h1, h2]
    simp only [Option.elim]
    by_cases hq : q = 6
    · rw [if_pos (.inl hq)] at h3
      rw [h3, kep_ren t (h4.1 (.inl hq))]
    · simp [hq]
end Go.Proofs.YtmejlldabdjpjaaGreat
