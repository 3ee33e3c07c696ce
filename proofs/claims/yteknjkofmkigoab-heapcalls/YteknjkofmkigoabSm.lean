/- The program's heap and the reference's, side by side: plain facts, no program. -/
import Derived.Test.YteknjkofmkigoabRb
namespace Go.Proofs.Yteknjkofmkigoab.H

def gv (l : List (Int × Int)) (k : Nat) : Int := (l.getD k (0, 0)).2
structure Sim (sp : Int) (s : St) (r : Rs) : Prop where
  lim : r.lim = s.lim
  spe : r.sp = sp
  len : r.all.length = s.bl.length
  cel : ∀ k (h : k < s.bl.length), (r.all.getD k (0, 0)).1 = (s.bl[k]'h).1
  tkn : ∀ k (h : k < s.bl.length), (gv r.all k = 0 ↔ (s.bl[k]'h).2 = true)
  g0 : ∀ k, k < s.bl.length → 0 ≤ gv r.all k ∧ gv r.all k ≤ r.ck
  ck0 : 0 ≤ r.ck
  ord : ∀ n, (s.R n).Pairwise (fun x y => gv r.all (x.toNat - 1) < gv r.all (y.toNat - 1))

theorem take_snoc' (l : List (Int × Bool)) (k : Nat) (h : k < l.length) : l.take (k + 1) = l.take k ++ [l[k]'h] := by
  rw [List.take_add_one, List.getElem?_eq_getElem h]; rfl
theorem Sim.rl {sp : Int} {s : St} {r : Rs} (h : Sim sp s r) (k : Nat) (hk : k ≤ s.bl.length) : rl r k = sp + tk (s.bl.take k) := by
  induction k with
  | zero => simp [H.rl, tk, h.spe]
  | succ k ih =>
    have hk2 : k < s.bl.length := by omega
    have h1 := h.cel k hk2
    have h2 : ((r.all.getD k (0, 0)).2 = 0 ↔ (s.bl[k]'hk2).2 = true) := h.tkn k hk2
    rw [take_snoc' s.bl k hk2, tk_app]
    simp only [H.rl, ih (by omega), tk, h1]
    by_cases ht : (s.bl[k]'hk2).2 = true
    · rw [if_pos (h2.2 ht), if_pos ht]; omega
    · rw [if_neg (fun q => ht (h2.1 q)), if_neg ht]; omega
theorem Sim.rd {sp : Int} {s : St} {r : Rs} (h : Sim sp s r) (k : Nat) (hk : k ≤ s.bl.length) : rd r k = tot (s.bl.take k) := by
  induction k with
  | zero => simp [H.rd, tot]
  | succ k ih =>
    have hk2 : k < s.bl.length := by omega
    have h1 := h.cel k hk2
    rw [take_snoc' s.bl k hk2, tot_app]
    simp only [H.rd, ih (by omega), tot, h1]
    omega
theorem Sim.live {sp : Int} {s : St} {r : Rs} (h : Sim sp s r) (iv : Inv sp s) : rlv r = s.live := by
  unfold rlv
  rw [h.len, h.rl _ (Nat.le_refl _), List.take_length, iv.live]
theorem Sim.laid {sp : Int} {s : St} {r : Rs} (h : Sim sp s r) (iv : Inv sp s) : H.rd r r.all.length = s.laid := by
  rw [h.len, h.rd _ (Nat.le_refl _), List.take_length, iv.laid]
theorem Sim.ids {sp : Int} {s : St} {r : Rs} (h : Sim sp s r) : rids r.all r.all.length = tids s.bl s.bl.length := by
  rw [h.len]
  have : ∀ k, k ≤ s.bl.length → rids r.all k = tids s.bl k := fun k hk => by
    induction k with
    | zero => rfl
    | succ k ih =>
      have hk2 : k < s.bl.length := by omega
      rw [tids_succ, ← ih (by omega)]
      simp only [rids]
      congr 1
      have h2 : ((r.all.getD k (0, 0)).2 = 0 ↔ (s.bl[k]'hk2).2 = true) := h.tkn k hk2
      have e : s.bl.getD k (0, false) = s.bl[k]'hk2 := by rw [List.getD, List.getElem?_eq_getElem hk2]; rfl
      rw [e]
      by_cases ht : (s.bl[k]'hk2).2 = true
      · rw [if_pos (h2.2 ht), if_pos ht]
      · rw [if_neg (fun q => ht (h2.1 q)), if_neg ht]
  exact this _ (Nat.le_refl _)
theorem Sim.E {sp : Int} {s : St} {r : Rs} (h : Sim sp s r) (iv : Inv sp s) (n : Int) : rE r n = takeE s n := by
  unfold rE takeE
  rw [h.live iv, h.lim]
theorem Sim.ok {sp : Int} {s : St} {r : Rs} (h : Sim sp s r) (iv : Inv sp s) : Rok r := by
  have h1 := tk_le s.bl (fun k hk => by have := iv.cells k hk; omega)
  have := iv.live
  have := iv.l1
  have := iv.l2
  have := iv.sp0
  refine ⟨by rw [h.spe]; omega, by rw [h.spe]; omega, fun i hi => ?_⟩
  rw [h.len] at hi
  have := iv.cells i hi
  rw [h.cel i hi]
  omega

theorem best_spec (l : List (Int × Int)) (n : Int) (m : Nat) : (best l n m = -1 ∧ ∀ i, i < m → ¬ ((l.getD i (0, 0)).1 = n ∧ 0 < gv l i)) ∨ ∃ b : Nat, best l n m = b ∧ b < m ∧ (l.getD b (0, 0)).1 = n ∧ 0 < gv l b ∧ ∀ i, i < m → (l.getD i (0, 0)).1 = n → 0 < gv l i → gv l i ≤ gv l b := by
  induction m with
  | zero => exact .inl ⟨rfl, fun i hi => absurd hi (by omega)⟩
  | succ m ih =>
    have hb : best l n (m + 1) = if (l.getD m (0, 0)).1 = n ∧ 0 < gv l m ∧ (best l n m < 0 ∨ gv l (best l n m).toNat < gv l m) then (m : Int) else best l n m := rfl
    rw [hb]
    rcases ih with ⟨h1, h2⟩ | ⟨b, h1, h2, h3, h4, h5⟩
    · rw [h1]
      by_cases hq : (l.getD m (0, 0)).1 = n ∧ 0 < gv l m
      · rw [if_pos ⟨hq.1, hq.2, .inl (by omega)⟩]
        refine .inr ⟨m, rfl, by omega, hq.1, hq.2, fun i hi h3 h4 => ?_⟩
        by_cases him : i = m
        · subst him; exact Int.le_refl _
        · exact absurd ⟨h3, h4⟩ (h2 i (by omega))
      · rw [if_neg (fun q => hq ⟨q.1, q.2.1⟩)]
        refine .inl ⟨rfl, fun i hi => ?_⟩
        by_cases him : i = m
        · subst him; exact hq
        · exact h2 i (by omega)
    · rw [h1]
      by_cases hq : (l.getD m (0, 0)).1 = n ∧ 0 < gv l m ∧ gv l b < gv l m
      · rw [if_pos ⟨hq.1, hq.2.1, .inr (by rw [Int.toNat_natCast]; exact hq.2.2)⟩]
        refine .inr ⟨m, rfl, by omega, hq.1, hq.2.1, fun i hi h6 h7 => ?_⟩
        by_cases him : i = m
        · subst him; exact Int.le_refl _
        · have := h5 i (by omega) h6 h7
          have := hq.2.2
          omega
      · rw [if_neg (fun q => hq ⟨q.1, q.2.1, by rcases q.2.2 with q2 | q2; omega; rwa [Int.toNat_natCast] at q2⟩)]
        refine .inr ⟨b, rfl, by omega, h3, h4, fun i hi h6 h7 => ?_⟩
        by_cases him : i = m
        · subst him
          rcases Int.lt_or_le (gv l b) (gv l i) with q | q
          · exact absurd ⟨h6, h7, q⟩ hq
          · exact q
        · exact h5 i (by omega) h6 h7

theorem Sim.free {sp : Int} {s : St} {r : Rs} (h : Sim sp s r) (k : Nat) (hk : k < s.bl.length) (hg : 0 < gv r.all k) : s.bl[k]'hk = ((r.all.getD k (0, 0)).1, false) := by
  have h2 := h.tkn k hk
  refine Prod.ext (h.cel k hk).symm ?_
  cases q : (s.bl[k]'hk).2 with
  | false => rfl
  | true => have := h2.2 q; omega
theorem Sim.pos {sp : Int} {s : St} {r : Rs} (h : Sim sp s r) (k : Nat) (hk : k < s.bl.length) (hf : (s.bl[k]'hk).2 = false) : 0 < gv r.all k := by
  have h1 := (h.g0 k hk).1
  rcases Int.lt_or_le 0 (gv r.all k) with q | q
  · exact q
  · have : gv r.all k = 0 := by omega
    have := (h.tkn k hk).1 this
    rw [hf] at this; cases this
theorem Sim.best {sp : Int} {s : St} {r : Rs} (h : Sim sp s r) (iv : Inv sp s) (n : Int) : (s.R n = [] → H.best r.all n r.all.length = -1) ∧ ∀ zs (k : Nat), s.R n = zs ++ [(k : Int) + 1] → H.best r.all n r.all.length = k := by
  have hs := best_spec r.all n r.all.length
  refine ⟨fun hR => ?_, fun zs k hR => ?_⟩
  · rcases hs with ⟨e, _⟩ | ⟨b, e, h1, h2, h3, _⟩
    · exact e
    · exfalso
      rw [h.len] at h1
      have := h.free b h1 h3
      rw [h2] at this
      have := iv.all n b h1 this
      rw [hR] at this
      cases this
  · obtain ⟨k', e, hk, hb⟩ := iv.ids n ((k : Int) + 1) (by rw [hR]; simp)
    obtain rfl : k' = k := by omega
    have hpos := h.pos k' hk (by rw [hb])
    have hcel := h.cel k' hk
    rw [hb] at hcel
    rcases hs with ⟨_, h2⟩ | ⟨b, e, h1, h2, h3, h4⟩
    · exact absurd ⟨hcel, hpos⟩ (h2 k' (by rw [h.len]; exact hk))
    · have hge := h4 k' (by rw [h.len]; exact hk) hcel hpos
      rw [h.len] at h1
      have hf := h.free b h1 h3
      rw [h2] at hf
      have hm := iv.all n b h1 hf
      rw [hR] at hm
      rcases List.mem_append.1 hm with q | q
      · exfalso
        have ho := h.ord n
        rw [hR, List.pairwise_append] at ho
        have := ho.2.2 _ q _ (List.mem_singleton.2 rfl)
        rw [show ((b : Int) + 1).toNat - 1 = b by omega, show ((k' : Int) + 1).toNat - 1 = k' by omega] at this
        omega
      · simp at q
        rw [e, q]

theorem gv_set (l : List (Int × Int)) (k j : Nat) (t : Int) (hk : k < l.length) : gv (setG l k t) j = (if j = k then t else gv l j) ∧ ((setG l k t).getD j (0, 0)).1 = (l.getD j (0, 0)).1 := by
  unfold gv
  rw [setG_eq l k hk]
  by_cases h : j = k
  · subst h
    rw [if_pos rfl]
    simp [List.getD, hk]
  · rw [if_neg h]
    simp [List.getD, List.getElem?_set_ne (fun e => h e.symm)]
theorem Sim.new (n : Int) : Sim 0 (newSt n) ⟨n, 0, 0, []⟩ :=
  ⟨rfl, rfl, rfl, fun k h => absurd h (by simp [newSt]), fun k h => absurd h (by simp [newSt]), fun k h => absurd h (by simp [newSt]), Int.le_refl _, fun n => List.Pairwise.nil⟩

theorem takeSt_bad {s : St} {n : Int} (h : takeE s n ≠ 0 ∨ n = 0) : takeSt s n = s ∧ takeId s n = 0 := by
  unfold takeSt takeId
  unfold takeE at h
  by_cases h0 : n < 0
  · rw [if_pos h0, if_pos h0]; exact ⟨rfl, rfl⟩
  · rw [if_neg h0] at h ⊢
    rw [if_neg h0]
    by_cases h1 : s.lim - s.live < n
    · rw [if_pos h1, if_pos h1]; exact ⟨rfl, rfl⟩
    · rw [if_neg h1] at h ⊢
      rw [if_neg h1]
      rcases h with h | h
      · exact absurd rfl h
      · rw [if_pos h, if_pos h]; exact ⟨rfl, rfl⟩
theorem takeE_zero {s : St} {n : Int} (h : takeE s n = 0) : 0 ≤ n ∧ n ≤ s.lim - s.live := by
  unfold takeE at h
  by_cases q1 : n < 0
  · rw [if_pos q1] at h; omega
  · rw [if_neg q1] at h
    by_cases q2 : s.lim - s.live < n
    · rw [if_pos q2] at h; omega
    · omega

theorem Sim.take {sp : Int} {s : St} {r : Rs} (h : Sim sp s r) (iv : Inv sp s) (n : Int) : Sim sp (takeSt s n) (rtSt r n) ∧ rtId r n = takeId s n := by
  have hE := h.E iv n
  unfold rtSt rtId
  by_cases hn : takeE s n ≠ 0 ∨ n = 0
  · rw [hE, if_pos hn, if_pos hn, (takeSt_bad hn).1, (takeSt_bad hn).2]
    exact ⟨h, rfl⟩
  · rw [hE, if_neg hn, if_neg hn]
    have hz : takeE s n = 0 := by
      by_cases q : takeE s n = 0
      · exact q
      · exact absurd (.inl q) hn
    have hb := takeE_zero hz
    have h0 : 1 ≤ n := by
      rcases Int.lt_or_le 0 n with q | q
      · omega
      · exact absurd (.inr (by omega)) hn
    rcases List.eq_nil_or_concat (s.R n) with hR | ⟨zs, x, hR⟩
    · obtain ⟨e1, e2, _⟩ := take_new h0 hb.2 hR
      rw [(h.best iv n).1 hR, if_pos (by omega), if_pos (by omega), e1, e2, h.len]
      refine ⟨?_, rfl⟩
      have hgv : ∀ k, k < s.bl.length → gv (r.all ++ [(n, 0)]) k = gv r.all k ∧ ((r.all ++ [(n, 0)]).getD k (0, 0)).1 = (r.all.getD k (0, 0)).1 := fun k hk => by
        unfold gv
        rw [List.getD, List.getElem?_append_left (by rw [h.len]; exact hk)]
        exact ⟨rfl, rfl⟩
      have hlast : (r.all ++ [(n, (0 : Int))]).getD s.bl.length (0, 0) = (n, 0) := by
        rw [List.getD, List.getElem?_append_right (by rw [h.len]; exact Nat.le_refl _), h.len, Nat.sub_self]; rfl
      have hget : ∀ (k : Nat) (hk : k < (s.bl ++ [(n, true)]).length), (k = s.bl.length ∧ (s.bl ++ [(n, true)])[k] = (n, true)) ∨ ∃ hk2 : k < s.bl.length, (s.bl ++ [(n, true)])[k] = s.bl[k]'hk2 := fun k hk => by
        by_cases hk2 : k < s.bl.length
        · exact .inr ⟨hk2, List.getElem_append_left hk2⟩
        · left
          have hk3 : k = s.bl.length := by simp at hk; omega
          subst hk3
          exact ⟨rfl, by simp⟩
      refine ⟨h.lim, h.spe, by simp [h.len], fun k hk => ?_, fun k hk => ?_, fun k hk => ?_, h.ck0, fun m => ?_⟩
      · show ((r.all ++ [(n, (0 : Int))]).getD k (0, 0)).1 = ((s.bl ++ [(n, true)])[k]'hk).1
        rcases hget k hk with ⟨e, e2⟩ | ⟨hk2, e2⟩
        · rw [e2, e, hlast]
        · rw [e2, (hgv k hk2).2]; exact h.cel k hk2
      · show gv (r.all ++ [(n, 0)]) k = 0 ↔ ((s.bl ++ [(n, true)])[k]'hk).2 = true
        rcases hget k hk with ⟨e, e2⟩ | ⟨hk2, e2⟩
        · rw [e2, e]
          unfold gv
          rw [hlast]
          simp
        · rw [e2, (hgv k hk2).1]; exact h.tkn k hk2
      · show 0 ≤ gv (r.all ++ [(n, 0)]) k ∧ gv (r.all ++ [(n, 0)]) k ≤ r.ck
        rcases hget k hk with ⟨e, e2⟩ | ⟨hk2, e2⟩
        · rw [e]
          unfold gv
          rw [hlast]
          exact ⟨Int.le_refl _, h.ck0⟩
        · rw [(hgv k hk2).1]; exact h.g0 k hk2
      · refine List.Pairwise.imp_of_mem ?_ (h.ord m)
        intro x y hx hy hxy
        obtain ⟨k1, e1, hk1, _⟩ := iv.ids m x hx
        obtain ⟨k2, e2, hk2, _⟩ := iv.ids m y hy
        rw [e1, e2, show ((k1 : Int) + 1).toNat - 1 = k1 by omega, show ((k2 : Int) + 1).toNat - 1 = k2 by omega] at hxy ⊢
        show gv (r.all ++ [(n, 0)]) k1 < gv (r.all ++ [(n, 0)]) k2
        rw [(hgv k1 hk1).1, (hgv k2 hk2).1]; exact hxy
    · rw [List.concat_eq_append] at hR
      obtain ⟨k, rfl, hk, hbk⟩ := iv.ids n x (by rw [hR]; simp)
      obtain ⟨e1, e2, _⟩ := take_old h0 hb.2 hR
      rw [(h.best iv n).2 zs k hR, if_neg (by omega), if_neg (by omega), e1, e2, Int.toNat_natCast]
      refine ⟨?_, rfl⟩
      have hkl : k < r.all.length := by rw [h.len]; exact hk
      have hnd := iv.nodup n
      rw [hR, List.nodup_append] at hnd
      refine ⟨h.lim, h.spe, ?_, fun j hj => ?_, fun j hj => ?_, fun j hj => ?_, h.ck0, fun m => ?_⟩
      · show (setG r.all k 0).length = (setT s.bl k true).length
        rw [setG_len, setT_len]; exact h.len
      · have hj2 : j < s.bl.length := by have := hj; simp only [setT_len] at this; exact this
        show ((setG r.all k 0).getD j (0, 0)).1 = ((setT s.bl k true)[j]'hj).1
        rw [(gv_set r.all k j 0 hkl).2, setT_get s.bl k j true hk hj, h.cel j hj2]
        by_cases hjk : j = k
        · subst hjk; rw [if_pos rfl]
        · rw [if_neg hjk]
      · have hj2 : j < s.bl.length := by have := hj; simp only [setT_len] at this; exact this
        show gv (setG r.all k 0) j = 0 ↔ ((setT s.bl k true)[j]'hj).2 = true
        rw [(gv_set r.all k j 0 hkl).1, setT_get s.bl k j true hk hj]
        by_cases hjk : j = k
        · rw [if_pos hjk, if_pos hjk]; simp
        · rw [if_neg hjk, if_neg hjk]; exact h.tkn j hj2
      · have hj2 : j < s.bl.length := by have := hj; simp only [setT_len] at this; exact this
        show 0 ≤ gv (setG r.all k 0) j ∧ gv (setG r.all k 0) j ≤ r.ck
        rw [(gv_set r.all k j 0 hkl).1]
        by_cases hjk : j = k
        · rw [if_pos hjk]; exact ⟨Int.le_refl _, h.ck0⟩
        · rw [if_neg hjk]; exact h.g0 j hj2
      · show (if m = n then zs else s.R m).Pairwise _
        have hsub : (if m = n then zs else s.R m).Pairwise (fun x y => gv r.all (x.toNat - 1) < gv r.all (y.toNat - 1)) := by
          by_cases hm : m = n
          · rw [if_pos hm]
            have := h.ord n
            rw [hR, List.pairwise_append] at this
            exact this.1
          · rw [if_neg hm]; exact h.ord m
        have hmem : ∀ x, x ∈ (if m = n then zs else s.R m) → ∃ j : Nat, x = (j : Int) + 1 ∧ j ≠ k := fun x hx => by
          by_cases hm : m = n
          · rw [if_pos hm] at hx
            obtain ⟨j, e, hj, _⟩ := iv.ids n x (by rw [hR]; simp [hx])
            exact ⟨j, e, fun e2 => hnd.2.2 _ hx _ (List.mem_singleton.2 rfl) (by rw [e, e2])⟩
          · rw [if_neg hm] at hx
            obtain ⟨j, e, hj, hb2⟩ := iv.ids m x hx
            refine ⟨j, e, fun e2 => ?_⟩
            subst e2
            rw [hbk] at hb2
            injection hb2 with hb2
            exact hm hb2.symm
        refine List.Pairwise.imp_of_mem ?_ hsub
        intro x y hx hy hxy
        obtain ⟨k1, e1, hk1⟩ := hmem x hx
        obtain ⟨k2, e2, hk2⟩ := hmem y hy
        rw [e1, e2, show ((k1 : Int) + 1).toNat - 1 = k1 by omega, show ((k2 : Int) + 1).toNat - 1 = k2 by omega] at hxy ⊢
        show gv (setG r.all k 0) k1 < gv (setG r.all k 0) k2
        rw [(gv_set r.all k k1 0 hkl).1, (gv_set r.all k k2 0 hkl).1, if_neg hk1, if_neg hk2]; exact hxy

theorem Sim.given {sp : Int} {s : St} {r : Rs} (h : Sim sp s r) (id : Int) : rGiven r id ↔ Given s id := by
  unfold rGiven Given
  rw [h.len]
  refine and_congr_right fun h1 => and_congr_right fun h2 => ?_
  have hk : id.toNat - 1 < s.bl.length := by omega
  have h3 := h.tkn _ hk
  have h4 := h.g0 _ hk
  unfold gv at h3 h4
  have e : s.bl.getD (id.toNat - 1) (0, false) = s.bl[id.toNat - 1]'hk := by rw [List.getD, List.getElem?_eq_getElem hk]; rfl
  rw [e, ← h3]
  omega
theorem Sim.giveE {sp : Int} {s : St} {r : Rs} (h : Sim sp s r) (id : Int) : rgE r id = H.giveE s id := by
  unfold rgE H.giveE
  by_cases h0 : id = 0
  · rw [if_pos h0, if_pos h0]
  · rw [if_neg h0, if_neg h0]
    by_cases hg : Given s id
    · rw [if_pos ((h.given id).2 hg), if_pos hg]
    · rw [if_neg (fun q => hg ((h.given id).1 q)), if_neg hg]
theorem Sim.give {sp : Int} {s : St} {r : Rs} (h : Sim sp s r) (iv : Inv sp s) (id : Int) : Sim sp (giveSt s id) (rgSt r id) := by
  by_cases hg : Given s id
  · unfold rgSt
    rw [if_pos ((h.given id).2 hg)]
    obtain ⟨k, rfl⟩ : ∃ k : Nat, id = (k : Int) + 1 := ⟨id.toNat - 1, by have := hg.1; omega⟩
    have hk : k < s.bl.length := by have := hg.2.1; omega
    have ek : ((k : Int) + 1).toNat - 1 = k := by omega
    have ht : (s.bl[k]'hk).2 = true := by
      have := hg.2.2
      rwa [ek, List.getD, List.getElem?_eq_getElem hk] at this
    rw [(give_at hk ht).2, ek]
    obtain ⟨x, hx⟩ : ∃ x, (s.bl[k]'hk).1 = x := ⟨_, rfl⟩
    have hb : s.bl[k]'hk = (x, true) := Prod.ext hx ht
    rw [hx]
    have hkl : k < r.all.length := by rw [h.len]; exact hk
    have hck := h.ck0
    have hnot : ∀ (n : Int) (j : Nat), (j : Int) + 1 ∈ s.R n → j ≠ k := fun n j q e => by
      obtain ⟨j', e2, hj, hb2⟩ := iv.ids n _ q
      have : j' = k := by omega
      subst this
      rw [hb] at hb2
      injection hb2 with _ hb2
      cases hb2
    have hgvs : ∀ j, gv (setG r.all k (r.ck + 1)) j = if j = k then r.ck + 1 else gv r.all j := fun j => (gv_set r.all k j _ hkl).1
    refine ⟨h.lim, h.spe, ?_, fun j hj => ?_, fun j hj => ?_, fun j hj => ?_, by show 0 ≤ r.ck + 1; omega, fun m => ?_⟩
    · show (setG r.all k (r.ck + 1)).length = (setT s.bl k false).length
      rw [setG_len, setT_len]; exact h.len
    · have hj2 : j < s.bl.length := by have := hj; simp only [setT_len] at this; exact this
      show ((setG r.all k (r.ck + 1)).getD j (0, 0)).1 = ((setT s.bl k false)[j]'hj).1
      rw [(gv_set r.all k j _ hkl).2, setT_get s.bl k j false hk hj, h.cel j hj2]
      by_cases hjk : j = k
      · subst hjk; rw [if_pos rfl]
      · rw [if_neg hjk]
    · have hj2 : j < s.bl.length := by have := hj; simp only [setT_len] at this; exact this
      show gv (setG r.all k (r.ck + 1)) j = 0 ↔ ((setT s.bl k false)[j]'hj).2 = true
      rw [hgvs, setT_get s.bl k j false hk hj]
      by_cases hjk : j = k
      · rw [if_pos hjk, if_pos hjk]; simp; omega
      · rw [if_neg hjk, if_neg hjk]; exact h.tkn j hj2
    · have hj2 : j < s.bl.length := by have := hj; simp only [setT_len] at this; exact this
      show 0 ≤ gv (setG r.all k (r.ck + 1)) j ∧ gv (setG r.all k (r.ck + 1)) j ≤ r.ck + 1
      rw [hgvs]
      by_cases hjk : j = k
      · rw [if_pos hjk]; omega
      · rw [if_neg hjk]; have := h.g0 j hj2; omega
    · have hold : ∀ m, (s.R m).Pairwise (fun a b => gv (setG r.all k (r.ck + 1)) (a.toNat - 1) < gv (setG r.all k (r.ck + 1)) (b.toNat - 1)) := fun m => by
        refine List.Pairwise.imp_of_mem ?_ (h.ord m)
        intro a b ha hb3 hab
        obtain ⟨k1, e1, hk1, _⟩ := iv.ids m a ha
        obtain ⟨k2, e2, hk2, _⟩ := iv.ids m b hb3
        rw [e1] at ha
        rw [e2] at hb3
        rw [e1, e2, show ((k1 : Int) + 1).toNat - 1 = k1 by omega, show ((k2 : Int) + 1).toNat - 1 = k2 by omega] at hab ⊢
        rw [hgvs, hgvs, if_neg (hnot m k1 ha), if_neg (hnot m k2 hb3)]; exact hab
      show (if m = x then s.R x ++ [(k : Int) + 1] else s.R m).Pairwise _
      by_cases hm : m = x
      · rw [if_pos hm, List.pairwise_append]
        refine ⟨hold x, List.pairwise_singleton _ _, fun a ha b hb3 => ?_⟩
        rw [List.mem_singleton.1 hb3]
        obtain ⟨k1, e1, hk1, _⟩ := iv.ids x a ha
        rw [e1] at ha
        rw [e1, show ((k1 : Int) + 1).toNat - 1 = k1 by omega, ek]
        show gv (setG r.all k (r.ck + 1)) k1 < gv (setG r.all k (r.ck + 1)) k
        rw [hgvs, hgvs, if_neg (hnot x k1 ha), if_pos rfl]
        have := (h.g0 k1 hk1).2
        omega
      · rw [if_neg hm]; exact hold m
  · unfold rgSt giveSt
    rw [if_neg (fun q => hg ((h.given id).1 q)), if_neg hg]
    exact h
theorem Sim.spend {sp : Int} {s : St} {r : Rs} (h : Sim sp s r) (iv : Inv sp s) (n : Int) : Sim (if takeE s n = 0 then sp + n else sp) (spendSt s n) (rspSt r n) := by
  unfold rspSt
  rw [h.E iv]
  have e : spendSt s n = if takeE s n = 0 then { s with live := s.live + n } else s := by
    unfold spendSt takeE
    by_cases h0 : n < 0
    · rw [if_pos h0, if_pos h0, if_neg (by omega)]
    · by_cases h1 : s.lim - s.live < n
      · rw [if_neg h0, if_pos h1, if_neg h0, if_pos h1, if_neg (by omega)]
      · rw [if_neg h0, if_neg h1, if_neg h0, if_neg h1, if_pos rfl]
  rw [e]
  by_cases hE : takeE s n = 0
  · rw [if_pos hE, if_pos hE, if_pos hE]
    exact ⟨h.lim, by show r.sp + n = sp + n; rw [h.spe], h.len, h.cel, h.tkn, h.g0, h.ck0, h.ord⟩
  · rw [if_neg hE, if_neg hE, if_neg hE]; exact h
end Go.Proofs.Yteknjkofmkigoab.H
