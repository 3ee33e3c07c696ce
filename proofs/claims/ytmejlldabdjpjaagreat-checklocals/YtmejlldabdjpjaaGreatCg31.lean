/- Faults of the check lie at nodes; behind a fault nothing else is told (plain). -/
import Derived.Test.YtmejlldabdjpjaaGreatCg22
import Derived.Test.YtmejlldabdjpjaaGreatCg04
namespace Go.Proofs.YtmejlldabdjpjaaGreat

/-- Does a node of the row, or of a tree below, begin there? -/
def F.bg (q : Int) : F → Bool
  | .nil => false
  | .cons _ _ _ p ks r => decide (p = q) || ks.bg q || r.bg q
/-- From s to s' the fault stays, or it is a name or a size at a place of T; a fault that is there stays. -/
structure Fl (T : Int → Prop) (s s' : Cs) : Prop where
  at' : (s'.cd = s.cd ∧ s'.ct = s.ct) ∨ ((s'.cd = 5 ∨ s'.cd = 6) ∧ T s'.ct)
  st : s.bad = true → s'.cd = s.cd ∧ s'.ct = s.ct
section
variable {T U : Int → Prop} {a b c : Cs}
theorem Fl.refl (T : Int → Prop) (s : Cs) : Fl T s s := ⟨.inl ⟨rfl, rfl⟩, fun _ => ⟨rfl, rfl⟩⟩
theorem Fl.same {T : Int → Prop} {s s' : Cs} (h1 : s'.cd = s.cd) (h2 : s'.ct = s.ct) : Fl T s s' := ⟨.inl ⟨h1, h2⟩, fun _ => ⟨h1, h2⟩⟩
theorem bad_eq {s s' : Cs} (h1 : s'.cd = s.cd) (h2 : s'.ct = s.ct) : s'.bad = s.bad := by unfold Cs.bad; rw [h1, h2]
theorem Fl.trans (h : Fl T a b) (k : Fl T b c) : Fl T a c := by
  refine ⟨?_, fun hb => ?_⟩
  · rcases k.at' with k1 | k1
    · rcases h.at' with h1 | h1
      · exact .inl ⟨k1.1.trans h1.1, k1.2.trans h1.2⟩
      · exact .inr (by rw [k1.1, k1.2]; exact h1)
    · exact .inr k1
  · have h1 := h.st hb
    have h2 := k.st ((bad_eq h1.1 h1.2).trans hb)
    exact ⟨h2.1.trans h1.1, h2.2.trans h1.2⟩
theorem Fl.mono (h : Fl T a b) (hs : ∀ q, T q → U q) : Fl U a b := ⟨h.at'.imp id fun e => ⟨e.1, hs _ e.2⟩, h.st⟩
end
theorem fl_fau {T : Int → Prop} (c p : Int) (s : Cs) (hc : c = 5 ∨ c = 6) (hp : T p) : Fl T s (fau c p s) := by
  unfold fau
  split
  · exact .refl _ _
  · next h => exact ⟨.inr ⟨hc, hp⟩, fun hb => absurd hb h⟩
theorem fl_lim {T : Int → Prop} (p n m : Int) (s : Cs) (hp : T p) : Fl T s (lim p n m s) := by
  unfold lim; split
  · exact fl_fau _ _ _ (.inr rfl) hp
  · exact .refl _ _
theorem fl_unk {T : Int → Prop} (t : Tx) (p : Int) (s : Cs) (hp : T p) : Fl T s (unk t p s) := by
  unfold unk; split
  · exact fl_fau _ _ _ (.inl rfl) hp
  · exact .refl _ _
theorem fl_glo {T : Int → Prop} (t : Tx) (s : Cs) : Fl T s (glo t s) := by
  unfold glo; split
  · exact .refl _ _
  · exact .same rfl rfl
theorem fl_con {T : Int → Prop} (v : Vl) (p : Int) (s : Cs) (hp : T p) : Fl T s (con v p s) := by
  unfold con
  cases s.fs[s.nu]? with
  | none => exact .refl _ _
  | some f =>
    show Fl T s (conF f v p s)
    unfold conF; split
    · exact .refl _ _
    · exact Fl.trans (b := { s with fs := s.fs.set s.nu { f with cs := f.cs ++ [v] } }) (.same rfl rfl) (fl_lim _ _ _ _ hp)
theorem fl_nmC {T : Int → Prop} (t : Tx) (p : Int) (s : Cs) (hp : T p) : Fl T s (nmC t p s) := by
  unfold nmC ngl
  split
  · exact fl_unk _ _ _ hp
  · refine (fl_unk t p s hp).trans ?_
    split
    · exact (fl_fau _ _ _ (.inl rfl) hp).trans (fl_glo _ _)
    · exact fl_glo _ _
theorem fl_brN {T : Int → Prop} : ∀ (r : F) (s : Cs), (∀ q, r.bg q = true → T q) → Fl T s (brN r s)
  | .nil, s, _ => .refl _ _
  | .cons k t n p ks r, s, h => by
    have h1 := fl_unk (T := T) t p s (h p (by simp [F.bg]))
    refine (h1.trans (b := unk t p s) (c := { unk t p s with lo := s.lo ++ [t] }) (.same rfl rfl)).trans (fl_brN r _ fun q hq => h q (by simp [F.bg, hq]))
theorem fl_slo {T : Int → Prop} (s : Cs) : Fl T s (slo s) := by
  unfold slo
  cases s.fs[s.nu]? with
  | none => exact .refl _ _
  | some f => exact .same rfl rfl
theorem fl_bri {T : Int → Prop} (p : Int) (r : F) (s : Cs) (hp : T p) (h : ∀ q, r.bg q = true → T q) : Fl T s (bri p r s) := ((fl_brN r s h).trans (fl_lim _ _ _ _ hp)).trans (fl_slo _)
theorem F.bg_take (q : Int) : ∀ (f : F) (i : Nat), (f.take i).bg q = true → f.bg q = true
  | .nil, i, h => by cases i <;> exact h
  | .cons _ _ _ _ _ _, 0, h => by simp [F.take, F.bg] at h
  | .cons k t n p ks r, i + 1, h => by
    simp only [F.take, F.bg, Bool.or_eq_true] at h ⊢
    exact h.imp id (F.bg_take q r i)
theorem F.bg_drop (q : Int) : ∀ (f : F) (i : Nat), (f.drop i).bg q = true → f.bg q = true
  | f, 0, h => by cases f <;> exact h
  | .nil, i + 1, h => h
  | .cons k t n p ks r, i + 1, h => by
    simp only [F.bg, Bool.or_eq_true]
    exact .inr (F.bg_drop q r i h)
theorem F.bg_get (q : Int) : ∀ (f : F) (i : Nat) {k : Int} {t : Tx} {n p : Int} {ks : F}, f.get? i = some (k, t, n, p, ks) → (p = q ∨ ks.bg q = true) → f.bg q = true
  | .nil, i, _, _, _, _, _, h, _ => by simp [F.get?] at h
  | .cons k t n p ks r, 0, _, _, _, _, _, h, e => by
    simp only [F.get?, Option.some.injEq, Prod.mk.injEq] at h
    obtain ⟨rfl, rfl, rfl, rfl, rfl⟩ := h
    simp only [F.bg, Bool.or_eq_true, decide_eq_true_eq]
    exact .inl e
  | .cons k t n p ks r, i + 1, _, _, _, _, _, h, e => by
    simp only [F.bg, Bool.or_eq_true]
    exact .inr (F.bg_get q r i h e)
section
variable {nd : Ndc} (H : ∀ (T : Int → Prop) k t n p ks s, T p → (∀ q, ks.bg q = true → T q) → Fl T s (nd k t n p ks s))
include H
theorem fl_ckN {T : Int → Prop} : ∀ (r : F) (s : Cs), (∀ q, r.bg q = true → T q) → Fl T s (ckN nd r s)
  | .nil, s, _ => .refl _ _
  | .cons k t n p ks r, s, h => (H T k t n p ks s (h p (by simp [F.bg])) fun q hq => h q (by simp [F.bg, hq])).trans (fl_ckN r _ fun q hq => h q (by simp [F.bg, hq]))
theorem fl_ckA {T : Int → Prop} (n : Int) : ∀ (r : F) (i : Int) (s : Cs), (∀ q, r.bg q = true → T q) → Fl T s (ckA nd n i r s)
  | .nil, i, s, _ => .refl _ _
  | .cons k t m p ks r, i, s, h => by
    have hp := h p (by simp [F.bg])
    have h1 : Fl T s (if decide (i < n) && ixk k ks then fau 5 p s else s) := by
      split
      · exact fl_fau _ _ _ (.inl rfl) hp
      · exact .refl _ _
    exact (h1.trans (H T k t m p ks _ hp fun q hq => h q (by simp [F.bg, hq]))).trans (fl_ckA n r (i + 1) _ fun q hq => h q (by simp [F.bg, hq]))
theorem fl_ndG {T : Int → Prop} (ks : F) (i : Nat) (s : Cs) (h : ∀ q, ks.bg q = true → T q) : Fl T s (ndG nd ks i s) := by
  unfold ndG
  cases hg : ks.get? i with
  | none => exact .refl _ _
  | some x =>
    obtain ⟨k, t, n, p, f⟩ := x
    exact H T k t n p f s (h p (F.bg_get p ks i hg (.inl rfl))) fun q hq => h q (F.bg_get q ks i hg (.inr hq))
theorem fl_ckS (T : Int → Prop) (k : Int) (t : Tx) (n p : Int) (ks : F) (s : Cs) (hp : T p) (h : ∀ q, ks.bg q = true → T q) : Fl T s (ckS nd k t n p ks s) := by
  have L := fun (n m : Int) (s : Cs) => fl_lim (T := T) p n m s hp
  have ht := fun i q (hq : (ks.take i).bg q = true) => h q (F.bg_take q ks i hq)
  have hd := fun i q (hq : (ks.drop i).bg q = true) => h q (F.bg_drop q ks i hq)
  have hlop : ∀ (m : Nat) (s : Cs), Fl T s (lopC nd p ks m s) := fun m s => by
    unfold lopC
    have e0 := fl_ckN (T := T) H ((ks.take (ks.len - 1)).drop m) s fun q hq => ht (ks.len - 1) q (F.bg_drop q (ks.take (ks.len - 1)) m hq)
    refine e0.trans ?_
    clear e0
    generalize ckN nd ((ks.take (ks.len - 1)).drop m) s = s1
    unfold lopB
    have e1 := (Fl.same (T := T) (s := s1) (s' := { s1 with lo := s1.lo ++ [[], [], []] }) rfl rfl).trans (fl_bri p (ks.take m) _ hp (ht m))
    generalize bri p (ks.take m) { s1 with lo := s1.lo ++ [[], [], []] } = s3 at e1 ⊢
    have e2 := (e1.trans (Fl.same (s' := { s3 with lp := s3.lp + 1 }) rfl rfl)).trans (fl_ndG H ks (ks.len - 1) _ h)
    exact e2.trans (.same rfl rfl)
  unfold ckS
  split
  · exact .refl _ _
  split
  · exact fl_con _ _ _ hp
  split
  · exact fl_con _ _ _ hp
  split
  · exact fl_nmC _ _ _ hp
  split
  · unfold ckI; split
    · cases ks.get? 0 with
      | none => exact .refl _ _
      | some x =>
        cases ks.get? 1 with
        | none => exact .refl _ _
        | some y =>
          simp only [Option.elim]
          split
          · exact fl_fau _ _ _ (.inl rfl) hp
          · exact .refl _ _
    · exact fl_ckN H _ _ h
  split
  · exact (L _ _ _).trans (fl_ckN H _ _ h)
  split
  · exact (L _ _ _).trans (fl_ckN H _ _ h)
  unfold ckX
  split
  · unfold blkC
    exact (fl_ckN H ks s h).trans (.same rfl rfl)
  split
  · exact (((L _ _ _).trans (L _ _ _)).trans (fl_ckN H _ _ (hd _))).trans (fl_bri _ _ _ hp (ht _))
  split
  · exact ((L _ _ _).trans (L _ _ _)).trans (fl_ckA H _ _ _ _ h)
  split
  · exact ((Fl.same (T := T) (s := s) (s' := { s with lp := s.lp + 1 }) rfl rfl).trans (fl_ckN H ks _ h)).trans (.same rfl rfl)
  split
  · exact hlop _ _
  split
  · exact ((L _ _ _).trans (L _ _ _)).trans (hlop _ _)
  split
  · split
    · exact fl_fau _ _ _ (.inl rfl) hp
    · exact .refl _ _
  split
  · exact (L _ _ _).trans (fl_ckN H _ _ h)
  split
  · unfold fncB fncH
    have e1 := (((L (s.fs.length : Int) 100 s).trans (fl_unk t p _ hp)).trans (L n 50 _)).trans (fl_glo t _)
    generalize glo t (lim p n 50 (unk t p (lim p (s.fs.length : Int) 100 s))) = s4 at e1 ⊢
    have e2 := (e1.trans (Fl.same (T := T) (s' := { s4 with fs := s4.fs ++ [⟨t, p, n, 0, []⟩], nu := s4.fs.length, lo := [], lp := 0, ar := s4.lo }) rfl rfl)).trans (fl_bri p (ks.take n.toNat) _ hp (ht _))
    exact (e2.trans (fl_ndG H ks n.toNat _ h)).trans (.same rfl rfl)
  · exact fl_ckN H _ _ h
end
theorem fl_ck : ∀ (N : Nat) (T : Int → Prop) (k : Int) (t : Tx) (n p : Int) (ks : F) (s : Cs), T p → (∀ q, ks.bg q = true → T q) → Fl T s (ck N k t n p ks s)
  | 0, _, _, _, _, _, _, _, _, _ => .refl _ _
  | N + 1, T, k, t, n, p, ks, s, hp, h => fl_ckS (fl_ck N) T k t n p ks s hp h
/-- A fault that Check tells of a tree is a name or a size, at a node of it. -/
theorem chF_at (k : Int) (t : Tx) (n p : Int) (ks : F) (hc : (chF (one k t n p ks)).2.1 ≠ 0) : ((chF (one k t n p ks)).2.1 = 5 ∨ (chF (one k t n p ks)).2.1 = 6) ∧ (one k t n p ks).bg (chF (one k t n p ks)).2.2 = true ∧ (chF (one k t n p ks)).1 = ([], []) := by
  have e : chF (one k t n p ks) = if 100 < ks.hgt + 1 then (([], []), 6, p) else outC (ck (ks.siz + 1) k t n p ks (s0 p)) := rfl
  rw [e] at hc ⊢
  split at hc
  · next h1 => rw [if_pos h1]; exact ⟨.inr rfl, by simp [one, F.bg], rfl⟩
  · next h1 =>
    rw [if_neg h1]
    have hf := fl_ck (ks.siz + 1) (fun q => p = q ∨ ks.bg q = true) k t n p ks (s0 p) (.inl rfl) fun q hq => .inr hq
    generalize ck (ks.siz + 1) k t n p ks (s0 p) = s1 at hf hc ⊢
    unfold outC at hc ⊢
    split at hc
    · next h2 =>
      rw [if_pos h2]
      rcases hf.at' with q | q
      · exact absurd q.1 hc
      · refine ⟨q.1, ?_, rfl⟩
        simp only [one, F.bg, Bool.or_eq_true, decide_eq_true_eq]
        exact .inl q.2
    · exact absurd rfl hc
end Go.Proofs.YtmejlldabdjpjaaGreat

/- How many functions the check tells (plain). -/
namespace Go.Proofs.YtmejlldabdjpjaaGreat

/-- No function anywhere. -/
def F.n31 : F → Bool
  | .nil => true
  | .cons k _ _ _ ks r => decide (k ≠ 31) && ks.n31 && r.n31
/-- The functions' names and places stay; so many more. -/
structure Fk (z : Nat) (s s' : Cs) : Prop where
  len : s'.fs.length = s.fs.length + z
  kep : ∀ (i : Nat) (f : Fn), s.fs[i]? = some f → ∃ f', s'.fs[i]? = some f' ∧ f'.nm = f.nm ∧ f'.pl = f.pl
theorem Fk.of {s s' : Cs} (h : s'.fs = s.fs) : Fk 0 s s' := ⟨by rw [h]; rfl, fun _ f hf => ⟨f, by rw [h]; exact hf, rfl, rfl⟩⟩
theorem Fk.refl (s : Cs) : Fk 0 s s := .of rfl
theorem Fk.trans {y z : Nat} {a b c : Cs} (h : Fk y a b) (k : Fk z b c) : Fk (y + z) a c :=
  ⟨by rw [k.len, h.len]; omega, fun i f hf => by
    obtain ⟨f1, h1, h2, h3⟩ := h.kep i f hf
    obtain ⟨f2, k1, k2, k3⟩ := k.kep i f1 h1
    exact ⟨f2, k1, k2.trans h2, k3.trans h3⟩⟩
theorem Fk.t0 {a b c : Cs} (h : Fk 0 a b) (k : Fk 0 b c) : Fk 0 a c := h.trans k
theorem Fk.set {s s' : Cs} {i : Nat} {f g : Fn} (hf : s.fs[i]? = some f) (h : s'.fs = s.fs.set i g) (h1 : g.nm = f.nm) (h2 : g.pl = f.pl) : Fk 0 s s' := by
  refine ⟨by rw [h]; simp, fun j x hx => ?_⟩
  rw [h]
  by_cases e : i = j
  · subst e
    have hl := (List.getElem?_eq_some_iff.1 hf).1
    rw [hf] at hx
    injection hx with hx
    exact ⟨g, by rw [List.getElem?_set_self hl], by rw [← hx]; exact h1, by rw [← hx]; exact h2⟩
  · exact ⟨x, by rw [List.getElem?_set_ne e]; exact hx, rfl, rfl⟩
theorem k_fau (c p : Int) (s : Cs) : Fk 0 s (fau c p s) := by unfold fau; split <;> exact .of rfl
theorem k_lim (p n m : Int) (s : Cs) : Fk 0 s (lim p n m s) := by
  unfold lim; split
  · exact k_fau _ _ _
  · exact .refl _
theorem k_unk (t : Tx) (p : Int) (s : Cs) : Fk 0 s (unk t p s) := by
  unfold unk; split
  · exact k_fau _ _ _
  · exact .refl _
theorem k_glo (t : Tx) (s : Cs) : Fk 0 s (glo t s) := by unfold glo; split <;> exact .of rfl
theorem k_con (v : Vl) (p : Int) (s : Cs) : Fk 0 s (con v p s) := by
  unfold con
  cases hf : s.fs[s.nu]? with
  | none => exact .refl _
  | some f =>
    show Fk 0 s (conF f v p s)
    unfold conF; split
    · exact .refl _
    · exact (Fk.set (s' := { s with fs := s.fs.set s.nu { f with cs := f.cs ++ [v] } }) hf rfl rfl rfl).t0 (k_lim _ _ _ _)
theorem k_nmC (t : Tx) (p : Int) (s : Cs) : Fk 0 s (nmC t p s) := by
  unfold nmC ngl
  split
  · exact k_unk _ _ _
  · refine (k_unk t p s).t0 ?_
    split
    · exact (k_fau _ _ _).t0 (k_glo _ _)
    · exact k_glo _ _
theorem k_brN : ∀ (r : F) (s : Cs), Fk 0 s (brN r s)
  | .nil, _ => .refl _
  | .cons _ t _ p _ r, s => ((k_unk t p s).t0 (b := unk t p s) (c := { unk t p s with lo := s.lo ++ [t] }) (.of rfl)).t0 (k_brN r _)
theorem k_slo (s : Cs) : Fk 0 s (slo s) := by
  unfold slo
  cases hf : s.fs[s.nu]? with
  | none => exact .refl _
  | some f => exact Fk.set hf rfl rfl rfl
theorem k_bri (p : Int) (r : F) (s : Cs) : Fk 0 s (bri p r s) := ((k_brN r s).t0 (k_lim _ _ _ _)).t0 (k_slo _)
theorem F.n31_take : ∀ (f : F) (i : Nat), f.n31 = true → (f.take i).n31 = true
  | .nil, i, h => by cases i <;> exact h
  | .cons _ _ _ _ _ _, 0, _ => rfl
  | .cons k t n p ks r, i + 1, h => by
    simp only [F.n31, F.take, Bool.and_eq_true] at h ⊢
    exact ⟨h.1, F.n31_take r i h.2⟩
theorem F.n31_drop : ∀ (f : F) (i : Nat), f.n31 = true → (f.drop i).n31 = true
  | f, 0, h => by cases f <;> exact h
  | .nil, i + 1, _ => rfl
  | .cons k t n p ks r, i + 1, h => F.n31_drop r i (by simp only [F.n31, Bool.and_eq_true] at h; exact h.2)
theorem F.n31_get : ∀ (f : F) (i : Nat) {k : Int} {t : Tx} {n p : Int} {ks : F}, f.n31 = true → f.get? i = some (k, t, n, p, ks) → k ≠ 31 ∧ ks.n31 = true
  | .nil, i, _, _, _, _, _, _, h => by simp [F.get?] at h
  | .cons k t n p ks r, 0, _, _, _, _, _, ho, h => by
    simp only [F.get?, Option.some.injEq, Prod.mk.injEq] at h
    obtain ⟨rfl, rfl, rfl, rfl, rfl⟩ := h
    simp only [F.n31, Bool.and_eq_true, decide_eq_true_eq] at ho
    exact ho.1
  | .cons k t n p ks r, i + 1, _, _, _, _, _, ho, h => F.n31_get r i (by simp only [F.n31, Bool.and_eq_true] at ho; exact ho.2) h
section
variable {nd : Ndc} (H : ∀ k t n p ks s, k ≠ 31 → ks.n31 = true → Fk 0 s (nd k t n p ks s))
include H
theorem k_ckN : ∀ (r : F) (s : Cs), r.n31 = true → Fk 0 s (ckN nd r s)
  | .nil, s, _ => .refl _
  | .cons k t n p ks r, s, h => by
    simp only [F.n31, Bool.and_eq_true, decide_eq_true_eq] at h
    exact (H k t n p ks s h.1.1 h.1.2).t0 (k_ckN r _ h.2)
theorem k_ckA (n : Int) : ∀ (r : F) (i : Int) (s : Cs), r.n31 = true → Fk 0 s (ckA nd n i r s)
  | .nil, i, s, _ => .refl _
  | .cons k t m p ks r, i, s, h => by
    simp only [F.n31, Bool.and_eq_true, decide_eq_true_eq] at h
    have h1 : Fk 0 s (if decide (i < n) && ixk k ks then fau 5 p s else s) := by
      split
      · exact k_fau _ _ _
      · exact .refl _
    exact (h1.t0 (H k t m p ks _ h.1.1 h.1.2)).t0 (k_ckA n r (i + 1) _ h.2)
theorem k_ndG (ks : F) (i : Nat) (s : Cs) (h : ks.n31 = true) : Fk 0 s (ndG nd ks i s) := by
  unfold ndG
  cases hg : ks.get? i with
  | none => exact .refl _
  | some x =>
    obtain ⟨k, t, n, p, f⟩ := x
    have := F.n31_get ks i h hg
    exact H k t n p f s this.1 this.2
theorem k_fnc (t : Tx) (n p : Int) (ks : F) (m : Nat) (s : Cs) (h : ks.n31 = true) : Fk 1 s (fncB nd t n p ks m (fncH t n p s)) := by
  unfold fncB fncH
  have e1 := (((k_lim p (s.fs.length : Int) 100 s).t0 (k_unk t p _)).t0 (k_lim p n 50 _)).t0 (k_glo t _)
  generalize glo t (lim p n 50 (unk t p (lim p (s.fs.length : Int) 100 s))) = s4 at e1 ⊢
  have e2 : Fk 1 s4 { s4 with fs := s4.fs ++ [⟨t, p, n, 0, []⟩], nu := s4.fs.length, lo := [], lp := 0, ar := s4.lo } := ⟨by simp, fun i f hf => ⟨f, by
    have hl := (List.getElem?_eq_some_iff.1 hf).1
    simp only
    rw [List.getElem?_append_left hl]; exact hf, rfl, rfl⟩⟩
  have e3 := (((e1.trans e2).trans (k_bri p (ks.take m) _)).trans (k_ndG H ks m _ h)).trans (Fk.of (s' := { ndG nd ks m (bri p (ks.take m) { s4 with fs := s4.fs ++ [⟨t, p, n, 0, []⟩], nu := s4.fs.length, lo := [], lp := 0, ar := s4.lo }) with nu := s4.nu, lo := s4.lo, lp := s4.lp, ar := [] }) rfl)
  exact e3
theorem k_ckS (k : Int) (t : Tx) (n p : Int) (ks : F) (s : Cs) (hk : k ≠ 31) (h : ks.n31 = true) : Fk 0 s (ckS nd k t n p ks s) := by
  have L := fun (n m : Int) (s : Cs) => k_lim p n m s
  have hlop : ∀ (m : Nat) (s : Cs), Fk 0 s (lopC nd p ks m s) := fun m s => by
    unfold lopC
    have e0 := k_ckN H ((ks.take (ks.len - 1)).drop m) s (F.n31_drop _ m (F.n31_take ks _ h))
    refine e0.t0 ?_
    clear e0
    generalize ckN nd ((ks.take (ks.len - 1)).drop m) s = s1
    unfold lopB
    have e1 := (Fk.of (s := s1) (s' := { s1 with lo := s1.lo ++ [[], [], []] }) rfl).t0 (k_bri p (ks.take m) _)
    generalize bri p (ks.take m) { s1 with lo := s1.lo ++ [[], [], []] } = s3 at e1 ⊢
    have e2 := (e1.t0 (Fk.of (s' := { s3 with lp := s3.lp + 1 }) rfl)).t0 (k_ndG H ks (ks.len - 1) _ h)
    exact e2.t0 (.of rfl)
  unfold ckS
  split
  · exact .refl _
  split
  · exact k_con _ _ _
  split
  · exact k_con _ _ _
  split
  · exact k_nmC _ _ _
  split
  · unfold ckI; split
    · cases ks.get? 0 with
      | none => exact .refl _
      | some x =>
        cases ks.get? 1 with
        | none => exact .refl _
        | some y =>
          simp only [Option.elim]
          split
          · exact k_fau _ _ _
          · exact .refl _
    · exact k_ckN H _ _ h
  split
  · exact (L _ _ _).t0 (k_ckN H _ _ h)
  split
  · exact (L _ _ _).t0 (k_ckN H _ _ h)
  unfold ckX
  split
  · unfold blkC
    exact (k_ckN H ks s h).t0 (.of rfl)
  split
  · exact (((L _ _ _).t0 (L _ _ _)).t0 (k_ckN H _ _ (F.n31_drop ks _ h))).t0 (k_bri _ _ _)
  split
  · exact ((L _ _ _).t0 (L _ _ _)).t0 (k_ckA H _ _ _ _ h)
  split
  · exact ((Fk.of (s := s) (s' := { s with lp := s.lp + 1 }) rfl).t0 (k_ckN H ks _ h)).t0 (.of rfl)
  split
  · exact hlop _ _
  split
  · exact ((L _ _ _).t0 (L _ _ _)).t0 (hlop _ _)
  split
  · split
    · exact k_fau _ _ _
    · exact .refl _
  split
  · exact (L _ _ _).t0 (k_ckN H _ _ h)
  · exact k_ckN H _ _ h
end
theorem k_ck : ∀ (N : Nat) (k : Int) (t : Tx) (n p : Int) (ks : F) (s : Cs), k ≠ 31 → ks.n31 = true → Fk 0 s (ck N k t n p ks s)
  | 0, _, _, _, _, _, _, _, _ => .refl _
  | N + 1, k, t, n, p, ks, s, hk, h => k_ckS (k_ck N) k t n p ks s hk h
/-- A chunk: functions hold none, nor does any other statement. -/
def F.top : F → Bool
  | .nil => true
  | .cons _ _ _ _ ks r => ks.n31 && r.top
/-- How many functions a row has. -/
def F.fcn : F → Nat
  | .nil => 0
  | .cons k _ _ _ _ r => (if k = 31 then 1 else 0) + r.fcn
theorem k_top (N : Nat) : ∀ (r : F) (s : Cs), r.top = true → (ckN (ck (N + 1)) r s).bad = false → Fk r.fcn s (ckN (ck (N + 1)) r s)
  | .nil, s, _, _ => .refl _
  | .cons k t n p ks r, s, h, hb => by
    simp only [F.top, Bool.and_eq_true] at h
    have hb1 : (ck (N + 1) k t n p ks s).bad = false := by
      cases e : (ck (N + 1) k t n p ks s).bad with
      | false => rfl
      | true =>
        have q := (fl_ckN (T := fun _ => True) (nd := ck (N + 1)) (fun T k t n p ks s h1 h2 => fl_ck (N + 1) T k t n p ks s h1 h2) r _ fun _ _ => trivial).st e
        have := bad_eq q.1 q.2
        rw [e] at this
        exact absurd (hb.symm.trans this) (by decide)
    have hb0 : s.bad = false := by
      cases e : s.bad with
      | false => rfl
      | true =>
        have q := (fl_ck (N + 1) (fun _ => True) k t n p ks s trivial fun _ _ => trivial).st e
        have := bad_eq q.1 q.2
        rw [e] at this
        exact absurd (hb1.symm.trans this) (by decide)
    have h1 : Fk (if k = 31 then 1 else 0) s (ck (N + 1) k t n p ks s) := by
      by_cases hk : k = 31
      · subst hk
        rw [if_pos rfl]
        have e : ck (N + 1) 31 t n p ks s = fncB (ck N) t n p ks n.toNat (fncH t n p s) := by
          show ckS (ck N) 31 t n p ks s = _
          unfold ckS ckX
          rw [if_neg (by rw [hb0]; decide)]
          simp only [Int.reduceEq, if_false, if_true]
        rw [e]
        exact k_fnc (k_ck N) t n p ks _ s h.1
      · rw [if_neg hk]
        exact k_ck (N + 1) k t n p ks s hk h.1
    exact h1.trans (k_top N r _ h.2 hb)
/-- What Check tells of a chunk that is fine. -/
theorem chF_ok (N : Nat) (p : Int) (ks : F) (h : ks.top = true) (hb : (ck (N + 2) 20 [] 0 p ks (s0 p)).bad = false) : Fk ks.fcn (s0 p) (ck (N + 2) 20 [] 0 p ks (s0 p)) := by
  have e : ck (N + 2) 20 [] 0 p ks (s0 p) = blkC (ck (N + 1)) ks (s0 p) := by
    show ckS (ck (N + 1)) 20 [] 0 p ks (s0 p) = _
    unfold ckS ckX
    rw [if_neg (by simp [Cs.bad, s0])]
    simp only [Int.reduceEq, if_false, if_true]
  rw [e] at hb ⊢
  unfold blkC at hb ⊢
  have hb1 : (ckN (ck (N + 1)) ks (s0 p)).bad = false := hb
  have q := k_top N ks (s0 p) h hb1
  exact ⟨q.len, q.kep⟩
end Go.Proofs.YtmejlldabdjpjaaGreat

/- Functions stand at the chunk alone (no program in it). -/
namespace Go.Proofs.YtmejlldabdjpjaaGreat

/-- How many functions there are, at any depth. -/
def F.z31 : F → Nat
  | .nil => 0
  | .cons k _ _ _ ks r => (if k = 31 then 1 else 0) + ks.z31 + r.z31
theorem F.z31_app : ∀ f g : F, (f.app g).z31 = f.z31 + g.z31
  | .nil, g => by simp [F.app, F.z31]
  | .cons k t n p ks r, g => by simp only [F.app, F.z31, F.z31_app r g]; omega
theorem z31_one (k : Int) (t : List UInt8) (n p : Int) (ks : F) : (one k t n p ks).z31 = (if k = 31 then 1 else 0) + ks.z31 := by simp only [one, F.z31]; omega
/-- How many functions lie below the first level, and below the second. -/
def F.t31 : F → Nat
  | .nil => 0
  | .cons _ _ _ _ ks r => ks.z31 + r.t31
def F.u31 : F → Nat
  | .nil => 0
  | .cons _ _ _ _ ks r => ks.t31 + r.u31
theorem F.t31_app : ∀ f g : F, (f.app g).t31 = f.t31 + g.t31
  | .nil, g => by simp [F.app, F.t31]
  | .cons k t n p ks r, g => by simp only [F.app, F.t31, F.t31_app r g]; omega
theorem F.t31_le : ∀ f : F, f.t31 ≤ f.z31
  | .nil => Nat.le_refl _
  | .cons k t n p ks r => by have := F.t31_le r; simp only [F.t31, F.z31]; omega
theorem t31_one (k : Int) (t : List UInt8) (n p : Int) (ks : F) : (one k t n p ks).t31 = ks.z31 := by simp only [one, F.t31]; omega
theorem u31_one (k : Int) (t : List UInt8) (n p : Int) (ks : F) : (one k t n p ks).u31 = ks.t31 := by simp only [one, F.u31]; omega
theorem Gz.namn {R : F → List Tok → Prop} {q : Int} {l : List Tok} {k : F → List Tok → PR} (hq : q ≠ 31) (h : ∀ f, f.z31 = 0 → l.tail.length + 1 = l.length → Gz R (k f l.tail)) : Gz R (Go.Proofs.YtmejlldabdjpjaaGreat.nam q l k) := by
  unfold Go.Proofs.YtmejlldabdjpjaaGreat.nam
  split
  · next e => exact h _ (by simp only [one, F.z31, if_neg hq]) (tail_len (by rw [e]; decide))
  · exact .bad _
@[reducible] def Zn (j : J) (_ : List Tok) (f : F) (_ : List Tok) : Prop :=
  match j with
  | .blk c => (c = false → f.z31 = 0) ∧ f.u31 = 0
  | .bk c a => (c = false → f.z31 ≤ a.z31) ∧ f.t31 ≤ a.t31
  | .stat => f.z31 = 0
  | .lst a => f.z31 ≤ a.z31
  | .nms a => f.z31 ≤ a.z31
  | .ifs a => f.z31 ≤ a.z31
  | .asg a => f.z31 ≤ a.z31
  | .ex _ => f.z31 = 0
  | .exl _ g => f.z31 ≤ g.z31
  | .opd => f.z31 = 0
  | .suf => f.z31 = 0
  | .sufl g => f.z31 ≤ g.z31
  | .tab a => f.z31 ≤ a.z31
  | .fld => f.z31 = 0
section
variable {rec : J → List Tok → PR} (ih : ∀ j l, Gz (Zn j l) (rec j l))
include ih
theorem gn_body {R : F → List Tok → Prop} {l : List Tok} {k : F → List Tok → PR} (h : ∀ f m, f.z31 = 0 → Gz R (k f m)) : Gz R (bodyP rec l k) :=
  .need (by decide) fun e => .bind (ih (.blk false) _) fun f m h1 => .need (by decide) fun e2 => h f _ (by simp only [Zn, forall_const] at h1; exact h1.1)
theorem gn_step (j : J) (l : List Tok) : Gz (Zn j l) (stp' rec j l) := by
  have tl : ∀ c, hc l = c → c ≠ 56 → l.tail.length + 1 = l.length := fun c h h2 => tail_len (by rw [h]; exact h2)
  cases j with
  | blk c => exact .bind (ih (.bk c .nil) l) fun f m h => .ok (by
      simp only [Zn, z31_one, u31_one, Int.reduceEq, ↓reduceIte, F.z31, F.t31] at h ⊢
      exact ⟨fun hc => by have := h.1 hc; omega, by omega⟩)
  | bk c a =>
    refine .cnd (fun h => ih (.bk c a) _) fun _ => .cnd (fun h => ?_) fun _ => .cnd (fun h => ?_) fun _ => .cnd (fun _ => .ok (by simp only [Zn]; exact ⟨fun _ => Nat.le_refl _, Nat.le_refl _⟩)) fun _ => .bind (ih .stat l) fun f m h1 => (ih (.bk c _) m).mono fun g m2 h2 => by
      simp only [Zn, F.z31_app, F.t31_app] at h1 h2 ⊢
      have := F.t31_le f
      exact ⟨fun hc => by have := h2.1 hc; omega, by omega⟩
    · refine .bind (Q := fun f _ => f.z31 = 0) ?_ fun f m h1 => .ok (by
        simp only [Zn, F.z31_app, F.t31_app]
        have := F.t31_le f
        exact ⟨fun hc => by omega, by omega⟩)
      refine .cnd (fun h2 => .ok ?_) fun _ => .cnd (fun _ => .ok (by simp only [z31_one, Int.reduceEq, ↓reduceIte, F.z31])) fun _ => .bind (ih (.lst .nil) _) fun f m h2 => .ok ?_
      · simp only [z31_one, Int.reduceEq, ↓reduceIte, F.z31]
      · simp only [Zn, F.z31] at h2
        simp only [z31_one, Int.reduceEq, ↓reduceIte]; omega
    · refine .bind (Q := fun f _ => f.t31 = 0) ?_ fun f m h1 => (ih (.bk c _) m).mono fun g m2 h2 => by
        simp only [Zn, F.z31_app, F.t31_app] at h2 ⊢
        exact ⟨fun hc => absurd h.1 (by rw [hc]; decide), by omega⟩
      refine .namn (by decide) fun f hf e1 => .need (by decide) fun e2 => .bind (Q := fun ps _ => ps.z31 = 0) (.cnd (fun _ => .ok (by simp only [F.z31])) fun _ => .namn (by decide) fun g hg e3 => (ih (.nms g) _).mono fun ps m h3 => by simp only [Zn] at h3; omega) fun ps m h3 => .need (by decide) fun e4 => .bind (ih (.blk false) _) fun b m2 h4 => .need (by decide) fun e5 => .ok (by simp only [Zn, forall_const] at h4; simp only [t31_one, F.z31_app]; omega)
  | stat =>
    refine .cnd (fun h => gn_body ih fun f m h1 => .ok (by simp only [Zn, z31_one, Int.reduceEq, ↓reduceIte]; omega)) fun _ => .cnd (fun h => ?_) fun _ => .cnd (fun h => ?_) fun _ => .cnd (fun h => ?_) fun _ => .cnd (fun h => ?_) fun _ => .cnd (fun h => .ok (by have := tl _ h (by decide); simp only [Zn, z31_one, Int.reduceEq, ↓reduceIte, F.z31] <;> omega)) fun _ => ?_
    · have := tl _ h (by decide)
      exact .bind (ih (.ex 0) _) fun f m h1 => gn_body ih fun b m2 h2 => .ok (by simp only [Zn, z31_one, Int.reduceEq, ↓reduceIte, F.z31_app] at h1 ⊢; omega)
    · have := tl _ h (by decide)
      exact .bind (ih (.ifs .nil) _) fun f m h1 => .ok (by simp only [Zn, z31_one, Int.reduceEq, ↓reduceIte, F.z31] at h1 ⊢; omega)
    · have := tl _ h (by decide)
      refine .namn (by decide) fun f hf e1 => .cnd (fun h2 => ?_) fun _ => .bind (ih (.nms f) _) fun ns m h2 => .need (by decide) fun e2 => .bind (ih (.lst ns) _) fun g m2 h3 => gn_body ih fun b m3 h4 => .ok (by simp only [Zn, z31_one, Int.reduceEq, ↓reduceIte, F.z31_app] at h2 h3 ⊢; omega)
      have := tail_len (l := l.tail.tail) (by rw [h2]; decide)
      exact .bind (ih (.ex 0) _) fun a1 m h3 => .need (by decide) fun e2 => .bind (ih (.ex 0) _) fun a2 m2 h4 => .cnd (fun h5 => .bind (ih (.ex 0) _) fun a3 m3 h6 => gn_body ih fun b m4 h7 => .ok (by have := tail_len (l := m2) (by rw [h5]; decide); simp only [Zn, z31_one, Int.reduceEq, ↓reduceIte, F.z31_app] at h3 h4 h6 ⊢; omega)) fun _ => gn_body ih fun b m4 h7 => .ok (by simp only [Zn, z31_one, Int.reduceEq, ↓reduceIte, F.z31_app] at h3 h4 ⊢; omega)
    · have := tl _ h (by decide)
      exact .namn (by decide) fun f hf e1 => .bind (ih (.nms f) _) fun ns m h2 => .cnd (fun h5 => .bind (ih (.lst ns) _) fun g m2 h3 => .ok (by have := tail_len (l := m) (by rw [h5]; decide); simp only [Zn, z31_one, Int.reduceEq, ↓reduceIte] at h2 h3 ⊢; omega)) fun _ => .ok (by simp only [Zn, z31_one, Int.reduceEq, ↓reduceIte] at h2 ⊢; omega)
    · exact .bind (ih .suf l) fun f m h1 => .cnd (fun _ => .tgt (.bind (ih (.asg f) _) fun ts m2 h2 => .need (by decide) fun e2 => .bind (ih (.lst ts) _) fun g m3 h3 => .ok (by simp only [Zn, z31_one, Int.reduceEq, ↓reduceIte] at h1 h2 h3 ⊢; omega))) fun _ => .cnd (fun _ => .ok (by simp only [Zn, z31_one, Int.reduceEq, ↓reduceIte] at h1 ⊢; omega)) fun _ => .bad _
  | lst a => exact .bind (ih (.ex 0) l) fun f m h1 => .cnd (fun h => (ih (.lst _) _).mono fun g m2 h2 => by have := tail_len (l := m) (by rw [h]; decide); simp only [Zn, F.z31_app] at h1 h2 ⊢; omega) fun _ => .ok (by simp only [Zn, F.z31_app] at h1 ⊢; omega)
  | nms a => exact .cnd (fun h => .namn (by decide) fun f hf e1 => (ih (.nms _) _).mono fun g m2 h2 => by have := tl _ h (by decide); simp only [Zn, F.z31_app] at h2 ⊢; omega) fun _ => .ok (by simp only [Zn]; omega)
  | ifs a => exact .bind (Q := fun f _ => f.z31 ≤ a.z31) (.bind (ih (.ex 0) l) fun f m h1 => .need (by decide) fun e1 => .bind (ih (.blk false) _) fun b m2 h2 => .ok (by simp only [Zn, F.z31_app, forall_const] at h1 h2 ⊢; omega)) fun f m h1 => .cnd (fun h => (ih (.ifs f) _).mono fun g m2 h2 => by have := tail_len (l := m) (by rw [h]; decide); simp only [Zn] at h2 ⊢; omega) fun _ => .cnd (fun h => .bind (ih (.blk false) _) fun b m2 h2 => .need (by decide) fun e2 => .ok (by have := tail_len (l := m) (by rw [h]; decide); simp only [Zn, F.z31_app, forall_const] at h2 ⊢; omega)) fun _ => .need (by decide) fun e2 => .ok (by simp only [Zn]; omega)
  | asg a => exact .cnd (fun h => .bind (ih .suf _) fun f m h1 => .tgt ((ih (.asg _) m).mono fun g m2 h2 => by have := tl _ h (by decide); simp only [Zn, F.z31_app] at h1 h2 ⊢; omega)) fun _ => .ok (by simp only [Zn]; omega)
  | ex a => exact .bind (ih .opd l) fun f m h1 => (ih (.exl a f) m).mono fun g m2 h2 => by simp only [Zn] at h1 h2 ⊢; omega
  | exl a g => exact .cnd (fun h => .bind (ih (.ex _) _) fun f m h1 => (ih (.exl a _) m).mono fun g2 m2 h2 => by have := tail_len (l := l) (by intro e; rw [e] at h; exact absurd h (Nat.not_lt_zero a)); simp only [Zn, z31_one, Int.reduceEq, ↓reduceIte, F.z31_app] at h1 h2 ⊢; omega) fun _ => .ok (by simp only [Zn]; omega)
  | opd => exact .cnd (fun _ => ih .suf l) fun _ => .cnd (fun h => .bind (ih (.tab .nil) _) fun f m h1 => .need (by decide) fun e1 => .ok (by have := tl _ h (by decide); simp only [Zn, z31_one, Int.reduceEq, ↓reduceIte, F.z31] at h1 ⊢; omega)) fun _ => .cnd (fun h => .bind (ih .opd _) fun f m h1 => .ok (by have : l.tail.length + 1 = l.length := by { rcases h with h | h | h <;> exact tl _ h (by decide) }; simp only [Zn, z31_one, Int.reduceEq, ↓reduceIte] at h1 ⊢; omega)) fun _ => .cnd (fun h => .ok (by have := tl _ h (by decide); simp only [Zn, z31_one, Int.reduceEq, ↓reduceIte, F.z31] <;> omega)) fun _ => .cnd (fun h => .ok (by have := tl _ h (by decide); simp only [Zn, z31_one, Int.reduceEq, ↓reduceIte, F.z31] <;> omega)) fun _ => .cnd (fun h => .ok (by have := tl _ h (by decide); simp only [Zn, z31_one, Int.reduceEq, ↓reduceIte, F.z31] <;> omega)) fun _ => .cnd (fun h => .ok (by have := tl _ h (by decide); simp only [Zn, z31_one, Int.reduceEq, ↓reduceIte, F.z31] <;> omega)) fun _ => .cnd (fun h => .ok (by have := tl _ h (by decide); simp only [Zn, z31_one, Int.reduceEq, ↓reduceIte, F.z31] <;> omega)) fun _ => .bad _
  | suf => exact .bind (Q := fun f _ => f.z31 = 0) (.cnd (fun h => .bind (ih (.ex 0) _) fun f m h1 => .need (by decide) fun e1 => .ok (by have := tl _ h (by decide); simp only [Zn, z31_one, Int.reduceEq, ↓reduceIte] at h1 ⊢; omega)) fun _ => .namn (by decide) fun f hf e1 => .ok (by omega)) fun f m h1 => (ih (.sufl f) m).mono fun g m2 h2 => by simp only [Zn] at h2 ⊢; omega
  | sufl g => exact .cnd (fun h => .bind (ih (.ex 0) _) fun f m h1 => .need (by decide) fun e1 => (ih (.sufl _) _).mono fun g2 m2 h2 => by have := tl _ h (by decide); simp only [Zn, z31_one, Int.reduceEq, ↓reduceIte, F.z31_app] at h1 h2 ⊢; omega) fun _ => .cnd (fun h => .namn (by decide) fun f hf e1 => (ih (.sufl _) _).mono fun g2 m2 h2 => by have := tl _ h (by decide); simp only [Zn, z31_one, Int.reduceEq, ↓reduceIte, F.z31_app] at h2 ⊢; omega) fun _ => .cnd (fun h => .bind (Q := fun f _ => f.z31 ≤ g.z31) (.cnd (fun h2 => .ok (by have := tail_len (l := l.tail) (by rw [h2]; decide); omega)) fun _ => .bind (ih (.lst g) _) fun f m h1 => .need (by decide) fun e1 => .ok (by simp only [Zn] at h1 ⊢; omega)) fun f m h1 => (ih (.sufl _) m).mono fun g2 m2 h2 => by have := tl _ h (by decide); simp only [Zn, z31_one, Int.reduceEq, ↓reduceIte] at h2 ⊢; omega) fun _ => .ok (by simp only [Zn]; omega)
  | tab a => exact .cnd (fun _ => .ok (by simp only [Zn]; omega)) fun _ => .bind (ih .fld l) fun f m h1 => .cnd (fun h => (ih (.tab _) _).mono fun g m2 h2 => by have : m.tail.length ≤ m.length := by { simp }; simp only [Zn, F.z31_app] at h1 h2 ⊢; omega) fun _ => .ok (by simp only [Zn, F.z31_app] at h1 ⊢; omega)
  | fld => exact .cnd (fun h => .bind (ih (.ex 0) _) fun f m h1 => .need (by decide) fun e1 => .need (by decide) fun e2 => .bind (ih (.ex 0) _) fun v m2 h2 => .ok (by have := tl _ h (by decide); simp only [Zn, z31_one, Int.reduceEq, ↓reduceIte, F.z31_app] at h1 h2 ⊢; omega)) fun _ => .cnd (fun h => .bind (ih (.ex 0) _) fun v m h1 => .ok (by have := tl _ h.1 (by decide); have := tail_len (l := l.tail) (by rw [h.2]; decide); simp only [Zn, z31_one, Int.reduceEq, ↓reduceIte, F.z31_app, F.z31] at h1 ⊢; omega)) fun _ => .bind (ih (.ex 0) l) fun v m h1 => .ok (by simp only [Zn, z31_one, Int.reduceEq, ↓reduceIte] at h1 ⊢; omega)
end
theorem gn_all : ∀ (n : Nat) (j : J) (l : List Tok), Gz (Zn j l) (pr n j l)
  | 0, _, _ => fun f m h => by cases h
  | n + 1, j, l => gn_step (gn_all n) j l
theorem F.n31_of : ∀ f : F, f.z31 = 0 → f.n31 = true
  | .nil, _ => rfl
  | .cons k t n p ks r, h => by
    simp only [F.z31] at h
    have hk : k ≠ 31 := fun e => by rw [if_pos e] at h; omega
    simp only [F.n31, Bool.and_eq_true, decide_eq_true_eq]
    exact ⟨⟨hk, F.n31_of ks (by omega)⟩, F.n31_of r (by omega)⟩
theorem F.top_of : ∀ f : F, f.t31 = 0 → f.top = true
  | .nil, _ => rfl
  | .cons k t n p ks r, h => by
    simp only [F.t31] at h
    simp only [F.top, Bool.and_eq_true]
    exact ⟨F.n31_of ks (by omega), F.top_of r (by omega)⟩
/-- A text's tree: functions stand at the chunk alone. -/
theorem prT_u31 (l : List UInt8) : (prT l).1.u31 = 0 := by
  unfold prT
  split
  · show noF.u31 = 0
    decide
  · next hc =>
    cases hk : chk (scT l).1 with
    | bad p => show noF.u31 = 0; decide
    | out => show noF.u31 = 0; decide
    | ok f m =>
      show f.u31 = 0
      unfold chk at hk
      cases hx : pr (8 * (scT l).1.length + 4) (.blk true) (scT l).1 with
      | bad p => rw [hx] at hk; cases hk
      | out => rw [hx] at hk; cases hk
      | ok g m2 =>
        have := gn_all _ _ _ g m2 hx
        rw [hx] at hk
        simp only [PR.bind] at hk
        split at hk
        · injection hk with h1 h2
          rw [← h1]
          exact this.2
        · cases hk
theorem prT_top {l : List UInt8} {k : Int} {t : List UInt8} {n p : Int} {ks r : F} (h : (prT l).1 = .cons k t n p ks r) : ks.top = true := by
  have := prT_u31 l
  rw [h] at this
  simp only [F.u31] at this
  exact F.top_of ks (by omega)
end Go.Proofs.YtmejlldabdjpjaaGreat

/- The walks of functions and begins. -/
namespace Go.Proofs.YtmejlldabdjpjaaGreat
open Go.RowKit
set_option maxRecDepth 20000 in
set_option maxHeartbeats 4000000 in
theorem functions_any (ks : F) (hs : ks.siz ≤ 1000000) (w : World) (P : Nat → Prop) (k : Int) (t : List UInt8) (n p : Int) (a : Option Addr) (c : Nat) (hR : Rw w P a 0 ks) :
    Calls Tryz.prog 16 #[(.agg #[.int .i64 (k), .string ⟨(t).toArray⟩, .int .i64 (n), .int .i64 (p), .slice a ks.len c])] w fun e w' => e = .returned (.int .i64 ((ks.fcn : Nat) : Int)) ∧ Below w.heap.size w w' := by
  have hl := ks.len_siz
  have B0 := Bx.new w 42 #[.int .i64 k, .string ⟨t.toArray⟩, .int .i64 n, .int .i64 p, .slice a ks.len c]
  obtain ⟨p0, p1, p2, p3, p4⟩ := B0.five
  have K0 : Below w.heap.size w (w.alloc (.cells #[.int .i64 (k), .string ⟨(t).toArray⟩, .int .i64 (n), .int .i64 (p), .slice a ks.len c] 42)) := (Below.refl _ w).alloc (Nat.le_refl _) _
  go_enter Tryz.func16, Tryz.ntmps16
  go_wp2_with fail
  generalize hw0 : (w.alloc (.cells #[.int .i64 (k), .string ⟨(t).toArray⟩, .int .i64 (n), .int .i64 (p), .slice a ks.len c] 42)) = w0 at *
  go_loopw [3, 4] (fun cv iv wx => ∃ (i h : Nat) (r : F), iv = .int .i64 (i : Nat) ∧ cv = .int .i64 (h : Nat) ∧ i + r.len = ks.len ∧ wx = w0 ∧ Hid (h + r.fcn = ks.fcn ∧ h ≤ i ∧ Rw w0 P a i r)) (fun _ iv _ => ks.len - (intOf iv).toNat)
  case atStart => exact ⟨0, 0, ks, rfl, rfl, by omega, rfl, by omega, Nat.le_refl _, hR.below K0⟩
  case round =>
    obtain ⟨i, h, r, rfl, rfl, hi, rfl, HR⟩ := hrel
    cases r with
    | nil =>
      have h1 : ¬ (i : Int) < (ks.len : Int) := by simp only [F.len] at hi; omega
      have hm : h = ks.fcn := by have := HR.out.1; simp only [F.fcn] at this; omega
      go_wp2
      go_ret
      exact ⟨rfl, K0⟩
    | cons k' t' n' p' ks' r' =>
      simp only [F.len] at hi
      obtain ⟨hm, hz, hr⟩ := HR.out
      simp only [F.fcn] at hm
      obtain ⟨g, a', c', rfl, hg, c0, c1, c2, c3, c4, hT, hr'⟩ := hr.next
      have h1 : (i : Int) < (ks.len : Int) := by omega
      have wi : IntKind.i64.wrap ((i : Int) + 1) = (i : Int) + 1 := by rw [IntKind.wrap_i64]; omega
      have wh : IntKind.i64.wrap ((h : Int) + 1) = (h : Int) + 1 := by rw [IntKind.wrap_i64]; omega
      have hms : ks.len - (i + 1) < ks.len - i := by omega
      by_cases hk : k' = 31
      · have HN : Hid (h + 1 + r'.fcn = ks.fcn ∧ Rw wr P (some ⟨g, 0, none⟩) (i + 1) r') := ⟨by rw [if_pos hk] at hm; omega, hr'⟩
        clear hm hT hr' hr HR
        go_wp2
        go_round
        case rel => exact ⟨i + 1, h + 1, r', by first | rfl | simp, by first | rfl | simp, by omega, trivial, HN.out.1, by omega, HN.out.2⟩
        case measure => first | omega | (simp only [intOf]; omega) | (simp; omega)
      · have HN : Hid (h + r'.fcn = ks.fcn ∧ Rw wr P (some ⟨g, 0, none⟩) (i + 1) r') := ⟨by rw [if_neg hk] at hm; omega, hr'⟩
        clear hm hT hr' hr HR
        go_wp2
        go_round
        case rel => exact ⟨i + 1, h, r', by first | rfl | simp, by first | rfl | simp, by omega, trivial, HN.out.1, by omega, HN.out.2⟩
        case measure => first | omega | (simp only [intOf]; omega) | (simp; omega)
set_option maxRecDepth 20000 in
set_option maxHeartbeats 4000000 in
theorem begins_any (q : Int) : ∀ (N : Nat) (ks : F), ks.siz ≤ N → N ≤ 1000000 → ∀ (w : World) (P : Nat → Prop) (k : Int) (t : List UInt8) (n p : Int) (a : Option Addr) (c : Nat), Rw w P a 0 ks →
    Calls Tryz.prog 18 #[(.agg #[.int .i64 (k), .string ⟨(t).toArray⟩, .int .i64 (n), .int .i64 (p), .slice a ks.len c]), .int .i64 q] w fun e w' => e = .returned (.bool (decide (p = q) || ks.bg q)) ∧ Below w.heap.size w w' := by
  intro N
  induction N using Nat.strongRecOn with
  | _ N IH =>
    intro ks hs hN w P k t n p a c hR
    have hl := ks.len_siz
    have B0 := Bx.new w 42 #[.int .i64 k, .string ⟨t.toArray⟩, .int .i64 n, .int .i64 p, .slice a ks.len c]
    obtain ⟨p0, p1, p2, p3, p4⟩ := B0.five
    have K0 : Below w.heap.size w (w.alloc (.cells #[.int .i64 (k), .string ⟨(t).toArray⟩, .int .i64 (n), .int .i64 (p), .slice a ks.len c] 42)) := (Below.refl _ w).alloc (Nat.le_refl _) _
    have hsz : w.heap.size < (w.alloc (.cells #[.int .i64 (k), .string ⟨(t).toArray⟩, .int .i64 (n), .int .i64 (p), .slice a ks.len c] 42)).heap.size := by simp
    go_enter Tryz.func18, Tryz.ntmps18
    by_cases hpq : p = q
    · subst hpq
      go_wp2
      go_ret
      exact ⟨by simp, K0⟩
    · go_wp2_with fail
      generalize hw0 : (w.alloc (.cells #[.int .i64 (k), .string ⟨(t).toArray⟩, .int .i64 (n), .int .i64 (p), .slice a ks.len c] 42)) = w0 at *
      have hpe : (p == q) = false := by simp [hpq]
      rw [hpe]
      go_loopw [5] (fun iv wx => ∃ (i : Nat) (r : F), iv = .int .i64 (i : Nat) ∧ i + r.len = ks.len ∧ wx.cell? ⟨w.heap.size, 4, none⟩ = some (.slice a ks.len c) ∧ Hid (r.bg q = ks.bg q ∧ r.siz ≤ ks.siz ∧ Rw wx P a i r ∧ Below w0.heap.size w0 wx)) (fun iv _ => ks.len - (intOf iv).toNat)
      case atStart => exact ⟨0, ks, rfl, by omega, p4, rfl, Nat.le_refl _, hR.below K0, Below.refl _ w0⟩
      case round =>
        obtain ⟨i, r, rfl, hi, q4, HR⟩ := hrel
        cases r with
        | nil =>
          have h1 : ¬ (i : Int) < (ks.len : Int) := by simp only [F.len] at hi; omega
          have hm : ks.bg q = false := by have := HR.out.1; simp only [F.bg] at this; exact this.symm
          go_wp2
          go_ret
          exact ⟨by simp, K0.trans (HR.out.2.2.2.mono K0.size)⟩
        | cons k' t' n' p' ks' r' =>
          simp only [F.len] at hi
          obtain ⟨hm, hz, hr, hb⟩ := HR.out
          simp only [F.siz] at hz
          simp only [F.bg] at hm
          obtain ⟨g, a', c', rfl, hg, c0, c1, c2, c3, c4, hT, hr'⟩ := hr.next
          have h1 : (i : Int) < (ks.len : Int) := by omega
          have wi : IntKind.i64.wrap ((i : Int) + 1) = (i : Int) + 1 := by rw [IntKind.wrap_i64]; omega
          have C := IH ks'.siz (by omega) ks' (Nat.le_refl _) (by omega) wr P k' t' n' p' a' c' hT.rw0
          have HN : Hid (r'.siz ≤ ks.siz ∧ Rw wr P (some ⟨g, 0, none⟩) (i + 1) r' ∧ Below w0.heap.size w0 wr) := ⟨by omega, hr', hb⟩
          have hms : ks.len - (i + 1) < ks.len - i := by omega
          clear hz hr hb hT hr' HR
          cases hb1 : (decide (p' = q) || ks'.bg q) with
          | true =>
            rw [hb1] at hm C
            go_wp2_with fail
            refine C.mono ?_; rintro e w1 ⟨rfl, hb1⟩
            go_wp2
            go_ret
            exact ⟨by simp [← hm], K0.trans ((HN.out.2.2.trans (hb1.mono HN.out.2.2.size)).mono K0.size)⟩
          | false =>
            rw [hb1] at hm C
            go_wp2_with fail
            refine C.mono ?_; rintro e w1 ⟨rfl, hb1⟩
            have hwr : w.heap.size < wr.heap.size := Nat.lt_of_lt_of_le hsz HN.out.2.2.size
            have q5 : w1.cell? ⟨w.heap.size, 4, none⟩ = some (.slice (some ⟨g, 0, none⟩) ks.len c) := (World.cell?_of_block (hb1.block _ hwr)).trans q4
            go_wp2
            go_round
            case rel => exact ⟨i + 1, r', by first | rfl | simp, by omega, q5, by simpa using hm, HN.out.1, HN.out.2.1.below hb1, HN.out.2.2.trans (hb1.mono HN.out.2.2.size)⟩
            case measure => first | omega | (simp only [intOf]; omega) | (simp; omega)
end Go.Proofs.YtmejlldabdjpjaaGreat

/- What CheckStages asks of a text's report (no program in it). -/
namespace Go.Proofs.YtmejlldabdjpjaaGreat

theorem chF_fine (p : Int) (ks : F) (h : ks.top = true) (h0 : (chF (one 20 [] 0 p ks)).2.1 = 0) (h1 : (ck (ks.siz + 1) 20 [] 0 p ks (s0 p)).bad = true → (ck (ks.siz + 1) 20 [] 0 p ks (s0 p)).cd ≠ 0) :
    ks.hgt + 1 ≤ 100 ∧ (chF (one 20 [] 0 p ks)).1.1.length = 1 + ks.fcn ∧ ∃ f, (chF (one 20 [] 0 p ks)).1.1[0]? = some f ∧ f.nm = [] ∧ f.pl = p := by
  unfold one chF at h0 ⊢
  by_cases hh : 100 < ks.hgt + 1
  · simp only [if_pos hh] at h0; exact absurd h0 (by decide)
  · simp only [if_neg hh] at h0 ⊢
    unfold outC at h0 ⊢
    by_cases hb : (ck (ks.siz + 1) 20 [] 0 p ks (s0 p)).bad = true
    · simp only [if_pos hb] at h0; exact absurd h0 (h1 hb)
    · simp only [if_neg hb]
      have q : Fk ks.fcn (s0 p) (ck (ks.siz + 1) 20 [] 0 p ks (s0 p)) := by
        cases ks with
        | nil =>
          refine Fk.of ?_
          rfl
        | cons k t n p' ks' r => exact chF_ok (ks'.siz + r.siz) p _ h (by simpa [F.siz] using hb)
      obtain ⟨f', e1, e2, e3⟩ := q.kep 0 ⟨[], p, 0, 0, []⟩ rfl
      exact ⟨by omega, by rw [q.len]; rfl, f', e1, e2, e3⟩
theorem ck_cd (N : Nat) (p : Int) (ks : F) (hb : (ck N 20 [] 0 p ks (s0 p)).bad = true) : (ck N 20 [] 0 p ks (s0 p)).cd ≠ 0 := by
  have hf := fl_ck N (fun _ => True) 20 [] 0 p ks (s0 p) trivial fun _ _ => trivial
  rcases hf.at' with q | q
  · unfold Cs.bad at hb
    rw [q.1, q.2] at hb
    simp [s0] at hb
  · rcases q.1 with q | q <;> rw [q] <;> decide
/-- What CheckStages asks of the report r of a tree, refused or not. -/
theorem stages_plain {l : List UInt8} {k : Int} {t : List UInt8} {n p : Int} {ks : F} (h : (prT l).1 = one k t n p ks) :
    ((chT l).2.1 ≠ 0 → (chT l).1 = ([], [])) ∧ ((prT l).2.1 ≠ 0 → (chT l).2 = (prT l).2) ∧
    ((prT l).2.1 = 0 → (chT l).2.1 ≠ 0 → ((chT l).2.1 = 5 ∨ (chT l).2.1 = 6) ∧ (decide (p = (chT l).2.2) || ks.bg (chT l).2.2) = true) ∧
    ((prT l).2.1 = 0 → (chT l).2.1 = 0 → ks.hgt + 1 ≤ 100 ∧ (chT l).1.1.length = 1 + ks.fcn ∧ ∃ f, (chT l).1.1[0]? = some f ∧ f.nm = [] ∧ f.pl = p) := by
  by_cases h0 : (prT l).2.1 = 0
  · have e : chT l = chF (one k t n p ks) := by unfold chT; rw [if_pos h0, h]
    rw [e]
    refine ⟨fun h1 => (chF_at k t n p ks h1).2.2, fun h1 => absurd h0 h1, fun _ h1 => ?_, fun _ h1 => ?_⟩
    · obtain ⟨q1, q2, _⟩ := chF_at k t n p ks h1
      refine ⟨q1, ?_⟩
      generalize (chF (one k t n p ks)).2.2 = z at q2 ⊢
      simp only [one, F.bg, Bool.or_false] at q2
      exact q2
    · obtain ⟨p', ks', e1, _⟩ := prT_okT l h0
      rw [h] at e1
      unfold one at e1
      injection e1 with e1 e2 e3 e4 e5 _
      subst e1 e2 e3 e4 e5
      exact chF_fine p ks (prT_top (by rw [h]; rfl)) h1 (ck_cd _ p ks)
  · have e : chT l = (([], []), (prT l).2.1, (prT l).2.2) := by unfold chT; rw [if_neg h0]
    rw [e]
    exact ⟨fun _ => rfl, fun _ => rfl, fun x => absurd x h0, fun x => absurd x h0⟩
end Go.Proofs.YtmejlldabdjpjaaGreat
