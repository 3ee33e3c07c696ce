/- What Check tells of the text written anew: every node (no program in it). -/
import Derived.Test.YtmejlldabdjpjaaGreatCg35
import Derived.Test.YtmejlldabdjpjaaGreatCg02
namespace Go.Proofs.YtmejlldabdjpjaaGreat
open Go.RowKit

theorem RC.lo3 {s s' : Cs} (h : RC s s') : RC { s with lo := s.lo ++ [[], [], []] } { s' with lo := s'.lo ++ [[], [], []] } :=
  ⟨h.fs, h.gl, h.nu, by simp only [h.lo, List.map_append]; rfl, h.lp, h.ar, h.bad, h.ng, fun x hx => by
    rcases List.mem_append.1 hx with h1 | h1
    · exact h.nl x h1
    · simp at h1; subst h1; exact by decide, h.na, h.bc⟩
theorem RC.lpS {s s' : Cs} (h : RC s s') (d : Int) : RC { s with lp := s.lp + d } { s' with lp := s'.lp + d } := ⟨h.fs, h.gl, h.nu, h.lo, by show s'.lp + d = s.lp + d; rw [h.lp], h.ar, h.bad, h.ng, h.nl, h.na, h.bc⟩
theorem RC.lpD {s s' : Cs} (h : RC s s') (d : Int) : RC { s with lp := s.lp - d } { s' with lp := s'.lp - d } := ⟨h.fs, h.gl, h.nu, h.lo, by show s'.lp - d = s.lp - d; rw [h.lp], h.ar, h.bad, h.ng, h.nl, h.na, h.bc⟩
theorem RC.cut {s s' : Cs} (h : RC s s') (n : Nat) : RC { s with lo := s.lo.take n } { s' with lo := s'.lo.take n } := ⟨h.fs, h.gl, h.nu, by simp only [h.lo, List.map_take], h.lp, h.ar, h.bad, h.ng, h.nl.take n, h.na, h.bc⟩
theorem RC.loL {s s' : Cs} (h : RC s s') : s'.lo.length = s.lo.length := by rw [h.lo, List.length_map]
theorem RC.fsL {s s' : Cs} (h : RC s s') : s'.fs.length = s.fs.length := by have := congrArg List.length h.fs; simpa using this
theorem rf_tx {k : Int} {t t' : Tx} {n p p' : Int} {ks ks' : F} (h : RF (one k t n p ks) (one k t' n p' ks')) : t' = (if k = 6 ∨ k = 31 then ren t else t) ∧ (k = 6 ∨ k = 31 → t ≠ zzz) ∧ nmk k n ks ∧ RF ks ks' := ⟨h.2.2.1, h.2.2.2.1.1, h.2.2.2.1.2, h.2.2.2.2.1⟩
theorem RC.fncH {s s' : Cs} (h : RC s s') (t : Tx) (ht : t ≠ zzz) (n p p' : Int) : RC (fncH t n p s) (fncH (ren t) n p' s') := by
  unfold Go.Proofs.YtmejlldabdjpjaaGreat.fncH
  rw [h.fsL]
  exact (((h.lim _ _ _ _).unk t ht _ _).lim _ _ _ _).glo t ht
section
variable {nd : Ndc} (H : ∀ k t t' n p p' ks ks' s s', RF (one k t n p ks) (one k t' n p' ks') → RC s s' → RC (nd k t n p ks s) (nd k t' n p' ks' s'))
include H
theorem rc_ckN : ∀ {r r' : F} {s s' : Cs}, RF r r' → RC s s' → RC (ckN nd r s) (ckN nd r' s')
  | .nil, .nil, _, _, _, h => h
  | .cons k t n p ks r, .cons k' t' n' p' ks' r', s, s', hr, h => by
    obtain ⟨rfl, rfl, h3, h4, h5, h6⟩ := hr
    exact rc_ckN (r := r) (r' := r') h6 (H _ t t' _ p p' ks ks' s s' ⟨rfl, rfl, h3, h4, h5, trivial⟩ h)
theorem rc_ckA (n : Int) : ∀ {r r' : F} (i : Int) {s s' : Cs}, RF r r' → RC s s' → RC (ckA nd n i r s) (ckA nd n i r' s')
  | .nil, .nil, _, _, _, _, h => h
  | .cons k t m p ks r, .cons k' t' m' p' ks' r', i, s, s', hr, h => by
    obtain ⟨rfl, rfl, h3, h4, h5, h6⟩ := hr
    refine rc_ckA n (r := r) (r' := r') (i + 1) h6 (H _ t t' _ p p' ks ks' _ _ ⟨rfl, rfl, h3, h4, h5, trivial⟩ ?_)
    rw [h5.ixk]
    split
    · exact h.fau _ _ _ (by decide)
    · exact h
theorem rc_ndG {ks ks' : F} (hk : RF ks ks') (i : Nat) {s s' : Cs} (h : RC s s') : RC (ndG nd ks i s) (ndG nd ks' i s') := by
  unfold ndG
  rcases RF.get i hk with ⟨h1, h2⟩ | ⟨k, t, n, p, p', qs, qs', t', h1, h2, h3, h4, h5⟩
  · rw [h1, h2]; exact h
  · rw [h1, h2]
    exact H k t t' n p p' qs qs' s s' ⟨rfl, rfl, h3, h4, h5, trivial⟩ h
theorem rc_lopB {ks ks' : F} (hk : RF ks ks') (m : Nat) (hn : nmsF (ks.take m)) (p p' : Int) {s s' : Cs} (h : RC s s') : RC (lopB nd p ks m s) (lopB nd p' ks' m s') := by
  unfold lopB
  have h3 := h.lo3.bri (RF.take m hk) hn p p'
  have h5 := rc_ndG H hk (ks.len - 1) (h3.lpS 1)
  rw [← hk.len] at h5
  have e := h.loL
  simp only
  rw [e]
  have h6 := (h5.lpD 1).cut s.lo.length
  rw [hk.len] at h6 ⊢
  exact h6
theorem rc_lopC {ks ks' : F} (hk : RF ks ks') (m : Nat) (hn : nmsF (ks.take m)) (p p' : Int) {s s' : Cs} (h : RC s s') : RC (lopC nd p ks m s) (lopC nd p' ks' m s') := by
  unfold lopC
  rw [hk.len]
  exact rc_lopB H hk m hn p p' (rc_ckN H (RF.drop m (RF.take (ks.len - 1) hk)) h)
theorem rc_fncB {ks ks' : F} (hk : RF ks ks') (m : Nat) (hn : nmsF (ks.take m)) (t t' : Tx) (n p p' : Int) {s s' : Cs} (h : RC s s') : RC (fncB nd t n p ks m s) (fncB nd t' n p' ks' m s') := by
  unfold fncB
  have h0 : RC { s with fs := s.fs ++ [⟨t, p, n, 0, []⟩], nu := s.fs.length, lo := [], lp := 0, ar := s.lo } { s' with fs := s'.fs ++ [⟨t', p', n, 0, []⟩], nu := s'.fs.length, lo := [], lp := 0, ar := s'.lo } :=
    ⟨by simp only [List.map_append, h.fs]; rfl, h.gl, h.fsL, rfl, rfl, h.lo, h.bad, h.ng, fun x hx => by simp at hx, h.nl, h.bc⟩
  have h7 := rc_ndG H hk m (h0.bri (RF.take m hk) hn p p')
  exact ⟨h7.fs, h7.gl, h.nu, h.lo, h.lp, rfl, h7.bad, h7.ng, h.nl, fun x hx => by simp at hx, h7.bc⟩
theorem rc_blkC {ks ks' : F} (hk : RF ks ks') {s s' : Cs} (h : RC s s') : RC (blkC nd ks s) (blkC nd ks' s') := by
  unfold blkC
  rw [h.loL]
  exact (rc_ckN H hk h).cut s.lo.length
theorem rc_ckI {ks ks' : F} (hk : RF ks ks') (p p' : Int) {s s' : Cs} (h : RC s s') : RC (ckI nd p ks s) (ckI nd p' ks' s') := by
  unfold ckI
  rw [hk.ixk]
  by_cases hx : ixk 7 ks = true
  · rw [if_pos hx, if_pos hx]
    rcases RF.get 0 hk with ⟨h1, h2⟩ | ⟨k, t, n, q, q', qs, qs', t', h1, h2, h3, h4, h5⟩
    · rw [h1, h2]; exact h
    · have hx' := hx
      unfold ixk at hx'
      rw [h1] at hx'
      simp only [Option.elim, Bool.and_eq_true, decide_eq_true_eq] at hx'
      have et : t' = t := by rw [if_pos (.inl hx'.2.1)] at h3; rw [h3]; exact ren_kep t hx'.2.2
      rw [h1, h2, et]
      rcases RF.get 1 hk with ⟨g1, g2⟩ | ⟨k2, t2, n2, q2, q2', qs2, qs2', t2', g1, g2, g3, g4, g5⟩
      · rw [g1, g2]; exact h
      · rw [g1, g2]
        simp only [Option.elim]
        by_cases h5 : k2 = 5
        · rw [if_neg (by omega)] at g3
          rw [g3]
          split
          · exact h.fau _ _ _ (by decide)
          · exact h
        · rw [if_pos (by simp [h5]), if_pos (by simp [h5])]
          exact h.fau _ _ _ (by decide)
  · rw [if_neg hx, if_neg hx]
    exact rc_ckN H hk h
theorem rc_ckX (k : Int) (t t' : Tx) (n p p' : Int) {ks ks' : F} {s s' : Cs} (hr : RF (one k t n p ks) (one k t' n p' ks')) (h : RC s s') : RC (ckX nd k t n p ks s) (ckX nd k t' n p' ks' s') := by
  obtain ⟨ht, hz, hm, hk⟩ := rf_tx hr
  have el := hk.len
  unfold ckX
  rw [el]
  split
  · exact rc_blkC H hk h
  split
  · rename_i e
    exact (rc_ckN H (RF.drop n.toNat hk) ((h.lim _ _ _ _).lim _ _ _ _)).bri (RF.take n.toNat hk) (hm.1 (.inl e)) p p'
  split
  · exact rc_ckA H n 0 hk ((h.lim _ _ _ _).lim _ _ _ _)
  split
  · exact (rc_ckN H hk (h.lpS 1)).lpD 1
  split
  · rename_i e
    exact rc_lopC H hk 1 (hm.2 e) p p' h
  split
  · rename_i e
    exact rc_lopC H hk n.toNat (hm.1 (.inr (.inl e))) p p' ((h.lim _ _ _ _).lim _ _ _ _)
  split
  · rw [h.lp]
    split
    · exact h.fau _ _ _ (by decide)
    · exact h
  split
  · exact rc_ckN H hk (h.lim _ _ _ _)
  split
  · rename_i e
    rw [if_pos (.inr e)] at ht
    rw [ht]
    exact rc_fncB H hk n.toNat (hm.1 (.inr (.inr e))) t (ren t) n p p' (h.fncH t (hz (.inr e)) n p p')
  · exact rc_ckN H hk h
theorem rc_ckS (k : Int) (t t' : Tx) (n p p' : Int) {ks ks' : F} {s s' : Cs} (hr : RF (one k t n p ks) (one k t' n p' ks')) (h : RC s s') : RC (ckS nd k t n p ks s) (ckS nd k t' n p' ks' s') := by
  obtain ⟨ht, hz, hm, hk⟩ := rf_tx hr
  have el := hk.len
  unfold ckS
  rw [h.bad, el]
  split
  · exact h
  split
  · exact h.con _ _ _
  split
  · rename_i e
    rw [if_neg (by omega)] at ht
    rw [ht]
    exact h.con _ _ _
  split
  · rename_i e
    rw [if_pos (.inl e)] at ht
    rw [ht]
    exact h.nmC t (hz (.inl e)) p p'
  split
  · exact rc_ckI H hk p p' h
  split
  · exact rc_ckN H hk (h.lim _ _ _ _)
  split
  · exact rc_ckN H hk (h.lim _ _ _ _)
  · exact rc_ckX H k t t' n p p' hr h
end
theorem rc_ck : ∀ (N : Nat) (k : Int) (t t' : Tx) (n p p' : Int) (ks ks' : F) (s s' : Cs), RF (one k t n p ks) (one k t' n p' ks') → RC s s' → RC (ck N k t n p ks s) (ck N k t' n p' ks' s')
  | 0, _, _, _, _, _, _, _, _, _, _, _, h => h
  | N + 1, k, t, t', n, p, p', _, _, _, _, hr, h => rc_ckS (rc_ck N) k t t' n p p' hr h
/-- Reports alike. -/
theorem chF_ren {f f' : F} (hf : RF f f') {fs : List Fn} {gl : List Tx} {ct : Int} (h : chF f = ((fs, gl), 0, ct)) : ∃ fs', chF f' = ((fs', gl.map ren), 0, 0) ∧ fs'.map fk = fs.map fk ∧ ct = 0 := by
  match f, f', hf with
  | .nil, .nil, _ =>
    simp only [chF, Prod.mk.injEq] at h
    obtain ⟨⟨rfl, rfl⟩, -, rfl⟩ := h
    exact ⟨[], rfl, rfl, rfl⟩
  | .cons k t n p ks r, .cons k' t' n' p' ks' r', hr =>
    obtain ⟨rfl, rfl, h3, h4, h5, h6⟩ := hr
    simp only [chF] at h ⊢
    rw [h5.hgt, h5.siz]
    by_cases h100 : 100 < ks.hgt + 1
    · rw [if_pos h100] at h
      simp at h
    · rw [if_neg h100] at h ⊢
      have h0 : RC (s0 p) (s0 p') := ⟨rfl, rfl, rfl, rfl, rfl, rfl, rfl, fun x hx => by simp [s0] at hx, fun x hx => by simp [s0] at hx, fun x hx => by simp [s0] at hx, fun h => absurd h (show ¬ false = true by decide)⟩
      have hc := rc_ck (ks.siz + 1) _ t t' _ p p' ks ks' _ _ ⟨rfl, rfl, h3, h4, h5, trivial⟩ h0
      unfold outC at h ⊢
      rw [hc.bad]
      by_cases hb : (ck (ks.siz + 1) k' t n' p ks (s0 p)).bad = true
      · rw [if_pos hb] at h
        simp only [Prod.mk.injEq] at h
        exact absurd h.2.1 (hc.bc hb)
      · rw [if_neg hb] at h ⊢
        simp only [Prod.mk.injEq] at h
        obtain ⟨⟨rfl, rfl⟩, -, rfl⟩ := h
        exact ⟨_, by rw [hc.gl], hc.fs, rfl⟩
/-- The tokens as they have to be. -/
structure Tg (l : List Tok) : Prop where
  z : ∀ t ∈ l, t.k = 1 → t.t ≠ zzz
  p : ∀ t ∈ l, cls t ≠ 21 ∧ cls t ≠ 22
theorem L2.u2 : ∀ {l l' : List Tok}, L2 l l' → Tg l → U2 l l'
  | [], [], _, _ => trivial
  | t :: l, t' :: l', h, g => ⟨⟨h.1, g.z t (by simp), (g.p t (by simp)).1, (g.p t (by simp)).2⟩, L2.u2 (l := l) (l' := l') h.2 ⟨fun x hx => g.z x (by simp [hx]), fun x hx => g.p x (by simp [hx])⟩⟩
theorem scT_ren (l : List UInt8) (hl : l.length ≤ 3000) (h : (scT l).2.1 = 0) : ∃ ts', scT (rnS l) = (ts', 0, 0) ∧ L2 (scT l).1 ts' := by
  have hz := rnS_len l.length l (Nat.le_refl _)
  cases hs : scn l 0 [] with
  | ok ts =>
    obtain ⟨us, us', h1, h2, h3⟩ := scn_ren l.length l 0 0 [] (Nat.le_refl _) ts hs
    have e1 : scT l = (us, 0, 0) := by unfold scT; rw [if_neg (by omega), hs, h1]; rfl
    have e2 : scT (rnS l) = (us', 0, 0) := by unfold scT; rw [if_neg (by omega), h2 []]; rfl
    refine ⟨us', e2, ?_⟩
    rw [e1]; exact h3
  | bad c p =>
    have e1 : scT l = ([], c, (p : Int)) := by unfold scT; rw [if_neg (by omega), hs]
    rw [e1] at h
    exact absurd h (scn_badc l.length l 0 [] (Nat.le_refl _) c p hs).1
theorem chT_ren (l : List UInt8) (hl : l.length ≤ 3000) {fs : List Fn} {gl : List Tx} {ct : Int} (h : chT l = ((fs, gl), 0, ct)) (g : Tg (scT l).1) : ∃ fs', chT (rnS l) = ((fs', gl.map ren), 0, 0) ∧ fs'.map fk = fs.map fk := by
  unfold chT at h
  by_cases hp : (prT l).2.1 = 0
  · rw [if_pos hp] at h
    have hs : (scT l).2.1 = 0 := by
      by_cases hs : (scT l).2.1 = 0
      · exact hs
      · exfalso; unfold prT at hp; rw [if_pos hs] at hp; exact hs hp
    obtain ⟨ts', e1, e2⟩ := scT_ren l hl hs
    have hc := r_chk (e2.u2 g)
    have e3 : prT (rnS l) = outT (chk ts') := by unfold prT; rw [e1, if_neg (by simp)]
    have e4 : prT l = outT (chk (scT l).1) := by unfold prT; rw [if_neg (by simpa using hs)]
    rw [e4] at h hp
    have hnn := chk_some (scT l).1
    generalize chk (scT l).1 = x at hc h hp hnn
    generalize chk ts' = y at hc e3
    cases hc with
    | ok q hf hu =>
      obtain ⟨fs', g1, g2, g3⟩ := chF_ren hf h
      refine ⟨fs', ?_, g2⟩
      unfold chT
      rw [e3]
      exact g1
    | bad p p' => exact absurd hp (show ¬ (4 : Int) = 0 by decide)
    | out => exact absurd rfl hnn
  · rw [if_neg hp] at h
    simp only [Prod.mk.injEq] at h
    exact absurd h.2.1 hp
end Go.Proofs.YtmejlldabdjpjaaGreat

/- The walk of fields: does a point or a brace stand among the tokens? -/
namespace Go.Proofs.YtmejlldabdjpjaaGreat
open Go.RowKit

theorem tok_row {w : World} {base : Nat} {v : Value} {ts : List Tok} (h : w.ownsRow base 86 4 v ts.length (cellsT ts)) : ∃ a c, v = .slice a ts.length c ∧ ts.length ≤ 9223372036854775807 ∧ ∀ k t, ts[k]? = some t → ∃ g, a = some ⟨g, 0, none⟩ ∧ g < w.heap.size ∧
    w.cell? ⟨g, k * 4, none⟩ = some (.int .i64 t.k) ∧ w.cell? ⟨g, k * 4 + 1, none⟩ = some (.string ⟨t.t.toArray⟩) ∧ w.cell? ⟨g, k * 4 + 2, none⟩ = some (.int .i64 t.v) ∧ w.cell? ⟨g, k * 4 + 3, none⟩ = some (.int .i64 t.p) := by
  have hcs := fun g => h.cells (g := g)
  rcases h.2 with ⟨e, h0⟩ | ⟨g, cap, cur, e, _, h3, _, h5, _⟩
  · refine ⟨none, 0, by rw [e, h0], by omega, fun k t hk => ?_⟩
    have := (List.getElem?_eq_some_iff.1 hk).1
    omega
  · subst e
    refine ⟨_, cap, rfl, ?_, fun k t hk => ⟨g, rfl, (h.lt g rfl).2, ?_⟩⟩
    · have : cap ≤ maxLen := h5
      unfold maxLen at this
      have := h.2
      omega
    have key : ∀ j u, (cellsT ts)[j]? = some u → w.cell? ⟨g, j, none⟩ = some u := fun j u hu => by
      have := hcs g rfl j u hu
      by_cases hp0 : j = 0
      · subst hp0; simpa [Addr.add] using this
      · simpa [Addr.add, hp0] using this
    exact ⟨key _ _ ((cellsT_at ts k 0 t hk (by omega)).trans rfl), key _ _ ((cellsT_at ts k 1 t hk (by omega)).trans rfl), key _ _ ((cellsT_at ts k 2 t hk (by omega)).trans rfl), key _ _ ((cellsT_at ts k 3 t hk (by omega)).trans rfl)⟩
def fldT (t : Tok) : Bool := decide (t.k = 5) && (decide (t.t = [46]) || decide (t.t = [123]))
def fldB (l : List Tok) : Bool := l.any fldT
set_option maxRecDepth 20000 in
set_option maxHeartbeats 4000000 in
theorem fields_any (s : ByteArray) (w : World) (hs : s.size ≤ 9223372036854775807) : Calls Tryz.prog 19 #[.string s] w fun e w' => e = .returned (.bool (fldB (scT s.data.toList).1)) ∧ Below w.heap.size w w' := by
  have CS := Scan_any s w hs
  generalize scT s.data.toList = R at CS ⊢
  obtain ⟨ts, c, p⟩ := R
  simp only at CS ⊢
  go_enter Tryz.func19, Tryz.ntmps19
  go_wp2_with fail
  refine CS.mono ?_
  rintro e w1 ⟨v, rfl, ho, hb⟩
  obtain ⟨a, cp, rfl, hmax, hrow⟩ := tok_row ho
  have HR : Hid (∀ k t, ts[k]? = some t → ∃ g, a = some ⟨g, 0, none⟩ ∧ g < w1.heap.size ∧ w1.cell? ⟨g, k * 4, none⟩ = some (.int .i64 t.k) ∧ w1.cell? ⟨g, k * 4 + 1, none⟩ = some (.string ⟨t.t.toArray⟩) ∧ w1.cell? ⟨g, k * 4 + 2, none⟩ = some (.int .i64 t.v) ∧ w1.cell? ⟨g, k * 4 + 3, none⟩ = some (.int .i64 t.p)) := hrow
  have HB : Hid (Below w.heap.size w w1) := hb
  obtain ⟨n, hn⟩ : ∃ n, ts.length = n := ⟨_, rfl⟩
  have HN : Hid (ts.length = n) := hn
  rw [hn] at hmax ⊢
  clear CS ho hb hrow hn
  have HB1 : Hid (Below w.heap.size w (w1.alloc (.cells #[.int .i64 c, .int .i64 p] 28))) := HB.out.alloc HB.out.size _
  go_wp2
  obtain ⟨W2, hW2⟩ : ∃ W2, w1.alloc (.cells #[.int .i64 c, .int .i64 p] 28) = W2 := ⟨_, rfl⟩
  have HR2 : Hid (∀ k t, ts[k]? = some t → ∃ g, a = some ⟨g, 0, none⟩ ∧ W2.cell? ⟨g, k * 4, none⟩ = some (.int .i64 t.k) ∧ W2.cell? ⟨g, k * 4 + 1, none⟩ = some (.string ⟨t.t.toArray⟩)) := fun k t hk => by
    obtain ⟨g, e1, e2, e3, e4, _⟩ := HR.out k t hk
    rw [← hW2]
    exact ⟨g, e1, alloc_cell e2 e3 _, alloc_cell e2 e4 _⟩
  rw [hW2] at HB1
  clear HR HB
  go_loopw [5] (fun iv wx => wx = W2 ∧ ∃ k : Nat, iv = .int .i64 (k : Nat) ∧ k ≤ n ∧ Hid (fldB ts = fldB (ts.drop k))) (fun iv _ => n - (intOf iv).toNat)
  case atStart => exact ⟨hW2, 0, rfl, by omega, rfl⟩
  case round =>
    obtain ⟨rfl, k, rfl, hk, HK⟩ := hrel
    clear hW2
    by_cases hlt : k < n
    · have h1 : (k : Int) < (n : Int) := by omega
      have wk : IntKind.i64.wrap ((k : Int) + 1) = (k : Int) + 1 := by rw [IntKind.wrap_i64]; omega
      have hms : n - (k + 1) < n - k := by omega
      obtain ⟨t, ht⟩ : ∃ t, ts[k]? = some t := ⟨ts[k]'(by rw [HN.out]; exact hlt), List.getElem?_eq_getElem _⟩
      obtain ⟨g, rfl, m0, m1⟩ := HR2.out k t ht
      have HD : Hid (fldB (ts.drop k) = (fldT t || fldB (ts.drop (k + 1)))) := by
        show _ = _
        obtain ⟨hb, he⟩ := List.getElem?_eq_some_iff.1 ht
        rw [List.drop_eq_getElem_cons hb, he]; rfl
      clear ht
      obtain ⟨tk, tt, tv, tp⟩ := t
      simp only at m0 m1
      by_cases h5 : tk = 5
      · subst h5
        by_cases e46 : tt = [46]
        · subst e46
          have HT : Hid (fldB ts = true) := by show _ = _; rw [HK.out, HD.out]; rfl
          go_wp2
          go_ret
          exact ⟨ret_bool HT.out.symm, HB1.out⟩
        · by_cases e123 : tt = [123]
          · subst e123
            have HT : Hid (fldB ts = true) := by show _ = _; rw [HK.out, HD.out]; rfl
            go_wp2
            go_ret
            exact ⟨ret_bool HT.out.symm, HB1.out⟩
          · have HT : Hid (fldB ts = fldB (ts.drop (k + 1))) := by show _ = _; rw [HK.out, HD.out]; simp [fldT, e46, e123]
            obtain ⟨X, hX⟩ : ∃ X : ByteArray, (⟨tt.toArray⟩ : ByteArray) = X := ⟨_, rfl⟩
            have hXt : X.toList = tt := by rw [ByteArray.toList_eq, ← hX]
            have q1 : ¬ X.toList = [46] := by rw [hXt]; exact e46
            have q2 : ¬ X.toList = [123] := by rw [hXt]; exact e123
            have q3 : (X.toList == [46]) = false := by simpa using q1
            have q4 : (X.toList == [123]) = false := by simpa using q2
            rw [hX] at m1
            clear hXt
            clear hX e46 e123 HD HK
            go_wp2
            go_roundw
            case rel => exact ⟨trivial, k + 1, by go_num, by omega, HT⟩
            case measure => first | omega | (simp only [intOf]; omega) | (simp; omega)
      · have HT : Hid (fldB ts = fldB (ts.drop (k + 1))) := by show _ = _; rw [HK.out, HD.out]; simp [fldT, h5]
        obtain ⟨X, hX⟩ : ∃ X : ByteArray, (⟨tt.toArray⟩ : ByteArray) = X := ⟨_, rfl⟩
        rw [hX] at m1
        clear hX HD HK
        go_wp2
        go_roundw
        case rel => exact ⟨trivial, k + 1, by go_num, by omega, HT⟩
        case measure => first | omega | (simp only [intOf]; omega) | (simp; omega)
    · have h1 : ¬ (k : Int) < (n : Int) := by omega
      have HT : Hid (fldB ts = false) := by
        show _ = _
        rw [HK.out, List.drop_of_length_le (by rw [HN.out]; omega)]; rfl
      go_wp2
      go_ret
      exact ⟨ret_bool HT.out.symm, HB1.out⟩
end Go.Proofs.YtmejlldabdjpjaaGreat
