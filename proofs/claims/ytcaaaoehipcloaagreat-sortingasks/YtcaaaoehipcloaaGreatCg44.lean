/- SortingAsks: the sorter's table where Nil may stand in the row, a key behind it and another one (no program in it). -/
import Derived.Test.YtcaaaoehipcloaaGreatCg32
import Derived.Test.YtcaaaoehipcloaaGreatCg08
import Derived.Test.YtcaaaoehipcloaaGreatCg36
import Derived.Test.YtcaaaoehipcloaaGreatCg05
import Derived.Test.YtcaaaoehipcloaaGreatCg17
import Derived.Test.YtcaaaoehipcloaaGreatCg04
import Derived.Test.YtcaaaoehipcloaaGreatCg16
import Derived.Test.YtcaaaoehipcloaaGreatCg41
namespace Go.Proofs.YtcaaaoehipcloaaGreat
open Go.RowKit

/-- A Set keeps what stays true of the parts, whatever comes of it. -/
theorem tset_ti {t : TS} {s : H.St} {k v : V} (h : TI t.p) (hr : Rng k) : TI (tset t s k v).1.p := by
  unfold tset
  by_cases hf : fm k = true ∧ fm v = true
  · rw [if_neg (fun q => q hf)]
    by_cases hk0 : k.1 = 0
    · rw [if_pos hk0]; exact h
    · rw [if_neg hk0]
      have h1 : TI (one t k v).p := h.set hr hf.2
      by_cases he : (pset t.p k v).2.2 = 12
      · rw [if_neg (fun q => q he)]
        have hk : KOK k := ⟨hf.1, hk0, hr.1, hr.2⟩
        obtain ⟨_, _, _, _, _, _, _, ha⟩ := h.full hk he
        by_cases hR : (reh (one t k v) s k).2.2 = 0
        · rw [if_neg (fun q => q hR)]
          have e0 : rsE (one t k v).p k = 0 := by
            unfold reh at hR
            by_cases q : rsE (one t k v).p k = 0
            · exact q
            · rw [if_pos q] at hR; exact absurd hR q
          have e1 : (reh (one t k v) s k).1.p = fill (one t k v).p (fresh (rsA (one t k v).p k) (rsZ (one t k v).p k)) := by
            unfold reh at hR ⊢
            rw [if_neg (fun q => q e0)] at hR ⊢
            by_cases q : tpE s (rsA (one t k v).p k) (rsZ (one t k v).p k) = 0
            · rw [if_neg (fun x => x q)]
            · rw [if_pos q] at hR; exact absurd hR q
          obtain ⟨_, F, _, _⟩ := (cens (p := (one t k v).p) ha.ok ha.nd).resolve_left (fun q => by rw [e0] at q; cases q)
          have hroom : outK (rsA (one t k v).p k) (pres (one t k v).p) ≤ rsZ (one t k v).p k := by have := F.room; rw [outK_app] at this; omega
          show TI (pset (reh (one t k v) s k).1.p k v).1
          rw [e1]
          exact (h1.filled F.a F.z hroom).1.set hr hf.2
        · rw [if_pos hR, reh_err hR]; exact h1
      · rw [if_pos he]; exact h1
  · rw [if_pos (fun q => hf q)]; exact h
theorem tpS_iv {s : H.St} (h : H.Inv 0 s) (A Z : Int) : H.Inv 0 (tpS s A Z) := by
  unfold tpS
  split
  · exact h
  · split
    · exact (h.take _).give _
    · exact (h.take _).take _
theorem tset_iv {t : TS} {s : H.St} {k v : V} (h : H.Inv 0 s) : H.Inv 0 (tset t s k v).2.1 := by
  have hr : ∀ u : TS, H.Inv 0 (reh u s k).2.1 := fun u => by
    unfold reh
    split
    · exact h
    · split
      · exact tpS_iv h _ _
      · exact ((tpS_iv h _ _).give _).give _
  unfold tset
  split
  · exact h
  · split
    · exact h
    · split
      · exact h
      · split
        · exact hr _
        · exact hr _
/-- The other key. -/
def ke (z : ByteArray) : V := (3, 0, z)
theorem rng_ke (z : ByteArray) : Rng (ke z) := ⟨by show (-9223372036854775808 : Int) ≤ 0; decide, by show (0 : Int) ≤ 9223372036854775807; decide⟩
/-- The keys that may be there: 1 to n + 1, and the other one. -/
def Wk (n : Nat) (z : ByteArray) (x : V) : Prop := x = ke z ∨ ∃ i : Nat, i ≤ n ∧ x = kn ((i : Int) + 1)
structure Mm (n : Nat) (z : ByteArray) (m : V → V) (t : TS) (s : H.St) : Prop where
  ti : TI t.p
  iv : H.Inv 0 s
  tb : TB t s 4
  lm : s.lim = 3000
  nn : t.p.n ≤ 130
  zz : t.p.z ≤ 130
  wd : ∀ k ∈ pres t.p, Wk n z k
  mp : ∀ x, KOK x → pget t.p x = m x
theorem Wk.len {n : Nat} {z : ByteArray} {l : List V} (hn : l.Nodup) (h : ∀ k ∈ l, Wk n z k) : l.length ≤ n + 2 := by
  have : l.length ≤ (ke z :: (List.range (n + 1)).map fun i : Nat => kn ((i : Int) + 1)).length := nd_len hn fun k hk => by
    rcases h k hk with e | ⟨i, h1, h2⟩
    · rw [e]; exact List.mem_cons_self ..
    · exact List.mem_cons_of_mem _ (List.mem_map.2 ⟨i, List.mem_range.2 (by omega), h2.symm⟩)
  simpa using this
theorem Mm.set {n : Nat} {z : ByteArray} {m : V → V} {t : TS} {s : H.St} (h : Mm n z m t s) (hn : n ≤ 60) {k v : V} (hw : Wk n z k) (hk : KOK k) (hv : fm v = true) :
    (tset t s k v).2.2 = 0 ∧ Mm n z (fun x => if x = k then v else m x) (tset t s k v).1 (tset t s k v).2.1 := by
  have hr : Rng k := ⟨hk.2.2.1, hk.2.2.2⟩
  have hl := Wk.len h.ti.pres_nd h.wd
  have sm : S3 t (n + 2) := ⟨h.nn, h.zz, hl⟩
  have e0 : (tset t s k v).2.2 = 0 := set_zero3 h.ti hr hk.1 hv hk.2.1 h.tb h.iv h.lm sm (by omega)
  have ti' : TI (tset t s k v).1.p := tset_ti h.ti hr
  have tb := h.tb.set h.iv k v
  have sm' := sm.set (by omega) h.ti hr ti'
  obtain ⟨_, _, g1, g2⟩ := (tset_map (s := s) (v := v) h.ti hr).1 e0
  refine ⟨e0, ti', tset_iv h.iv, tb.1, tb.2.trans h.lm, sm'.n, sm'.z, fun x hx => ?_, fun x hx => ?_⟩
  · obtain ⟨q1, q2⟩ := ti'.mem_pres.1 hx
    by_cases e : x = k
    · rw [e]; exact hw
    · rw [g2 x q1 e] at q2
      exact h.wd x (h.ti.mem_pres.2 ⟨q1, q2⟩)
  · by_cases e : x = k
    · subst e; rw [if_pos rfl]; exact g1
    · rw [if_neg e, g2 x hx e]; exact h.mp x hx
/-- What stands at a key. -/
def fulm (n : Nat) (z : ByteArray) (e1 e2 : V) (f : Int → V) (x : V) : V :=
  if x = ke z then e2 else if x = kn ((n : Int) + 1) then e1 else if x.1 = 2 ∧ 1 ≤ x.2.1 ∧ x.2.1 ≤ (n : Int) then f x.2.1 else nil
/-- A row of n values, Nil among them maybe; what stands behind it; what stands at the other key. -/
structure Mx (z : ByteArray) (e1 e2 : V) (n : Nat) (t : TS) (s : H.St) (f : Int → V) : Prop where
  mm : Mm n z (fulm n z e1 e2 f) t s
  hn : n ≤ 60
  fv : ∀ k, 1 ≤ k → k ≤ (n : Int) → fm (f k) = true
theorem Mm.like {n : Nat} {z : ByteArray} {m m' : V → V} {t : TS} {s : H.St} (h : Mm n z m t s) (e : ∀ x, KOK x → m x = m' x) : Mm n z m' t s :=
  ⟨h.ti, h.iv, h.tb, h.lm, h.nn, h.zz, h.wd, fun x hx => (h.mp x hx).trans (e x hx)⟩
theorem kn_ke {i : Int} {z : ByteArray} : kn i ≠ ke z := fun e => by have := congrArg Prod.fst e; cases this
theorem fulm_row {n : Nat} {z : ByteArray} {e1 e2 : V} {f : Int → V} {k : Int} (h1 : 1 ≤ k) (h2 : k ≤ (n : Int)) : fulm n z e1 e2 f (kn k) = f k := by
  unfold fulm
  rw [if_neg kn_ke, if_neg (fun e => by have := kn_inj e; omega), if_pos ⟨rfl, h1, h2⟩]
theorem fulm_upd {n : Nat} {z : ByteArray} {e1 e2 : V} {f : Int → V} {k : Int} {v : V} (h1 : 1 ≤ k) (h2 : k ≤ (n : Int)) (x : V) (hx : KOK x) : (if x = kn k then v else fulm n z e1 e2 f x) = fulm n z e1 e2 (U.sw1 f k v) x := by
  by_cases e : x = kn k
  · rw [if_pos e, e, fulm_row h1 h2]
    unfold U.sw1
    rw [if_pos rfl]
  · rw [if_neg e]
    unfold fulm
    by_cases q1 : x = ke z
    · rw [if_pos q1, if_pos q1]
    · rw [if_neg q1, if_neg q1]
      by_cases q2 : x = kn ((n : Int) + 1)
      · rw [if_pos q2, if_pos q2]
      · rw [if_neg q2, if_neg q2]
        by_cases q3 : x.1 = 2 ∧ 1 ≤ x.2.1 ∧ x.2.1 ≤ (n : Int)
        · rw [if_pos q3, if_pos q3]
          unfold U.sw1
          rw [if_neg (fun q => e (by rw [← q]; exact kn_of hx.1 q3.1))]
        · rw [if_neg q3, if_neg q3]
theorem hd_mx {n : Nat} {z : ByteArray} {e1 e2 : V} : U.Hd n (fun v => fm v = true) (Mx z e1 e2 n) where
  gd := fun _ _ _ k h h1 h2 => h.fv k h1 h2
  rd := fun _ _ _ k h h1 h2 => by
    have hn := h.hn
    rw [h.mm.mp (kn k) (KOK_pos h1 (by omega))]; exact fulm_row h1 h2
  pr := fun _ _ _ _ h => ⟨⟨h.mm.ti, h.mm.iv, ⟨h.mm.tb.b1, h.mm.tb.b2, h.mm.tb.ne, h.mm.tb.live⟩, h.mm.lm, h.mm.nn, h.mm.zz, h.mm.wd, h.mm.mp⟩, h.hn, h.fv⟩
  st := fun t s f k v h h1 h2 hv => by
    have hn := h.hn
    obtain ⟨q1, q2⟩ := h.mm.set hn (k := kn k) (v := v) (.inr ⟨(k - 1).toNat, by omega, by congr 1; omega⟩) (KOK_pos h1 (by omega)) hv
    refine ⟨q1, q2.like (fulm_upd h1 h2), hn, fun j j1 j2 => ?_⟩
    unfold U.sw1
    split
    · exact hv
    · exact h.fv j j1 j2
theorem KOK_ke {z : ByteArray} (h : fm (ke z) = true) : KOK (ke z) := ⟨h, by show (3 : Int) ≠ 0; decide, by show (-9223372036854775808 : Int) ≤ 0; decide, by show (0 : Int) ≤ 9223372036854775807; decide⟩
/-- The key behind the row is set. -/
theorem Mx.behind {z : ByteArray} {e1 e2 : V} {n : Nat} {t : TS} {s : H.St} {f : Int → V} (h : Mx z e1 e2 n t s f) {v : V} (hv : fm v = true) : (tset t s (kn ((n : Int) + 1)) v).2.2 = 0 ∧ Mx z v e2 n (tset t s (kn ((n : Int) + 1)) v).1 (tset t s (kn ((n : Int) + 1)) v).2.1 f := by
  have hn := h.hn
  obtain ⟨q1, q2⟩ := h.mm.set hn (k := kn ((n : Int) + 1)) (v := v) (.inr ⟨n, Nat.le_refl _, rfl⟩) (KOK_pos (by omega) (by omega)) hv
  refine ⟨q1, q2.like (fun x _ => ?_), hn, h.fv⟩
  unfold fulm
  by_cases e : x = kn ((n : Int) + 1)
  · rw [if_pos e, if_neg (fun q => kn_ke (e.symm.trans q)), if_pos e]
  · rw [if_neg e]
    by_cases q : x = ke z
    · rw [if_pos q, if_pos q]
    · rw [if_neg q, if_neg q, if_neg e, if_neg e]
/-- The other key is set. -/
theorem Mx.other {z : ByteArray} {e1 e2 : V} {n : Nat} {t : TS} {s : H.St} {f : Int → V} (h : Mx z e1 e2 n t s f) (hz : fm (ke z) = true) {v : V} (hv : fm v = true) : (tset t s (ke z) v).2.2 = 0 ∧ Mx z e1 v n (tset t s (ke z) v).1 (tset t s (ke z) v).2.1 f := by
  obtain ⟨q1, q2⟩ := h.mm.set h.hn (k := ke z) (v := v) (.inl rfl) (KOK_ke hz) hv
  refine ⟨q1, q2.like (fun x _ => ?_), h.hn, h.fv⟩
  unfold fulm
  by_cases e : x = ke z
  · rw [if_pos e, if_pos e]
  · rw [if_neg e, if_neg e, if_neg e]
theorem Mx.get1 {z : ByteArray} {e1 e2 : V} {n : Nat} {t : TS} {s : H.St} {f : Int → V} (h : Mx z e1 e2 n t s f) : pget t.p (kn ((n : Int) + 1)) = e1 := by
  have hn := h.hn
  rw [h.mm.mp _ (KOK_pos (by omega) (by omega))]
  unfold fulm
  rw [if_neg kn_ke, if_pos rfl]
theorem Mx.get2 {z : ByteArray} {e1 e2 : V} {n : Nat} {t : TS} {s : H.St} {f : Int → V} (h : Mx z e1 e2 n t s f) (hz : fm (ke z) = true) : pget t.p (ke z) = e2 := by
  rw [h.mm.mp _ (KOK_ke hz)]
  unfold fulm
  rw [if_pos rfl]
theorem Mx.get0 {z : ByteArray} {e1 e2 : V} {n : Nat} {t : TS} {s : H.St} {f : Int → V} (h : Mx z e1 e2 n t s f) : pget t.p (kn 0) = nil := by
  rw [h.mm.mp (kn 0) ⟨fm_kn 0, by simp, by simp, by simp⟩]
  unfold fulm
  rw [if_neg kn_ke, if_neg (fun e => by have := kn_inj e; omega), if_neg (fun q => by have := q.2.1; exact absurd this (by simp))]
/-- What stands in the row behind begin. -/
def rowF (F : Nat → V) (k : Int) : V := if fm (F (k - 1).toNat) = true then F (k - 1).toNat else nil
theorem nlast_nat (F : Nat → V) (k : Nat) : ∃ n : Nat, nlast F k = (n : Int) ∧ n ≤ k := ⟨(nlast F k).toNat, by have := nlast_le F k; omega, by have := nlast_le F k; omega⟩
theorem nlast_out (F : Nat → V) : ∀ (k j : Nat), (nlast F k : Int) ≤ (j : Int) → j < k → fm (F j) ≠ true
  | 0, j, _, h => by omega
  | k + 1, j, h1, h2 => by
    unfold nlast at h1
    by_cases q : fm (F k) = true
    · rw [if_pos q] at h1; omega
    · rw [if_neg q] at h1
      by_cases e : j = k
      · subst e; exact q
      · exact nlast_out F k j h1 (by omega)
/-- Behind begin. -/
theorem Bj.mx {F : Nat → V} {k n : Nat} {t : TS} {s : H.St} (h : Bj F k t s) (ti : TI t.p) (iv : H.Inv 0 s) (hk : k ≤ 60) (en : nlast F k = (n : Int)) (z : ByteArray) : Mx z nil nil n t s (rowF F) := by
  have hl := nlast_le F k
  have hb : ∀ x, KOK x → bgm F k x = fulm n z nil nil (rowF F) x := fun x hx => by
    unfold bgm fulm
    by_cases q1 : x = ke z
    · rw [if_pos q1, if_neg (fun q => by have := q.1; rw [q1] at this; exact absurd (show (3 : Int) = 2 from this) (by decide))]
    · rw [if_neg q1]
      by_cases q2 : x = kn ((n : Int) + 1)
      · rw [if_pos q2, if_neg (fun q => by
          have e1 : x.2.1 = (n : Int) + 1 := by rw [q2]
          rw [e1] at q
          exact nlast_out F k ((n : Int) + 1 - 1).toNat (by omega) (by omega) q.2.2.2)]
      · rw [if_neg q2]
        by_cases q3 : x.1 = 2 ∧ 1 ≤ x.2.1 ∧ x.2.1 ≤ (n : Int)
        · rw [if_pos q3]
          unfold rowF
          by_cases q4 : fm (F (x.2.1 - 1).toNat) = true
          · rw [if_pos q4, if_pos ⟨q3.1, q3.2.1, by omega, q4⟩]
          · rw [if_neg q4, if_neg (fun q => q4 q.2.2.2)]
        · rw [if_neg q3, if_neg (fun q => by
            by_cases q5 : x.2.1 ≤ (n : Int)
            · exact q3 ⟨q.1, q.2.1, q5⟩
            · exact nlast_out F k (x.2.1 - 1).toNat (by omega) (by omega) q.2.2.2)]
  have hmp : ∀ x, KOK x → pget t.p x = fulm n z nil nil (rowF F) x := fun x hx => (h.mp x hx).trans (hb x hx)
  refine ⟨⟨ti, iv, h.tb, h.lim, h.sm.n, h.sm.z, fun x hx => ?_, hmp⟩, by omega, fun j _ _ => ?_⟩
  · obtain ⟨q1, q2⟩ := ti.mem_pres.1 hx
    rw [h.mp x q1] at q2
    unfold bgm at q2
    by_cases q3 : x.1 = 2 ∧ 1 ≤ x.2.1 ∧ x.2.1 ≤ (k : Int) ∧ fm (F (x.2.1 - 1).toNat) = true
    · refine .inr ⟨(x.2.1 - 1).toNat, ?_, ?_⟩
      · by_cases q5 : x.2.1 ≤ (n : Int)
        · omega
        · exact absurd q3.2.2.2 (nlast_out F k (x.2.1 - 1).toNat (by omega) (by omega))
      · exact (kn_of q1.1 q3.1).trans (by congr 1; omega)
    · rw [if_neg q3] at q2; exact absurd rfl q2
  · unfold rowF
    split
    · assumption
    · exact fm_nil
namespace U
/-- What is asked about stands in the row. -/
theorem SI.qs_in {n : Nat} {s : SS} {f : Int → V} (h : SI n s f) : (∃ k : Int, 1 ≤ k ∧ k ≤ (n : Int) ∧ (qs s).1 = f k) ∧ ∃ k : Int, 1 ≤ k ∧ k ≤ (n : Int) ∧ (qs s).2 = f k := by
  have h1 := h.lt
  have h2 := h.lo
  have h3 := h.up
  unfold qs
  rcases h.st with ⟨ea, ex, ey⟩ | ⟨ea, e1, ep, ex, ey⟩ | ⟨ea, e1, ep, ex, ey⟩ | ⟨ea, ev, ex, e1, e2, e3, e4⟩ | ⟨ea, ev, ex, ey, e1, e2, e3, e4⟩
  · rw [if_pos ea]
    exact ⟨⟨s.up, by omega, by omega, ey⟩, ⟨s.lo, by omega, by omega, ex⟩⟩
  · rw [if_neg (by omega), if_pos ea]
    exact ⟨⟨s.p, by omega, by omega, ex⟩, ⟨s.lo, by omega, by omega, ey⟩⟩
  · rw [if_neg (by omega), if_neg (by omega), if_pos ea]
    exact ⟨⟨s.up, by omega, by omega, ey⟩, ⟨s.p, by omega, by omega, ex⟩⟩
  · rw [if_neg (by omega), if_neg (by omega), if_neg (by omega), if_pos ea]
    exact ⟨⟨s.i, by omega, by omega, ex⟩, ⟨s.up - 1, by omega, by omega, ev⟩⟩
  · rw [if_neg (by omega), if_neg (by omega), if_neg (by omega), if_neg (by omega)]
    exact ⟨⟨s.up - 1, by omega, by omega, ev⟩, ⟨s.j, by omega, by omega, ey⟩⟩
theorem cnt_pos {f : Int → V} {w : V} : ∀ {n : Nat}, (∃ k : Int, 1 ≤ k ∧ k ≤ (n : Int) ∧ f k = w) ↔ 1 ≤ cnt f w n
  | 0 => ⟨fun ⟨k, h1, h2, _⟩ => by omega, fun h => by unfold cnt at h; omega⟩
  | n + 1 => by
    have ih := cnt_pos (f := f) (w := w) (n := n)
    unfold cnt
    constructor
    · rintro ⟨k, h1, h2, h3⟩
      by_cases e : k = (n : Int) + 1
      · subst e; rw [if_pos h3]; omega
      · have := ih.1 ⟨k, h1, by omega, h3⟩; omega
    · intro h
      by_cases e : f ((n : Int) + 1) = w
      · exact ⟨_, by omega, by omega, e⟩
      · rw [if_neg e] at h
        obtain ⟨k, h1, h2, h3⟩ := ih.2 (by omega)
        exact ⟨k, h1, by omega, h3⟩
theorem Sc.mem {n : Nat} {f g : Int → V} (h : Sc n f g) {k : Int} (h1 : 1 ≤ k) (h2 : k ≤ (n : Int)) : ∃ j : Nat, j < n ∧ f ((j : Int) + 1) = g k := by
  have := cnt_pos.1 ⟨k, h1, h2, (rfl : g k = g k)⟩
  rw [h (g k)] at this
  obtain ⟨j, j1, j2, j3⟩ := cnt_pos.2 this
  exact ⟨(j - 1).toNat, by omega, by rw [show (((j - 1).toNat : Nat) : Int) + 1 = j by omega]; exact j3⟩
end U
end Go.Proofs.YtcaaaoehipcloaaGreat

/- SortingAsks: a list of whole numbers that grows by append; a table beside it. -/
namespace Go.Proofs.YtcaaaoehipcloaaGreat
open Go.RowKit

def cellsK (K : Nat → Int) (n : Nat) : List Value := (List.range n).map fun j => .int .i64 (K j)
theorem cellsK_len (K : Nat → Int) (n : Nat) : (cellsK K n).length = n := by simp [cellsK]
theorem cellsK_snoc (K : Nat → Int) (n : Nat) : cellsK K n ++ [.int .i64 (K n)] = cellsK K (n + 1) := by simp [cellsK, List.range_succ]
theorem cellsK_at (K : Nat → Int) (n j : Nat) (h : j < n) : (cellsK K n)[j]? = some (.int .i64 (K j)) := by
  unfold cellsK
  rw [List.getElem?_map, List.getElem?_range h]
  rfl
/-- The list of n whole numbers that v is, in a block of its own from B on. -/
structure Lkn (w : World) (B : Nat) (v : Value) (n : Nat) (K : Nat → Int) : Prop where
  own : w.ownsRow B 3 1 v n (cellsK K n)
theorem Lkn.nil (w : World) (B : Nat) (K : Nat → Int) : Lkn w B (.slice none 0 0) 0 K := ⟨World.ownsRow_nil w B 3 1⟩
theorem Lkn.keep {No : Nat → Prop} {w w' : World} {B : Nat} {v : Value} {n : Nat} {K : Nat → Int} (h : Lkn w B v n K) (k : Keep No w w') (hn : ∀ g, v.ownBlock = some g → No g) : Lkn w' B v n K := by
  refine ⟨h.own.1, ?_⟩
  rcases h.own.2 with q | ⟨g, cap, cur, rfl, h2, h3, h4⟩
  · exact .inl q
  · have hlt : g < w.heap.size := (Array.getElem?_eq_some_iff.1 h3).1
    exact .inr ⟨g, cap, cur, rfl, h2, by rw [k.block g hlt (hn g rfl)]; exact h3, h4⟩
theorem Lkn.below {w w' : World} {B : Nat} {v : Value} {n : Nat} {K : Nat → Int} (h : Lkn w B v n K) (k : Below w.heap.size w w') : Lkn w' B v n K := h.keep (No := fun _ => True) (Keep.of k) (fun _ _ => trivial)
theorem Lkn.form {w : World} {B : Nat} {v : Value} {n : Nat} {K : Nat → Int} (h : Lkn w B v n K) : ∃ a c, v = .slice a n c := by
  rcases h.own.2 with ⟨rfl, rfl⟩ | ⟨g, cap, cur, rfl, _⟩
  · exact ⟨none, 0, rfl⟩
  · exact ⟨_, _, rfl⟩
theorem Lkn.at {w : World} {B : Nat} {v : Value} {n : Nat} {K : Nat → Int} (h : Lkn w B v n K) {i : Nat} (hi : i < n) : ∃ g c, v = .slice (some ⟨g, 0, none⟩) n c ∧ g < w.heap.size ∧ w.cell? ⟨g, i, none⟩ = some (.int .i64 (K i)) := by
  obtain ⟨g, c, rfl, h1, h2⟩ := h.own.form (by omega)
  exact ⟨g, c, rfl, h2, by rw [h.own.cellAt _ (by omega), cellsK_at _ _ _ hi]⟩
theorem Lkn.app {w : World} {B : Nat} {v : Value} {n : Nat} {K : Nat → Int} (h : Lkn w B v n K) {b : Nat} (hx : w.cell? ⟨b, 0, none⟩ = some (.int .i64 (K n))) (hn : n ≤ 400) (hB : B ≤ w.heap.size) :
    ∃ g c w', (Builtin.append_ #[37, 37] 37 #[v, .slice (some ⟨b, 0, none⟩) 1 1]).run Tryz.prog w = .ok (.slice (some ⟨g, 0, none⟩) (n + 1) c) w' ∧ Lkn w' B (.slice (some ⟨g, 0, none⟩) (n + 1) c) (n + 1) K ∧ w.grownBy w' v.ownBlock ∧ (v.ownBlock = some g ∨ g = w.heap.size) ∧ g < w'.heap.size := by
  obtain ⟨i0, hi, hz0, hz1, hz2⟩ := info_parts info3
  obtain ⟨g, c, w', h1, h2, h3, h4, h5⟩ := run_append_lies (P := Tryz.prog) w 37 37 B 3 i0 (.int .i64 0) 1 8 Tryz.underlying37 hi hz0 hz1 hz2 rfl (by omega) v n (cellsK K n) h.own ⟨b, 0, none⟩ 1 1 [.int .i64 (K n)] rfl (fun j u hu => by
    have hadd : (⟨b, 0, none⟩ : Addr).add j = ⟨b, j, none⟩ := by unfold Addr.add; split <;> simp_all
    rw [hadd]
    have hj : j < 1 := (List.getElem?_eq_some_iff.1 hu).1
    obtain rfl : j = 0 := by omega
    simp at hu; rw [← hu]; exact hx) (by intro u hu; simp at hu; rcases hu with rfl; rfl) (by omega) (by simp only [maxLen]; omega) (by omega) hB _ rfl
  exact ⟨g, c, w', h1, ⟨by rw [← cellsK_snoc]; exact h2⟩, h3, h4, h5⟩
/-- A table and a list of kinds. -/
structure Aw (w : World) (z : ByteArray) (e1 e2 : V) (T S hb c n : Nat) (f : Int → V) (v : Value) (m : Nat) (K : Nat → Int) (wx : World) : Prop where
  tw : ∃ (No : Nat → Prop) (A b a : Nat) (t : TS) (s : H.St), TT No wx T A b a S hb c t s ∧ Mx z e1 e2 n t s f ∧ (∀ g, g < w.heap.size → No g) ∧ ∀ q, v.ownBlock = some q → No q
  lk : Lkn wx w.heap.size v m K
  bl : Below w.heap.size w wx
section
variable {w wx wy : World} {z : ByteArray} {e1 e2 : V} {T S hb c n : Nat} {f : Int → V} {v : Value} {m : Nat} {K : Nat → Int}
theorem Aw.below (h : Aw w z e1 e2 T S hb c n f v m K wx) (k : Below wx.heap.size wx wy) : Aw w z e1 e2 T S hb c n f v m K wy := by
  obtain ⟨No, A, b, a, t, s, h1, h2, h3, h4⟩ := h.tw
  exact ⟨⟨No, A, b, a, t, s, h1.below k, h2, h3, h4⟩, h.lk.below k, bthen h.bl h.bl.size k⟩
theorem Aw.more {c2 : Nat} (h : Aw w z e1 e2 T S hb c n f v m K wx) (hc : c ≤ c2) : Aw w z e1 e2 T S hb c2 n f v m K wx := by
  obtain ⟨No, A, b, a, t, s, h1, h2, h3, h4⟩ := h.tw
  exact ⟨⟨No, A, b, a, t, s, h1.more hc, h2, h3, h4⟩, h.lk, h.bl⟩
theorem Aw.form (h : Aw w z e1 e2 T S hb c n f v m K wx) : ∃ a q, v = .slice a m q := h.lk.form
theorem Aw.row (h : Aw w z e1 e2 T S hb c n f v m K wx) (hc : c ≤ 700000) (k : Int) (h1 : 1 ≤ k) (h2 : k ≤ (n : Int)) (hn : n ≤ 60) :
    Calls Tryz.prog 9 #[.pointer (some ⟨T, 0, none⟩), .agg #[.int .i64 2, .int .i64 k, .string ⟨#[]⟩]] wx fun e w' => e = .returned (.agg #[.int .i64 (f k).1, .int .i64 (f k).2.1, .string (f k).2.2]) ∧ Aw w z e1 e2 T S hb (c + 1) n f v m K w' := by
  obtain ⟨No, A, b, a, t, s, t1, t2, t3, t4⟩ := h.tw
  have C := tget_any t1 (by omega) (kn k) (rng_kn (by omega) (by omega))
  rw [hd_mx.rd _ _ _ _ t2 h1 h2] at C
  refine C.mono fun e w' ⟨q1, q2, q3⟩ => ?_
  exact ⟨q1, ⟨No, A, b, a, _, s, q2, hd_mx.pr _ _ _ _ t2, t3, t4⟩, h.lk.keep q3 t4, h.bl.trans (q3.below h.bl.size t3)⟩
theorem Aw.setb (h : Aw w z e1 e2 T S hb c n f v m K wx) (hc : c ≤ 700000) (hn : n ≤ 60) (u : V) (hu : fm u = true) :
    Calls Tryz.prog 6 #[.pointer (some ⟨T, 0, none⟩), .agg #[.int .i64 2, .int .i64 ((n : Int) + 1), .string ⟨#[]⟩], .agg #[.int .i64 u.1, .int .i64 u.2.1, .string u.2.2]] wx fun e w' => e = .returned (.int .i64 0) ∧ Aw w z u e2 T S hb (c + 7) n f v m K w' := by
  obtain ⟨No, A, b, a, t, s, t1, t2, t3, t4⟩ := h.tw
  have C := tset_any t1 (by omega) (kn ((n : Int) + 1)) u (rng_kn (by omega) (by omega))
  obtain ⟨g1, g2⟩ := t2.behind hu
  rw [g1] at C
  refine C.mono fun e w' ⟨q1, ⟨A', b', a', q2⟩, q3⟩ => ?_
  exact ⟨q1, ⟨No, A', b', a', _, _, q2, g2, t3, t4⟩, h.lk.keep q3 t4, h.bl.trans (q3.below h.bl.size t3)⟩
theorem Aw.seto (h : Aw w z e1 e2 T S hb c n f v m K wx) (hc : c ≤ 700000) (hz : fm (ke z) = true) (u : V) (hu : fm u = true) :
    Calls Tryz.prog 6 #[.pointer (some ⟨T, 0, none⟩), .agg #[.int .i64 3, .int .i64 0, .string z], .agg #[.int .i64 u.1, .int .i64 u.2.1, .string u.2.2]] wx fun e w' => e = .returned (.int .i64 0) ∧ Aw w z e1 u T S hb (c + 7) n f v m K w' := by
  obtain ⟨No, A, b, a, t, s, t1, t2, t3, t4⟩ := h.tw
  have C := tset_any t1 (by omega) (ke z) u (rng_ke z)
  obtain ⟨g1, g2⟩ := t2.other hz hu
  rw [g1] at C
  refine C.mono fun e w' ⟨q1, ⟨A', b', a', q2⟩, q3⟩ => ?_
  exact ⟨q1, ⟨No, A', b', a', _, _, q2, g2, t3, t4⟩, h.lk.keep q3 t4, h.bl.trans (q3.below h.bl.size t3)⟩
theorem Aw.app (h : Aw w z e1 e2 T S hb c n f v m K wx) {x : Int} (ex : K m = x) (hm : m ≤ 300) :
    ∃ a q w', (Builtin.append_ #[37, 37] 37 #[v, .slice (some ⟨wx.heap.size, 0, none⟩) 1 1]).run Tryz.prog (wx.alloc (.cells #[.int .i64 x] 3)) = .ok (.slice a (m + 1) q) w' ∧ Aw w z e1 e2 T S hb c n f (.slice a (m + 1) q) (m + 1) K w' := by
  have b5 := b1 wx (.cells #[.int .i64 x] 3)
  have X5 : (wx.alloc (.cells #[.int .i64 x] 3)).cell? ⟨wx.heap.size, 0, none⟩ = some (.int .i64 (K m)) := by rw [ex]; simp [go_sem]
  have h5 := h.below b5
  have hz5 := h5.bl.size
  obtain ⟨g, q, w6, hr, l6, g6, at6, lt6⟩ := h5.lk.app X5 (by omega) hz5
  obtain ⟨No, A, b, a, t, s, t1, t2, t3, t4⟩ := h5.tw
  have f6 := t1.frame2 g6.os g6.tape g6.output g6.size (fun y hy hn => g6.block y hy (fun e => hn (t4 y e.symm)))
  refine ⟨some ⟨g, 0, none⟩, q, w6, hr, ⟨_, A, b, a, t, s, f6, t2, fun y hy => .inl (t3 y hy), fun y ey => ?_⟩, l6, h5.bl.trans ⟨g6.os, g6.tape, g6.output, g6.size, fun y hy => g6.block y (by omega) (fun e => ?_)⟩⟩
  · injection ey with ey
    subst ey
    rcases at6 with e | e
    · exact .inl (t4 g e)
    · exact .inr ⟨Nat.le_of_eq e.symm, lt6⟩
  · have := (h5.lk.own.lt y e.symm).1
    omega
theorem Aw.lit (h : Aw w z e1 e2 T S hb c n f v m K wx) : Aw w z e1 e2 T S hb c n f (.slice (some ⟨wx.heap.size, 0, none⟩) 0 0) 0 K (wx.alloc (.cells #[] 3)) := by
  have b5 := b1 wx (.cells #[] 3)
  have hz : (wx.alloc (.cells #[] 3)).heap.size = wx.heap.size + 1 := by simp
  obtain ⟨No, A, b, a, t, s, t1, t2, t3, t4⟩ := h.tw
  have t5 := t1.news b5
  refine ⟨⟨_, A, b, a, t, s, t5, t2, fun g q => .inl (t3 g q), fun q e => ?_⟩, ⟨?_⟩, bthen h.bl h.bl.size b5⟩
  · injection e with e
    subst e
    exact .inr ⟨Nat.le_refl _, by show wx.heap.size < _; omega⟩
  · exact World.ownsRow_lit (base := w.heap.size) (e := 3) (size := 1) wx #[] 0 h.bl.size (by unfold maxLen; omega) rfl
end
/-- What begin leaves. -/
theorem Aw.make {w0 wL w9 : World} {T S hb RT G : Nat} {t : TS} {s : H.St} {F : Nat → V} {k n : Nat} (k0 : Below w0.heap.size w0 wL) (b : Bz (fun g => g < wL.heap.size) w9 T S hb RT G 1000 t s t s) (k9 : Below wL.heap.size wL w9) (j : Bj F k t s) (hk : k ≤ 60) (en : nlast F k = (n : Int)) (z : ByteArray) (K : Nat → Int) : Aw w0 z nil nil T S hb 1000 n (rowF F) (.slice none 0 0) 0 K w9 := by
  obtain ⟨N1, _, ⟨A, b', a', t1⟩, _, _, hN⟩ := b.tt
  exact ⟨⟨N1, A, b', a', t, s, t1, j.mx t1.ti t1.iv hk en z, fun x hx => (hN x (Nat.lt_of_lt_of_le hx k0.size)).1, fun q e => by cases e⟩, Lkn.nil _ _ _, bthen k0 k0.size k9⟩
/-- A table's calls within others' blocks. -/
structure Ge (N : Nat → Prop) (Wk : World) (z : ByteArray) (e1 e2 : V) (T S hb c n : Nat) (f : Int → V) (W : World) : Prop where
  ex : ∃ (A b a : Nat) (t : TS) (s : H.St), TT N W T A b a S hb c t s ∧ Mx z e1 e2 n t s f
  kp : Keep N Wk W
theorem Ge.below {N : Nat → Prop} {Wk W W' : World} {z : ByteArray} {e1 e2 : V} {T S hb c n : Nat} {f : Int → V} (h : Ge N Wk z e1 e2 T S hb c n f W) (k : Below W.heap.size W W') : Ge N Wk z e1 e2 T S hb c n f W' := by
  obtain ⟨A, b, a, t, s, t1, t2⟩ := h.ex
  exact ⟨⟨A, b, a, t, s, t1.below k, t2⟩, h.kp.trans (Keep.of k)⟩
theorem Ge.get {N : Nat → Prop} {Wk W : World} {z : ByteArray} {e1 e2 : V} {T S hb c n : Nat} {f : Int → V} (h : Ge N Wk z e1 e2 T S hb c n f W) (hc : c ≤ 700000) (x u : V) (hx : Rng x) (hu : ∀ t s, Mx z e1 e2 n t s f → pget t.p x = u) :
    Calls Tryz.prog 9 #[.pointer (some ⟨T, 0, none⟩), .agg #[.int .i64 x.1, .int .i64 x.2.1, .string x.2.2]] W fun e w' => e = .returned (.agg #[.int .i64 u.1, .int .i64 u.2.1, .string u.2.2]) ∧ Ge N Wk z e1 e2 T S hb (c + 1) n f w' := by
  obtain ⟨A, b, a, t, s, t1, t2⟩ := h.ex
  have C := tget_any t1 (by omega) x hx
  rw [hu t s t2] at C
  refine C.mono fun e w' ⟨q1, q2, q3⟩ => ?_
  exact ⟨q1, ⟨⟨A, b, a, _, s, q2, hd_mx.pr _ _ _ _ t2⟩, h.kp.trans q3⟩⟩
end Go.Proofs.YtcaaaoehipcloaaGreat

/- SortingAsks: the walk of kind. -/
namespace Go.Proofs.YtcaaaoehipcloaaGreat
open Go.RowKit

set_option maxRecDepth 20000 in
set_option maxHeartbeats 2000000 in
theorem kind_any {w : World} {B : Nat} {a : Option Addr} {n q : Nat} {K : Nat → Int} (h : Lkn w B (.slice a n q) n K) (hn : n ≤ 60) (k : Int) (hk : ∃ j, j < n ∧ K j = k) :
    Calls Tryz.prog 12 #[.slice a n q, .int .i64 k] w fun e w' => e = .returned (.bool true) ∧ Below w.heap.size w w' := by
  have HH : Hid (Lkn w B (.slice a n q) n K) := h
  have HK : Hid (∃ j, j < n ∧ K j = k) := hk
  clear h hk
  go_enter Tryz.func12, Tryz.ntmps12
  go_wp2
  go_loopw [5] (fun iw wr => ∃ i : Nat, iw = .int .i64 (i : Nat) ∧ i ≤ n ∧ Hid (∀ j, j < i → K j ≠ k) ∧ Hid (Below w.heap.size w wr)) (fun iw _ => n - (intOf iw).toNat)
  case atStart => exact ⟨0, rfl, by omega, fun j hj => by omega, Below.refl _ _⟩
  case round =>
    obtain ⟨i, rfl, hi, HJ, HB⟩ := hrel
    have wi : IntKind.i64.wrap ((i : Int) + 1) = (i : Int) + 1 := by rw [IntKind.wrap_i64]; omega
    by_cases hlt : i < n
    · have h1 : (i : Int) < (n : Int) := by omega
      obtain ⟨g, c, e0, h2, h3⟩ := (HH.out.below HB.out).at hlt
      injection e0 with e1 e2 e3
      subst e1 e3
      by_cases hx : K i = k
      · have hb : (K i == k) = true := by simpa using hx
        have HE : Hid (Below w.heap.size w wr) := HB
        clear hx HJ HB HK HH
        go_wp2
        go_ret
        exact ⟨rfl, HE.out⟩
      · have HJ2 : Hid (∀ j, j < i + 1 → K j ≠ k) := fun j hj => by
          by_cases e : j = i
          · rw [e]; exact hx
          · exact HJ.out j (by omega)
        have hb : (K i == k) = false := by simpa using hx
        clear hx HJ
        go_wp2
        go_round
        case rel => exact ⟨i + 1, by first | rfl | simp, by omega, HJ2, HB⟩
        case measure => first | omega | (simp only [intOf]; omega) | (simp; omega)
    · exfalso
      obtain ⟨j, j1, j2⟩ := HK.out
      exact HJ.out j (by omega) j2
end Go.Proofs.YtcaaaoehipcloaaGreat

/- Lists that came in. -/
namespace Go.Proofs.YtcaaaoehipcloaaGreat
open Go.RowKit

/-- A list of values that came in. -/
structure Vin (w : World) (a : Option Addr) (L : Nat) (F : Nat → V) : Prop where
  at' : ∀ i, i < L → ∃ lb off, a = some ⟨lb, off, none⟩ ∧ lb < w.heap.size ∧ w.cell? ⟨lb, off + i * 3, none⟩ = some (.int .i64 (F i).1) ∧ w.cell? ⟨lb, off + i * 3 + 1, none⟩ = some (.int .i64 (F i).2.1) ∧ w.cell? ⟨lb, off + i * 3 + 2, none⟩ = some (.string (F i).2.2)
/-- A list of truths that came in. -/
structure Bin (w : World) (a : Option Addr) (L : Nat) (An : Nat → Bool) : Prop where
  at' : ∀ i, i < L → ∃ lb off, a = some ⟨lb, off, none⟩ ∧ lb < w.heap.size ∧ w.cell? ⟨lb, off + i, none⟩ = some (.bool (An i))
theorem Vin.below {w w' : World} {a : Option Addr} {L : Nat} {F : Nat → V} (h : Vin w a L F) (k : Below w.heap.size w w') : Vin w' a L F := ⟨fun i hi => by
  obtain ⟨lb, off, e, hl, c0, c1, c2⟩ := h.at' i hi
  exact ⟨lb, off, e, Nat.lt_of_lt_of_le hl k.size, by rw [k.cell (by exact hl)]; exact c0, by rw [k.cell (by exact hl)]; exact c1, by rw [k.cell (by exact hl)]; exact c2⟩⟩
theorem Bin.below {w w' : World} {a : Option Addr} {L : Nat} {An : Nat → Bool} (h : Bin w a L An) (k : Below w.heap.size w w') : Bin w' a L An := ⟨fun i hi => by
  obtain ⟨lb, off, e, hl, c0⟩ := h.at' i hi
  exact ⟨lb, off, e, Nat.lt_of_lt_of_le hl k.size, by rw [k.cell (by exact hl)]; exact c0⟩⟩
end Go.Proofs.YtcaaaoehipcloaaGreat
