/- The reference's part in memory, on: what its stores do. -/
import Derived.Test.YtbkgbojfjijalaaRf
namespace Go.Proofs.Ytbkgbojfjijalaa
open Go.RowKit

abbrev set3 (w : World) (b i : Nat) (x : V) : World := ((w.setCell ⟨b, i * 3, none⟩ (.int .i64 x.1)).setCell ⟨b, i * 3 + 1, none⟩ (.int .i64 x.2.1)).setCell ⟨b, i * 3 + 2, none⟩ (.string x.2.2)
theorem set3_keep (w : World) (b i : Nat) (x : V) : Keep (fun y => y ≠ b) w (set3 w b i x) :=
  (((Keep.refl _ _).set (p := ⟨b, _, none⟩) (fun q => q rfl) _).set (p := ⟨b, _, none⟩) (fun q => q rfl) _).set (p := ⟨b, _, none⟩) (fun q => q rfl) _
theorem Rv.set {w : World} {b z : Nat} {F : Nat → V} (h : Rv w b z F) {i : Nat} (hi : i < z) (x : V) : Rv (set3 w b i x) b z (upd F i x) := ⟨fun i2 hi2 j hj => by
  have c0 := h.c i hi 0 (by omega)
  have c1 := h.c i hi 1 (by omega)
  have c2 := h.c i hi 2 (by omega)
  by_cases e : i2 = i
  · subst e
    rw [upd_at]
    rcases lt3 hj with rfl | rfl | rfl
    · rw [World.cell?_setCell_other _ _ _ _ (fun q => by injection q with _ q2; omega), World.cell?_setCell_other _ _ _ _ (fun q => by injection q with _ q2; omega)]
      exact World.cell?_setCell_same _ _ _ c0
    · rw [World.cell?_setCell_other _ _ _ _ (fun q => by injection q with _ q2; omega)]
      exact World.cell?_setCell_same _ _ _ (by rw [World.cell?_setCell_other _ _ _ _ (fun q => by injection q with _ q2; omega)]; exact c1)
    · exact World.cell?_setCell_same _ _ _ (by rw [World.cell?_setCell_other _ _ _ _ (fun q => by injection q with _ q2; omega), World.cell?_setCell_other _ _ _ _ (fun q => by injection q with _ q2; omega)]; exact c2)
  · rw [upd_ne _ _ e, World.cell?_setCell_other _ _ _ _ (fun q => by injection q with _ q2; omega), World.cell?_setCell_other _ _ _ _ (fun q => by injection q with _ q2; omega), World.cell?_setCell_other _ _ _ _ (fun q => by injection q with _ q2; omega)]
    exact h.c i2 hi2 j hj⟩
theorem set3_frozen (w : World) (b i : Nat) (x : V) (p : Addr) : (set3 w b i x).frozen? p = w.frozen? p := by simp
variable {w w' : World} {S ka va ca z : Nat} {g : G} {cb : Nat → Nat}

theorem Rp.setX (h : Rp w S ka va ca z g cb) {i : Nat} (hi : i < z) (x : V) : Rp (set3 w va i x) S ka va ca z { g with X := upd g.X i x } cb := by
  have hk := set3_keep w va i x
  have hv := h.v.set hi x
  have hfz := set3_frozen w va i x
  generalize set3 w va i x = w' at *
  have bS := hk.block S h.lt.1 (fun e => h.ne.2.2.2.2.1 e)
  have bk := hk.block ka h.lt.2.1 (fun e => h.ne.1 e)
  have bc := hk.block ca h.lt.2.2.2 (fun e => h.ne.2.2.1 e.symm)
  have hs := hk.size
  refine ⟨by rw [World.cell?_of_block (w := w) bS]; exact h.s0, by rw [World.cell?_of_block (w := w) bS]; exact h.s1, by rw [World.cell?_of_block (w := w) bS]; exact h.s2, by rw [World.cell?_of_block (w := w) bS]; exact h.s3, h.k.block bk, hv, fun m hm => ?_,
    fun j => by rw [hfz]; exact h.fS j, fun j => by rw [hfz]; exact h.fk j, fun j => by rw [hfz]; exact h.fv j, fun j => by rw [hfz]; exact h.fc j, h.ne, h.nb, h.inj, by have := h.lt; omega⟩
  obtain ⟨u, h1, h2⟩ := h.c m hm
  refine ⟨u, by rw [World.cell?_of_block (w := w) bc]; exact h1, ?_⟩
  by_cases he : g.C m = []
  · rcases h2 with q | ⟨cap, q0, _⟩
    · exact .inl q
    · exact absurd he q0
  · exact h2.block hs (fun hlt => hk.block _ hlt (h.nb m hm he).2.2.1)
theorem Rp.setK (h : Rp w S ka va ca z g cb) {i : Nat} (hi : i < z) (x : V) : Rp (set3 w ka i x) S ka va ca z { g with K := upd g.K i x } cb := by
  have hk := set3_keep w ka i x
  have hv := h.k.set hi x
  have hfz := set3_frozen w ka i x
  generalize set3 w ka i x = w' at *
  have bS := hk.block S h.lt.1 (fun e => h.ne.2.2.2.1 e)
  have bv := hk.block va h.lt.2.2.1 (fun e => h.ne.1 e.symm)
  have bc := hk.block ca h.lt.2.2.2 (fun e => h.ne.2.1 e.symm)
  have hs := hk.size
  refine ⟨by rw [World.cell?_of_block (w := w) bS]; exact h.s0, by rw [World.cell?_of_block (w := w) bS]; exact h.s1, by rw [World.cell?_of_block (w := w) bS]; exact h.s2, by rw [World.cell?_of_block (w := w) bS]; exact h.s3, hv, h.v.block bv, fun m hm => ?_,
    fun j => by rw [hfz]; exact h.fS j, fun j => by rw [hfz]; exact h.fk j, fun j => by rw [hfz]; exact h.fv j, fun j => by rw [hfz]; exact h.fc j, h.ne, h.nb, h.inj, by have := h.lt; omega⟩
  obtain ⟨u, h1, h2⟩ := h.c m hm
  refine ⟨u, by rw [World.cell?_of_block (w := w) bc]; exact h1, ?_⟩
  by_cases he : g.C m = []
  · rcases h2 with q | ⟨cap, q0, _⟩
    · exact .inl q
    · exact absurd he q0
  · exact h2.block hs (fun hlt => hk.block _ hlt (h.nb m hm he).2.1)
theorem Rp.setF (h : Rp w S ka va ca z g cb) (f : Nat) : Rp (w.setCell ⟨S, 3, none⟩ (.int .i64 (f : Nat))) S ka va ca z { g with f := f } cb := by
  have hk : Keep (fun y => y ≠ S) w (w.setCell ⟨S, 3, none⟩ (.int .i64 (f : Nat))) := (Keep.refl _ _).set (p := ⟨S, 3, none⟩) (fun q => q rfl) _
  have bk := hk.block ka h.lt.2.1 (fun e => h.ne.2.2.2.1 e.symm)
  have bv := hk.block va h.lt.2.2.1 (fun e => h.ne.2.2.2.2.1 e.symm)
  have bc := hk.block ca h.lt.2.2.2 (fun e => h.ne.2.2.2.2.2 e.symm)
  have hs := hk.size
  refine ⟨by rw [World.cell?_setCell_other _ _ _ _ (fun q => by injection q with _ q2; omega)]; exact h.s0, by rw [World.cell?_setCell_other _ _ _ _ (fun q => by injection q with _ q2; omega)]; exact h.s1, by rw [World.cell?_setCell_other _ _ _ _ (fun q => by injection q with _ q2; omega)]; exact h.s2, World.cell?_setCell_same _ _ _ h.s3, h.k.block bk, h.v.block bv, fun m hm => ?_,
    fun j => by simpa using h.fS j, fun j => by simpa using h.fk j, fun j => by simpa using h.fv j, fun j => by simpa using h.fc j, h.ne, h.nb, h.inj, by have := h.lt; omega⟩
  obtain ⟨u, h1, h2⟩ := h.c m hm
  refine ⟨u, by rw [World.cell?_of_block (w := w) bc]; exact h1, ?_⟩
  by_cases he : g.C m = []
  · rcases h2 with q | ⟨cap, q0, _⟩
    · exact .inl q
    · exact absurd he q0
  · exact h2.block hs (fun hlt => hk.block _ hlt (h.nb m hm he).1)
/-- A new chain at m, in a block of its own. -/
theorem Rp.setC (h : Rp w S ka va ca z g cb) {m b cap : Nat} {l : List Nat} (hm : m < z) (hr : Rl w (.slice (some ⟨b, 0, none⟩) l.length cap) b l) (hn : b ≠ S ∧ b ≠ ka ∧ b ≠ va ∧ b ≠ ca) (hnc : ∀ m', m' < z → m' ≠ m → g.C m' ≠ [] → cb m' ≠ b) :
    Rp (w.setCell ⟨ca, m, none⟩ (.slice (some ⟨b, 0, none⟩) l.length cap)) S ka va ca z { g with C := upd g.C m l } (upd cb m b) := by
  have hk : Keep (fun y => y ≠ ca) w (w.setCell ⟨ca, m, none⟩ (.slice (some ⟨b, 0, none⟩) l.length cap)) := (Keep.refl _ _).set (p := ⟨ca, m, none⟩) (fun q => q rfl) _
  have bS := hk.block S h.lt.1 (fun e => h.ne.2.2.2.2.2 e)
  have bk := hk.block ka h.lt.2.1 (fun e => h.ne.2.1 e)
  have bv := hk.block va h.lt.2.2.1 (fun e => h.ne.2.2.1 e)
  have hs := hk.size
  refine ⟨by rw [World.cell?_of_block (w := w) bS]; exact h.s0, by rw [World.cell?_of_block (w := w) bS]; exact h.s1, by rw [World.cell?_of_block (w := w) bS]; exact h.s2, by rw [World.cell?_of_block (w := w) bS]; exact h.s3, h.k.block bk, h.v.block bv, fun m2 hm2 => ?_,
    fun j => by simpa using h.fS j, fun j => by simpa using h.fk j, fun j => by simpa using h.fv j, fun j => by simpa using h.fc j, h.ne, fun m2 hm2 he => ?_, fun m1 m2 h1 h2 e1 e2 e => ?_, by have := h.lt; omega⟩
  · obtain ⟨u, h1, h2⟩ := h.c m2 hm2
    by_cases e : m2 = m
    · subst e
      refine ⟨_, World.cell?_setCell_same _ _ _ h1, ?_⟩
      simp only [upd_at]
      exact hr.block hs (fun hlt => hk.block _ hlt hn.2.2.2)
    · refine ⟨u, by rw [World.cell?_setCell_other _ _ _ _ (fun q => by injection q with _ q2; omega)]; exact h1, ?_⟩
      simp only [upd_ne _ _ e]
      by_cases he : g.C m2 = []
      · rcases h2 with q | ⟨cap, q0, _⟩
        · exact .inl q
        · exact absurd he q0
      · exact h2.block hs (fun hlt => hk.block _ hlt (h.nb m2 hm2 he).2.2.2)
  · by_cases e : m2 = m
    · rw [e, upd_at]; exact hn
    · simp only [upd_ne _ _ e] at he ⊢; exact h.nb m2 hm2 he
  · by_cases q1 : m1 = m <;> by_cases q2 : m2 = m
    · omega
    · simp only [q1, upd_at, upd_ne _ _ q2] at e e2; exact absurd e.symm (hnc m2 h2 q2 e2)
    · simp only [q2, upd_at, upd_ne _ _ q1] at e e1; exact absurd e (hnc m1 h1 q1 e1)
    · simp only [upd_ne _ _ q1, upd_ne _ _ q2] at e e1 e2; exact h.inj m1 m2 h1 h2 e1 e2 e
/-- One number of a chain. -/
theorem Rp.setN (h : Rp w S ka va ca z g cb) {o t x : Nat} (ho : o < z) (ht : t < (g.C o).length) : Rp (w.setCell ⟨cb o, t, none⟩ (.int .i64 (x : Nat))) S ka va ca z { g with C := upd g.C o ((g.C o).set t x) } cb := by
  have hne : g.C o ≠ [] := fun e => by rw [e] at ht; simp at ht
  have hnb := h.nb o ho hne
  have hk : Keep (fun y => y ≠ cb o) w (w.setCell ⟨cb o, t, none⟩ (.int .i64 (x : Nat))) := (Keep.refl _ _).set (p := ⟨cb o, t, none⟩) (fun q => q rfl) _
  have bS := hk.block S h.lt.1 (fun e => hnb.1 e.symm)
  have bk := hk.block ka h.lt.2.1 (fun e => hnb.2.1 e.symm)
  have bv := hk.block va h.lt.2.2.1 (fun e => hnb.2.2.1 e.symm)
  have bc := hk.block ca h.lt.2.2.2 (fun e => hnb.2.2.2 e.symm)
  have hs := hk.size
  have hnz : ∀ m2, upd g.C o ((g.C o).set t x) m2 ≠ [] ↔ g.C m2 ≠ [] := fun m2 => by
    by_cases e : m2 = o
    · rw [e, upd_at]; simp
    · rw [upd_ne _ _ e]
  refine ⟨by rw [World.cell?_of_block (w := w) bS]; exact h.s0, by rw [World.cell?_of_block (w := w) bS]; exact h.s1, by rw [World.cell?_of_block (w := w) bS]; exact h.s2, by rw [World.cell?_of_block (w := w) bS]; exact h.s3, h.k.block bk, h.v.block bv, fun m2 hm2 => ?_,
    fun j => by simpa using h.fS j, fun j => by simpa using h.fk j, fun j => by simpa using h.fv j, fun j => by simpa using h.fc j, h.ne, fun m2 hm2 he => h.nb m2 hm2 ((hnz m2).1 he), fun m1 m2 h1 h2 e1 e2 e => h.inj m1 m2 h1 h2 ((hnz m1).1 e1) ((hnz m2).1 e2) e, by have := h.lt; omega⟩
  obtain ⟨u, h1, h2⟩ := h.c m2 hm2
  refine ⟨u, by rw [World.cell?_of_block (w := w) bc]; exact h1, ?_⟩
  by_cases e : m2 = o
  · subst e
    simp only [upd_at]
    rcases h2 with ⟨q, _⟩ | ⟨cap, q0, q1, q2, q3, q4⟩
    · exact absurd q hne
    · refine .inr ⟨cap, by simpa using q0, by rw [List.length_set]; exact q1, by omega, fun j => by simpa using q3 j, fun t2 ht2 => ?_⟩
      rw [List.length_set] at ht2
      by_cases e2 : t2 = t
      · subst e2
        rw [World.cell?_setCell_same _ _ _ (q4 t2 ht2)]
        simp [List.getD, ht2]
      · rw [World.cell?_setCell_other _ _ _ _ (fun q => by injection q with _ q2; omega), q4 t2 ht2]
        unfold List.getD
        rw [List.getElem?_set_ne (fun q => e2 q.symm)]
  · simp only [upd_ne _ _ e]
    by_cases he : g.C m2 = []
    · rcases h2 with q | ⟨cap, q0, _⟩
      · exact .inl q
      · exact absurd he q0
    · exact h2.block hs (fun hlt => hk.block _ hlt (fun q => e (h.inj m2 o hm2 ho he hne q)))
end Go.Proofs.Ytbkgbojfjijalaa
