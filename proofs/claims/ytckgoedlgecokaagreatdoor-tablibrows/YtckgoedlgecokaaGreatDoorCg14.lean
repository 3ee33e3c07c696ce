/- The walks of Probes, Places, Place and Get. -/
import Derived.Test.YtckgoedlgecokaaGreatDoorCg13
namespace Go.Proofs.YtckgoedlgecokaaGreatDoor
open Go.RowKit

abbrev tp (T : Nat) : Value := .pointer (some ⟨T, 0, none⟩)
abbrev sv (x y u v : Int) : Value := .agg #[.int .i64 x, .int .i64 y, .int .i64 u, .int .i64 v]
abbrev ts (t : TS) : Value := sv (t.p.n : Nat) (t.p.z : Nat) (t.p.g.f : Nat) t.hint
set_option maxRecDepth 20000 in
set_option maxHeartbeats 2000000 in
theorem stats_any {w : World} {T A b a S : Nat} {t : TS} (h : Tm w T A b a S t) : Calls Tryz.prog 44 #[tp T] w fun e w' => e = .returned (ts t) ∧ Below w.heap.size w w' := by
  have R := R4.made w (.int .i64 0) (.int .i64 0) (.int .i64 0) (.int .i64 0) 94
  have B0 := b1 w (.cells #[.int .i64 0, .int .i64 0, .int .i64 0, .int .i64 0] 94)
  obtain ⟨W0, hW0⟩ : ∃ W0, w.alloc (.cells #[.int .i64 0, .int .i64 0, .int .i64 0, .int .i64 0] 94) = W0 := ⟨_, rfl⟩
  rw [hW0] at R B0
  have h0 := h.below B0
  have c1 : W0.cell? ⟨T, 1, none⟩ = some (.slice (some ⟨A, 0, none⟩) t.p.n t.p.n) := h0.pm.c0
  have c2 : W0.cell? ⟨T, 2, none⟩ = some (.pointer (some ⟨b, 0, none⟩)) := h0.pm.c1
  have c5 := h0.c5
  have CS : ∀ m, Calls Tryz.prog 61 #[pp b] (W0.drewN m) fun e w' => e = .returned (.int .i64 (t.p.z : Nat)) ∧ w' = W0.drewN m := fun m => size_any _ (h0.pm.pt.below (bdrew _ _ m))
  have CF : ∀ m, Calls Tryz.prog 62 #[pp b] (W0.drewN m) fun e w' => e = .returned (.int .i64 (t.p.g.f : Nat)) ∧ w' = W0.drewN m := fun m => free_any _ (h0.pm.pt.below (bdrew _ _ m))
  have HR : Hid (R4 W0 w.heap.size (.int .i64 0) (.int .i64 0) (.int .i64 0) (.int .i64 0)) := R
  have HB : Hid (Below w.heap.size w W0) := B0
  unfold pp at CS CF
  unfold ts sv tp
  generalize t.hint = hh at *
  generalize t.p.g.f = ff at *
  generalize t.p.n = nn at *
  generalize t.p.z = zz at *
  have r0 := R.c0
  have r1 := R.c1
  have r2 := R.c2
  have r3 := R.c3
  have rf := R.fz
  generalize hsz : w.heap.size = N at *
  have HSZ : Hid (w.heap.size = N) := hsz
  have R2 : Hid _ := R.set (.int .i64 (nn : Nat)) (.int .i64 (zz : Nat)) (.int .i64 (ff : Nat)) (.int .i64 hh)
  have K2 : Hid _ := Keep.set4 (Keep.of (No := fun g => g < N) (HSZ.out.symm ▸ HB.out)) (N := N) (Nat.lt_irrefl _) (.int .i64 (nn : Nat)) (.int .i64 (zz : Nat)) (.int .i64 (ff : Nat)) (.int .i64 hh)
  obtain ⟨W1, hW1⟩ : ∃ W1, set4 W0 N (.int .i64 (nn : Nat)) (.int .i64 (zz : Nat)) (.int .i64 (ff : Nat)) (.int .i64 hh) = W1 := ⟨_, rfl⟩
  rw [hW1] at R2 K2
  unfold set4 at hW1
  clear h h0 B0 R
  go_enter Tryz.func44, Tryz.ntmps44
  go_wp2_with fail
  refine wp_tail 23 (by kernel_rfl) (by kernel_rfl) ?_
  simp only [List.take_succ_cons, List.take_zero, List.drop_succ_cons, List.drop_zero]
  repeat (first | still_step | still_call (CS 1) | still_call (CF 1))
  refine wpStill_nil ?_
  go_wp2_with fail
  have R3 := R2.out
  have t0 := R3.c0
  have t1 := R3.c1
  have t2 := R3.c2
  have t3 := R3.c3
  clear R3
  refine bodyPost_ret (v := .agg #[.int .i64 (nn : Nat), .int .i64 (zz : Nat), .int .i64 (ff : Nat), .int .i64 hh]) (by simp [results, Tryz.results44, go_sem, t0, t1, t2, t3]) rfl ⟨rfl, ?_⟩
  exact (K2.out.below (by have := HSZ.out; omega) (fun g hg => hg)).trans (bdrew _ _ 1)
theorem stats_nil (w : World) : Calls Tryz.prog 44 #[.pointer none] w fun e w' => e = .returned (sv 0 0 0 0) ∧ Below w.heap.size w w' := by
  have HB : Hid _ := b1 w (.cells #[.int .i64 0, .int .i64 0, .int .i64 0, .int .i64 0] 94)
  unfold sv
  go_enter Tryz.func44, Tryz.ntmps44
  go_wp2
  refine bodyPost_ret (v := .agg #[.int .i64 0, .int .i64 0, .int .i64 0, .int .i64 0]) (by simp [results, Tryz.results44, go_sem]) rfl ⟨rfl, ?_⟩
  first | exact HB.out | (simp; exact HB.out)

/-- The key's place. -/
def plc (p : Pa) (k : V) : Int := if inA p.n k then k.2.1 else match (fnd p.z p.g k).1 with
  | none => 0
  | some i => (p.n : Int) + 1 + i
end Go.Proofs.YtckgoedlgecokaaGreatDoor

/- The pure part of a table, on: a Set is a map's. -/
namespace Go.Proofs.YtckgoedlgecokaaGreatDoor
open Go.RowKit

theorem tset_map {t : TS} {s : H.St} {k v : V} (h : TI t.p) (hr : Rng k) :
    ((tset t s k v).2.2 = 0 → KOK k ∧ fm v = true ∧ pget (tset t s k v).1.p k = v ∧ ∀ k', KOK k' → k' ≠ k → pget (tset t s k v).1.p k' = pget t.p k') ∧
    ((tset t s k v).2.2 ≠ 0 → ∀ k', pget (tset t s k v).1.p k' = pget t.p k') := by
  unfold tset
  by_cases hf : fm k = true ∧ fm v = true
  · rw [if_neg (fun q => q hf)]
    by_cases hk0 : k.1 = 0
    · rw [if_pos hk0]
      exact ⟨fun q => absurd (show (9 : Int) = 0 from q) (by decide), fun _ _ => rfl⟩
    · rw [if_neg hk0]
      have hk : KOK k := ⟨hf.1, hk0, hr.1, hr.2⟩
      by_cases he : (pset t.p k v).2.2 = 12
      · rw [if_neg (fun q => q he)]
        obtain ⟨hA, hv, hv0, hnew, hfull, hg, hp, ha⟩ := h.full hk he
        have hb : ∀ k', pget (pset t.p k v).1 k' = pget t.p k' := pset_bad (by rw [he]; decide)
        have h1 : TI (pset t.p k v).1 := h.set hr hv
        have ep : (one t k v).p = (pset t.p k v).1 := rfl
        have hA1 : ¬ inA (pset t.p k v).1.n k := by rw [(pset_nz t.p k v).1]; exact hA
        have hnew1 : ∀ i, i < (pset t.p k v).1.z → (pset t.p k v).1.g.K i ≠ k := fun i hi e => by
          have hz := (pset_nz t.p k v).2
          rw [hz] at hi
          have e1 : pset t.p k v = ({ t.p with g := (put t.p.z t.p.g k v).1 }, (put t.p.z t.p.g k v).2.1, (put t.p.z t.p.g k v).2.2) := by unfold pset; rw [if_neg hA]
          have he' : (put t.p.z t.p.g k v).2.2 = 12 := by rw [e1] at he; exact he
          have e2 := (put_12 h.inv h.rt hk he').2.2.2.2.1
          rw [e1] at e
          have e3 : (put t.p.z t.p.g k v).1.K i = k := e
          rw [e2] at e3
          exact hnew i hi e3
        generalize one t k v = u at *
        by_cases hR : (reh u s k).2.2 = 0
        · rw [if_neg (fun q => q hR)]
          have e0 : rsE u.p k = 0 := by
            unfold reh at hR
            by_cases q : rsE u.p k = 0
            · exact q
            · rw [if_pos q] at hR; exact absurd hR q
          have e1 : (reh u s k).1.p = fill u.p (fresh (rsA u.p k) (rsZ u.p k)) := by
            unfold reh at hR ⊢
            rw [if_neg (fun q => q e0)] at hR ⊢
            by_cases q : tpE s (rsA u.p k) (rsZ u.p k) = 0
            · rw [if_neg (fun x => x q)]
            · rw [if_pos q] at hR; exact absurd hR q
          rw [← ep] at ha h1 hA1 hnew1 hb
          obtain ⟨_, i1, i2, i3, i4, i5⟩ := h1.behind hk hv hv0 hA1 hnew1 ha e0
          rw [e1]
          obtain ⟨m1, m2⟩ := i1.map hk i5
          exact ⟨fun _ => ⟨hk, hv, m1, fun k' hk' hne => (m2 k' hk' hne).trans ((i4 k' hk').trans (hb k'))⟩, fun q => absurd i5 q⟩
        · rw [if_pos hR]
          refine ⟨fun q => absurd q hR, fun _ k' => ?_⟩
          have e1 : (reh u s k).1 = u := by
            unfold reh at hR ⊢
            by_cases q : rsE u.p k = 0
            · rw [if_neg (fun x => x q)] at hR ⊢
              by_cases q2 : tpE s (rsA u.p k) (rsZ u.p k) = 0
              · rw [if_neg (fun x => x q2)] at hR; exact absurd rfl hR
              · rw [if_pos q2]
            · rw [if_pos q]
          rw [e1, ep]
          exact hb k'
      · rw [if_pos he]
        refine ⟨fun q => ?_, fun q k' => pset_bad q k'⟩
        obtain ⟨m1, m2⟩ := h.map hk q
        exact ⟨hk, hf.2, m1, m2⟩
  · rw [if_pos hf]
    exact ⟨fun q => absurd (show (2 : Int) = 0 from q) (by decide), fun _ _ => rfl⟩
end Go.Proofs.YtckgoedlgecokaaGreatDoor

/- The pure part of a heap, on: which block is whose; what a table holds of it. -/
namespace Go.Proofs.YtckgoedlgecokaaGreatDoor
open Go.RowKit

/-- The block id is taken and has n cells; or there is none, for no cells. -/
def Blk (s : H.St) (id n : Int) : Prop := (n = 0 ∧ id = 0) ∨ (1 ≤ n ∧ ∃ k : Nat, id = (k : Int) + 1 ∧ s.bl[k]? = some (n, true))
theorem setT_at {l : List (Int × Bool)} {k : Nat} {n : Int} {b : Bool} (h : l[k]? = some (n, b)) (t : Bool) (j : Nat) : (H.setT l k t)[j]? = if j = k then some (n, t) else l[j]? := by
  have hk : k < l.length := (List.getElem?_eq_some_iff.1 h).1
  have e : l.getD k (0, false) = (n, b) := by rw [List.getD, h]; rfl
  unfold H.setT
  rw [e, List.getElem?_set]
  by_cases q : k = j
  · rw [if_pos q, if_pos hk, if_pos q.symm]
  · rw [if_neg q, if_neg (fun e => q e.symm)]
theorem blk_take {sp : Int} {s : H.St} {n : Int} (h : H.Inv sp s) (he : H.takeE s n = 0) :
    Blk (H.takeSt s n) (H.takeId s n) n ∧ (H.takeSt s n).live = s.live + n ∧ (H.takeSt s n).lim = s.lim ∧ ∀ id m, Blk s id m → Blk (H.takeSt s n) id m ∧ (id = H.takeId s n → id = 0) := by
  have h0 : ¬ n < 0 := fun q => by unfold H.takeE at he; rw [if_pos q] at he; cases he
  have h1 : ¬ s.lim - s.live < n := fun q => by unfold H.takeE at he; rw [if_neg h0, if_pos q] at he; cases he
  by_cases hz : n = 0
  · have e1 : H.takeSt s n = s := by unfold H.takeSt; rw [if_neg h0, if_neg h1, if_pos hz]
    have e2 : H.takeId s n = 0 := by unfold H.takeId; rw [if_neg h0, if_neg h1, if_pos hz]
    rw [e1, e2]
    exact ⟨.inl ⟨hz, rfl⟩, by omega, rfl, fun id m q => ⟨q, fun e => e⟩⟩
  · rcases List.eq_nil_or_concat (s.R n) with hR | ⟨zs, x, hR⟩
    · obtain ⟨e1, e2, _⟩ := H.take_new (s := s) (n := n) (by omega) (by omega) hR
      rw [e1, e2]
      refine ⟨.inr ⟨by omega, s.bl.length, rfl, by simp⟩, rfl, rfl, fun id m q => ?_⟩
      rcases q with ⟨q1, q2⟩ | ⟨q1, k, q2, q3⟩
      · exact ⟨.inl ⟨q1, q2⟩, fun e => by omega⟩
      · have hk : k < s.bl.length := (List.getElem?_eq_some_iff.1 q3).1
        exact ⟨.inr ⟨q1, k, q2, by show (s.bl ++ [(n, true)])[k]? = _; rw [List.getElem?_append_left hk]; exact q3⟩, fun e => by omega⟩
    · rw [List.concat_eq_append] at hR
      obtain ⟨k, rfl, hk, hb⟩ := h.ids n x (by rw [hR]; simp)
      obtain ⟨e1, e2, _⟩ := H.take_old (s := s) (n := n) (by omega) (by omega) hR
      have hb' : s.bl[k]? = some (n, false) := by rw [List.getElem?_eq_getElem hk, hb]
      rw [e1, e2]
      refine ⟨.inr ⟨by omega, k, rfl, by show (H.setT s.bl k true)[k]? = _; rw [setT_at hb', if_pos rfl]⟩, rfl, rfl, fun id m q => ?_⟩
      rcases q with ⟨q1, q2⟩ | ⟨q1, k', q2, q3⟩
      · exact ⟨.inl ⟨q1, q2⟩, fun e => by omega⟩
      · have hne : k' ≠ k := fun e => by rw [e, hb'] at q3; cases q3
        exact ⟨.inr ⟨q1, k', q2, by show (H.setT s.bl k true)[k']? = _; rw [setT_at hb', if_neg hne]; exact q3⟩, fun e => by omega⟩
theorem blk_give {s : H.St} {id n : Int} (h : Blk s id n) : (H.giveSt s id).live = s.live - n ∧ (H.giveSt s id).lim = s.lim ∧ ∀ id' m, Blk s id' m → (id' = id → id' = 0) → Blk (H.giveSt s id) id' m := by
  rcases h with ⟨rfl, rfl⟩ | ⟨h1, k, rfl, hb⟩
  · rw [(H.give_zero s).2]
    exact ⟨by omega, rfl, fun _ _ q _ => q⟩
  · have hk : k < s.bl.length := (List.getElem?_eq_some_iff.1 hb).1
    have hb2 : s.bl[k]'hk = (n, true) := (List.getElem?_eq_some_iff.1 hb).2
    rw [(H.give_at hk (by rw [hb2])).2]
    refine ⟨by show s.live - (s.bl[k]'hk).1 = _; rw [hb2], rfl, fun id' m q hne => ?_⟩
    rcases q with q | ⟨q1, k', q2, q3⟩
    · exact .inl q
    · have hne' : k' ≠ k := fun e => by have := hne (by omega); omega
      exact .inr ⟨q1, k', q2, by show (H.setT s.bl k false)[k']? = _; rw [setT_at hb, if_neg hne']; exact q3⟩

theorem flA_nz (old : Pa) (s : Nat) (p : Pa) (m : Nat) : (flA old s p m).n = p.n ∧ (flA old s p m).z = p.z := by
  induction m with
  | zero => exact ⟨rfl, rfl⟩
  | succ m ih => rw [flA, (stp_nz _ _ _).1, (stp_nz _ _ _).2]; exact ih
theorem flH_nz (old p : Pa) (m : Nat) : (flH old p m).n = p.n ∧ (flH old p m).z = p.z := by
  induction m with
  | zero => exact ⟨rfl, rfl⟩
  | succ m ih => rw [flH, (stp_nz _ _ _).1, (stp_nz _ _ _).2]; exact ih
theorem fill_nz (old p : Pa) : (fill old p).n = p.n ∧ (fill old p).z = p.z := by
  unfold fill
  rw [(flH_nz _ _ _).1, (flH_nz _ _ _).2, (flA_nz _ _ _ _).1, (flA_nz _ _ _ _).2]
  exact ⟨rfl, rfl⟩

/-- What a table holds of the heap s: its two parts' blocks, and L cells beside them are taken. -/
structure TB (t : TS) (s : H.St) (L : Int) : Prop where
  b1 : Blk s t.sb (t.p.n : Nat)
  b2 : Blk s t.nb (3 * (t.p.z : Nat))
  ne : t.sb = t.nb → t.sb = 0
  live : s.live = L + (t.p.n : Nat) + 3 * (t.p.z : Nat)
theorem tp_cases (s : H.St) (A Z : Int) : (H.takeE s A ≠ 0 ∧ tpE s A Z = H.takeE s A ∧ tpS s A Z = s) ∨
    (H.takeE s A = 0 ∧ H.takeE (H.takeSt s A) (3 * Z) ≠ 0 ∧ tpE s A Z = H.takeE (H.takeSt s A) (3 * Z) ∧ tpS s A Z = H.giveSt (H.takeSt s A) (H.takeId s A)) ∨
    (H.takeE s A = 0 ∧ H.takeE (H.takeSt s A) (3 * Z) = 0 ∧ tpE s A Z = 0 ∧ tpS s A Z = H.takeSt (H.takeSt s A) (3 * Z)) := by
  unfold tpE tpS
  by_cases h : H.takeE s A = 0
  · right
    rw [if_neg (fun q => q h), if_neg (fun q => q h)]
    by_cases h2 : H.takeE (H.takeSt s A) (3 * Z) = 0
    · right; rw [if_neg (fun q => q h2)]; exact ⟨h, h2, h2, rfl⟩
    · left; rw [if_pos h2]; exact ⟨h, h2, rfl, rfl⟩
  · left; rw [if_pos h, if_pos h]; exact ⟨h, rfl, rfl⟩
theorem TB.reh {t : TS} {s : H.St} {L : Int} (h : TB t s L) (iv : H.Inv 0 s) (k : V) : TB (Proofs.YtckgoedlgecokaaGreatDoor.reh t s k).1 (Proofs.YtckgoedlgecokaaGreatDoor.reh t s k).2.1 L ∧ (Proofs.YtckgoedlgecokaaGreatDoor.reh t s k).2.1.lim = s.lim := by
  unfold Proofs.YtckgoedlgecokaaGreatDoor.reh
  by_cases he : rsE t.p k = 0
  · rw [if_neg (fun q => q he)]
    generalize rsA t.p k = A
    generalize rsZ t.p k = Z
    rcases tp_cases s (A : Nat) (Z : Nat) with ⟨q1, q2, q3⟩ | ⟨q1, q2, q3, q4⟩ | ⟨q1, q2, q3, q4⟩
    · rw [if_pos (by rw [q2]; exact q1), q3]
      exact ⟨h, rfl⟩
    · rw [if_pos (by rw [q3]; exact q2), q4]
      obtain ⟨a1, a2, a3, a4⟩ := blk_take iv q1
      obtain ⟨g1, g2, g3⟩ := blk_give a1
      have k1 := a4 _ _ h.b1
      have k2 := a4 _ _ h.b2
      exact ⟨⟨g3 _ _ k1.1 k1.2, g3 _ _ k2.1 k2.2, h.ne, by show (H.giveSt (H.takeSt s (A : Nat)) (H.takeId s (A : Nat))).live = L + (t.p.n : Nat) + 3 * (t.p.z : Nat); rw [g1, a2, h.live]; omega⟩, by show (H.giveSt (H.takeSt s (A : Nat)) (H.takeId s (A : Nat))).lim = s.lim; rw [g2, a3]⟩
    · rw [if_neg (fun q => q q3), q4]
      obtain ⟨a1, a2, a3, a4⟩ := blk_take iv q1
      obtain ⟨c1, c2, c3, c4⟩ := blk_take (iv.take _) q2
      have k1 := a4 _ _ h.b1
      have k2 := a4 _ _ h.b2
      have m1 := c4 _ _ k1.1
      have m2 := c4 _ _ k2.1
      have m3 := c4 _ _ a1
      obtain ⟨g1, g2, g3⟩ := blk_give m1.1
      have n2 := g3 _ _ m2.1 (fun e => by have := h.ne e.symm; omega)
      have n3 := g3 _ _ m3.1 (fun e => by have := k1.2 e.symm; omega)
      have n4 := g3 _ _ c1 (fun e => by have := m1.2 e.symm; omega)
      obtain ⟨f1, f2, f3⟩ := blk_give n2
      have p3 := f3 _ _ n3 (fun e => by have := k2.2 e.symm; omega)
      have p4 := f3 _ _ n4 (fun e => by have := m2.2 e.symm; omega)
      obtain ⟨z1, z2⟩ := fill_nz t.p (fresh A Z)
      have z1' : (fill t.p (fresh A Z)).n = A := z1
      have z2' : (fill t.p (fresh A Z)).z = Z := z2
      refine ⟨⟨?_, ?_, fun e => m3.2 e, ?_⟩, by rw [f2, g2, c3, a3]⟩
      · show Blk _ _ ((fill t.p (fresh A Z)).n : Nat); rw [z1']; exact p3
      · show Blk _ _ (3 * ((fill t.p (fresh A Z)).z : Nat)); rw [z2']; exact p4
      · show _ = L + ((fill t.p (fresh A Z)).n : Nat) + 3 * ((fill t.p (fresh A Z)).z : Nat)
        rw [z1', z2', f1, g1, c2, a2, h.live]; omega
  · rw [if_pos he]; exact ⟨h, rfl⟩
theorem TB.one {t : TS} {s : H.St} {L : Int} (h : TB t s L) (k v : V) (x : Int) : TB { t with p := (pset t.p k v).1, pr := x } s L := by
  obtain ⟨z1, z2⟩ := pset_nz t.p k v
  exact ⟨by show Blk s t.sb ((pset t.p k v).1.n : Nat); rw [z1]; exact h.b1, by show Blk s t.nb (3 * ((pset t.p k v).1.z : Nat)); rw [z2]; exact h.b2, h.ne, by show _ = L + ((pset t.p k v).1.n : Nat) + 3 * ((pset t.p k v).1.z : Nat); rw [z1, z2]; exact h.live⟩
theorem TB.set {t : TS} {s : H.St} {L : Int} (h : TB t s L) (iv : H.Inv 0 s) (k v : V) : TB (tset t s k v).1 (tset t s k v).2.1 L ∧ (tset t s k v).2.1.lim = s.lim := by
  unfold tset
  split
  · exact ⟨h, rfl⟩
  · split
    · exact ⟨h, rfl⟩
    · split
      · exact ⟨h.one k v _, rfl⟩
      · obtain ⟨r1, r2⟩ := (show TB (Proofs.YtckgoedlgecokaaGreatDoor.one t k v) s L from h.one k v _).reh iv k
        split
        · exact ⟨r1, r2⟩
        · exact ⟨r1.one k v _, r2⟩
end Go.Proofs.YtckgoedlgecokaaGreatDoor

/- The pure part of a table, on: keys that follow one another, none of them small. -/
namespace Go.Proofs.YtckgoedlgecokaaGreatDoor
open Go.RowKit

/-- The census has no error where few keys are present. -/
theorem rsE_few {p : Pa} {k : V} (h : ∀ k', k' ∈ pres p ++ [k] → KOK k') (hn : (pres p ++ [k]).Nodup) (hl : (pres p ++ [k]).length ≤ 65536) : rsE p k = 0 := by
  rcases cens h hn with q | q
  · exfalso
    unfold rsE at q
    generalize pres p ++ [k] = l at *
    have hf := ints_fit h
    have hd := (C.dense_of (ints l) hf).n
    have hw := (C.wi_bound (ints l) (C.chA (C.cntL (ints l)) 17)).1
    have hc := ints_len l
    unfold C.szE at q
    rw [if_neg (by omega), if_neg (by simpa using ints_nd h hn)] at q
    have : ¬ (65536 < ((oth l : Nat) : Int) ∨ 65536 < ((oth l : Nat) : Int) + C.rest (ints l)) := by unfold C.rest; omega
    rw [if_neg this] at q
    cases q
  · exact q.1
theorem up2_le (n : Int) (h0 : 0 ≤ n) (h1 : n ≤ 1024) : C.up2 n ≤ 1024 := by
  unfold C.up2
  by_cases q : n = 0
  · rw [if_pos q]; omega
  · rw [if_neg q]
    obtain ⟨a, b, c⟩ := C.lgN_spec n (by omega) (by omega)
    have hl : C.lgN n ≤ 10 := by
      rcases b with b | b
      · omega
      · rcases Nat.lt_or_ge 10 (C.lgN n) with q | q
        · have := Nat.pow_le_pow_right (n := 2) (by omega) (show 10 ≤ C.lgN n - 1 by omega)
          omega
        · exact q
    unfold C.cl
    have h2 := Nat.pow_le_pow_right (n := 2) (by omega) hl
    have e : ((2 : Int) ^ C.lgN n) = ((2 ^ C.lgN n : Nat) : Int) := by simp
    rw [e]; omega

/-- j keys are in, b + 1 to b + j; none has a slot. -/
structure RW (b : Int) (j : Nat) (t : TS) (s : H.St) : Prop where
  n0 : t.p.n = 0
  tb : TB t s 4
  lim : s.lim = 400000
  zb : t.p.z ≤ 1024
  keys : ∀ i, i < t.p.z → t.p.g.K i = nil ∨ ∃ q : Nat, 1 ≤ q ∧ q ≤ j ∧ t.p.g.K i = kn (b + q)
  get : ∀ q : Nat, 1 ≤ q → q ≤ j → pget t.p (kn (b + q)) = kn q
theorem kn_inj {a b : Int} (h : kn a = kn b) : a = b := by simpa using h
theorem KOK_row {b : Int} {q : Nat} (h0 : 0 ≤ b) (h1 : b < 4611686018427387904) (hq : q ≤ 701) : KOK (kn (b + q)) := by
  refine ⟨by simp [inF, ByteArray.toList_eq], by simp, by simp; omega, by simp; omega⟩
theorem fm_kn (n : Int) : fm (kn n) = true := by simp [fm, inF, ByteArray.toList_eq]
theorem not_inA0 (k : V) : ¬ inA 0 k := fun h => by have := h.2.2; omega
theorem RW.pres_len {b : Int} {j : Nat} {t : TS} {s : H.St} (h : RW b j t s) (ti : TI t.p) : (pres t.p).length ≤ j ∧ ∀ k, k ∈ pres t.p → ∃ q : Nat, 1 ≤ q ∧ q ≤ j ∧ k = kn (b + q) := by
  have hm : ∀ k, k ∈ pres t.p → ∃ q : Nat, 1 ≤ q ∧ q ≤ j ∧ k = kn (b + q) := fun k hk => by
    rw [pres, h.n0, List.mem_append] at hk
    rcases hk with hk | hk
    · cases hk
    · obtain ⟨i, hi, hx, rfl⟩ := mem_kH.1 hk
      exact (h.keys i hi).resolve_left (ti.live hi hx).1
  refine ⟨?_, hm⟩
  have hnd : ((pres t.p).map fun k => (k.2.1 - b - 1).toNat).Nodup := by
    unfold List.Nodup
    rw [List.pairwise_map]
    refine List.Pairwise.imp_of_mem ?_ ti.pres_nd
    intro k k' hk hk' hne e
    obtain ⟨q, q1, q2, rfl⟩ := hm k hk
    obtain ⟨q', q1', q2', rfl⟩ := hm k' hk'
    have e' : (b + (q : Int) - b - 1).toNat = (b + (q' : Int) - b - 1).toNat := e
    exact hne (by rw [show q = q' by omega])
  have := nodup_len (z := j) hnd (fun x hx => by
    obtain ⟨k, hk, rfl⟩ := List.mem_map.1 hx
    obtain ⟨q, q1, q2, rfl⟩ := hm k hk
    show (b + (q : Int) - b - 1).toNat < j
    omega)
  simpa using this

theorem RW.step {b : Int} {j m : Nat} {t : TS} {s : H.St} (h : RW b j t s) (ti : TI t.p) (iv : H.Inv 0 s) (hj : j + 1 ≤ m) (hm : m ≤ 700) (hb : 2 * (m : Int) ≤ b) (hb2 : b < 4611686018427387904) :
    (tset t s (kn (b + (j + 1 : Nat))) (kn ((j + 1 : Nat)))).2.2 = 0 ∧ RW b (j + 1) (tset t s (kn (b + (j + 1 : Nat))) (kn (j + 1 : Nat))).1 (tset t s (kn (b + (j + 1 : Nat))) (kn (j + 1 : Nat))).2.1 := by
  have hk : KOK (kn (b + (j + 1 : Nat))) := KOK_row (by omega) hb2 (by omega)
  have hv := fm_kn ((j + 1 : Nat) : Int)
  have hr : Rng (kn (b + (j + 1 : Nat))) := ⟨hk.2.2.1, hk.2.2.2⟩
  have hv0 : (kn ((j + 1 : Nat) : Int)).1 ≠ 0 := by simp
  obtain ⟨htb, hlim⟩ := h.tb.set iv (kn (b + (j + 1 : Nat))) (kn (j + 1 : Nat))
  obtain ⟨mp1, mp2⟩ := tset_map (s := s) (k := kn (b + (j + 1 : Nat))) (v := kn (j + 1 : Nat)) ti hr
  obtain ⟨hpl, hpm⟩ := h.pres_len ti
  have hold : ∀ q : Nat, 1 ≤ q → q ≤ j → kn (b + q) ≠ kn (b + (j + 1 : Nat)) := fun q _ q2 e => by have := kn_inj e; omega
  -- what is left to show
  have key : (tset t s (kn (b + (j + 1 : Nat))) (kn (j + 1 : Nat))).2.2 = 0 ∧ (tset t s (kn (b + (j + 1 : Nat))) (kn (j + 1 : Nat))).1.p.n = 0 ∧ (tset t s (kn (b + (j + 1 : Nat))) (kn (j + 1 : Nat))).1.p.z ≤ 1024 ∧
      ∀ i, i < (tset t s (kn (b + (j + 1 : Nat))) (kn (j + 1 : Nat))).1.p.z → (tset t s (kn (b + (j + 1 : Nat))) (kn (j + 1 : Nat))).1.p.g.K i = nil ∨ ∃ q : Nat, 1 ≤ q ∧ q ≤ j + 1 ∧ (tset t s (kn (b + (j + 1 : Nat))) (kn (j + 1 : Nat))).1.p.g.K i = kn (b + q) := by
    clear mp1 mp2 htb hlim
    generalize hkk : kn (b + (j + 1 : Nat)) = k at *
    generalize kn ((j + 1 : Nat) : Int) = v at *
    have hA : ¬ inA t.p.n k := by rw [h.n0]; exact not_inA0 k
    have ep : pset t.p k v = ({ t.p with g := (put t.p.z t.p.g k v).1 }, (put t.p.z t.p.g k v).2.1, (put t.p.z t.p.g k v).2.2) := by unfold pset; rw [if_neg hA]
    unfold tset
    rw [if_neg (fun q => q ⟨hk.1, hv⟩), if_neg hk.2.1]
    by_cases he : (pset t.p k v).2.2 = 12
    · rw [if_neg (fun q => q he)]
      obtain ⟨_, _, _, hnew, hfull, hg, hp, ha⟩ := ti.full hk he
      have h1 : TI (pset t.p k v).1 := ti.set hr hv
      have hA1 : ¬ inA (pset t.p k v).1.n k := by rw [(pset_nz t.p k v).1]; exact hA
      have hnew1 : ∀ i, i < (pset t.p k v).1.z → (pset t.p k v).1.g.K i ≠ k := fun i hi e => by
        rw [(pset_nz t.p k v).2] at hi
        have he' : (put t.p.z t.p.g k v).2.2 = 12 := by rw [ep] at he; exact he
        have e2 := (put_12 ti.inv ti.rt hk he').2.2.2.2.1
        rw [ep] at e
        have e3 : (put t.p.z t.p.g k v).1.K i = k := e
        rw [e2] at e3
        exact hnew i hi e3
      have hop : (one t k v).p = (pset t.p k v).1 := rfl
      have hos : (one t k v).sb = t.sb ∧ (one t k v).nb = t.nb := ⟨rfl, rfl⟩
      rw [← hop] at ha h1 hA1 hnew1 hp
      generalize one t k v = u at *
      have hlen : (pres u.p ++ [k]).length ≤ j + 1 := by rw [hp]; simp; omega
      have e0 := rsE_few ha.ok ha.nd (by omega)
      obtain ⟨F, i1, i2, i3, i4, i5⟩ := h1.behind hk hv hv0 hA1 hnew1 ha e0
      have hmem : ∀ k', k' ∈ pres u.p ++ [k] → ∃ q : Nat, 1 ≤ q ∧ q ≤ j + 1 ∧ k' = kn (b + q) := fun k' hk' => by
        rw [hp] at hk'
        rcases List.mem_append.1 hk' with q | q
        · obtain ⟨r, r1, r2, r3⟩ := hpm k' q
          exact ⟨r, r1, by omega, r3⟩
        · exact ⟨j + 1, by omega, by omega, by rw [List.mem_singleton.1 q, hkk]⟩
      have hA0 : rsA u.p k = 0 := by
        by_cases q : rsA u.p k = 0
        · exact q
        · exfalso
          have hh := F.dense.half (by omega)
          have hw := C.wi_bound (ints (pres u.p ++ [k])) (rsA u.p k)
          have hc := ints_len (pres u.p ++ [k])
          have hpos : 0 < C.wi (ints (pres u.p ++ [k])) (rsA u.p k) := by omega
          unfold C.wi at hpos
          have hp2 : 0 < (ints (pres u.p ++ [k])).countP (fun x => decide (1 ≤ x ∧ x ≤ ((rsA u.p k : Nat) : Int))) := by omega
          obtain ⟨x, hx, hx2⟩ := List.countP_pos_iff.1 hp2
          obtain ⟨k', hk', _, hx3⟩ := ints_mem hx
          obtain ⟨r, r1, r2, rfl⟩ := hmem k' hk'
          have hx3' : b + (r : Int) = x := hx3
          simp at hx2
          omega
      have hZ : rsZ u.p k ≤ 1024 := by
        have hup := F.up
        have ho : outK (rsA u.p k) (pres u.p ++ [k]) ≤ (pres u.p ++ [k]).length := List.countP_le_length
        have := up2_le (outK (rsA u.p k) (pres u.p ++ [k]) : Nat) (by omega) (by omega)
        omega
      have hlv := h.tb.live
      have hn0 := h.n0
      have hzb := h.zb
      have hl := h.lim
      have t1 : H.takeE s ((rsA u.p k : Nat) : Int) = 0 := by
        unfold H.takeE
        rw [if_neg (by omega), if_neg (by omega)]
      have ts : H.takeSt s ((rsA u.p k : Nat) : Int) = s := by
        rw [hA0]
        unfold H.takeSt
        rw [if_neg (by omega), if_neg (by omega), if_pos (by omega)]
      have t2 : H.takeE (H.takeSt s ((rsA u.p k : Nat) : Int)) (3 * ((rsZ u.p k : Nat) : Int)) = 0 := by
        rw [ts]
        unfold H.takeE
        rw [if_neg (by omega), if_neg (by omega)]
      have et : tpE s (rsA u.p k : Nat) (rsZ u.p k : Nat) = 0 := by unfold tpE; rw [if_neg (fun q => q t1), t2]
      have hroom : outK (rsA u.p k) (pres u.p) ≤ rsZ u.p k := by have := F.room; rw [outK_app] at this; omega
      obtain ⟨_, _, _, _, _, f6⟩ := h1.filled F.a F.z hroom
      have er : (Proofs.YtckgoedlgecokaaGreatDoor.reh u s k).2.2 = 0 ∧ (Proofs.YtckgoedlgecokaaGreatDoor.reh u s k).1.p = fill u.p (fresh (rsA u.p k) (rsZ u.p k)) := by
        unfold Proofs.YtckgoedlgecokaaGreatDoor.reh
        rw [if_neg (fun q => q e0), if_neg (fun q => q et)]
        exact ⟨rfl, rfl⟩
      rw [if_neg (fun q => q er.1), er.2]
      refine ⟨i5, ?_, ?_, ?_⟩
      · show (pset _ k v).1.n = 0
        rw [(pset_nz _ k v).1, i2, hA0]
      · show (pset _ k v).1.z ≤ 1024
        rw [(pset_nz _ k v).2, i3]; exact hZ
      · intro i hi
        have hi' : i < rsZ u.p k := by
          have : (pset (fill u.p (fresh (rsA u.p k) (rsZ u.p k))) k v).1.z = rsZ u.p k := by rw [(pset_nz _ k v).2, i3]
          have hi2 : i < (pset (fill u.p (fresh (rsA u.p k) (rsZ u.p k))) k v).1.z := hi
          omega
        have hAf : ¬ inA (fill u.p (fresh (rsA u.p k) (rsZ u.p k))).n k := by rw [i2, hA0]; exact not_inA0 k
        show (pset (fill u.p (fresh (rsA u.p k) (rsZ u.p k))) k v).1.g.K i = nil ∨ ∃ q : Nat, 1 ≤ q ∧ q ≤ j + 1 ∧ (pset (fill u.p (fresh (rsA u.p k) (rsZ u.p k))) k v).1.g.K i = kn (b + q)
        have epf : (pset (fill u.p (fresh (rsA u.p k) (rsZ u.p k))) k v).1.g = (put (fill u.p (fresh (rsA u.p k) (rsZ u.p k))).z (fill u.p (fresh (rsA u.p k) (rsZ u.p k))).g k v).1 := by unfold pset; rw [if_neg hAf]
        rw [epf]
        rcases put_pairs (v := v) i1.inv i1.rt hr (i := i) (by rw [i3]; exact hi') with q | ⟨q, _⟩ | ⟨i', hi2, q, _⟩
        · exact .inl q
        · exact .inr ⟨j + 1, by omega, by omega, by rw [q, hkk]⟩
        · rw [q]
          rw [i3] at hi2
          rcases f6 i' hi2 with r | r
          · exact .inl r
          · obtain ⟨x, x1, x2, x3⟩ := hmem _ (List.mem_append.2 (.inl r))
            exact .inr ⟨x, x1, x2, x3⟩
    · rw [if_pos he]
      have he0 : (pset t.p k v).2.2 = 0 := by
        by_cases q : (pset t.p k v).2.2 = 0
        · exact q
        · rw [ep] at he q ⊢
          rcases (put_bad q).2 with r | ⟨_, r⟩ | ⟨_, _, _, r⟩
          · exact absurd r he
          · exact absurd ⟨hk.1, hv⟩ r
          · exact absurd r hk.2.1
      refine ⟨he0, ?_, ?_, ?_⟩
      · show (pset t.p k v).1.n = 0
        rw [(pset_nz t.p k v).1]; exact h.n0
      · show (pset t.p k v).1.z ≤ 1024
        rw [(pset_nz t.p k v).2]; exact h.zb
      · intro i hi
        have hi' : i < t.p.z := by
          have hi2 : i < (pset t.p k v).1.z := hi
          rwa [(pset_nz t.p k v).2] at hi2
        show (pset t.p k v).1.g.K i = nil ∨ ∃ q : Nat, 1 ≤ q ∧ q ≤ j + 1 ∧ (pset t.p k v).1.g.K i = kn (b + q)
        rw [ep]
        rcases put_pairs (v := v) ti.inv ti.rt hr hi' with q | ⟨q, _⟩ | ⟨i', hi2, q, _⟩
        · exact .inl q
        · exact .inr ⟨j + 1, by omega, by omega, q.trans hkk.symm⟩
        · rcases h.keys i' hi2 with r | ⟨x, x1, x2, x3⟩
          · exact .inl (q.trans r)
          · exact .inr ⟨x, x1, by omega, q.trans x3⟩
  obtain ⟨k1, k2, k3, k4⟩ := key
  obtain ⟨_, _, g1, g2⟩ := mp1 k1
  refine ⟨k1, k2, htb, by rw [hlim]; exact h.lim, k3, k4, fun q q1 q2 => ?_⟩
  by_cases e : q = j + 1
  · rw [e]; exact g1
  · rw [g2 _ (KOK_row (by omega) hb2 (by omega)) (hold q q1 (by omega))]
    exact h.get q q1 (by omega)
end Go.Proofs.YtckgoedlgecokaaGreatDoor

/- The pure part of a table, on: when a Set rehashes, and what is behind it. -/
namespace Go.Proofs.YtckgoedlgecokaaGreatDoor
open Go.RowKit

theorem Fits.perm {l l' : List V} {A Z : Nat} (h : Fits l A Z) (hp : l.Perm l') : Fits l' A Z := by
  have ho : outK A l' = outK A l := (hp.countP_eq _).symm
  have hi : (ints l).Perm (ints l') := hp.filterMap _
  have hw : ∀ a, C.wi (ints l') a = C.wi (ints l) a := fun a => by unfold C.wi; rw [hi.countP_eq]
  have hd := h.dense
  refine ⟨h.a, h.z, by rw [ho]; exact h.room, ⟨hd.a0, hd.a1, rfl, ?_, fun j hj q => ?_⟩, by rw [ho]; exact h.up, h.pow⟩
  · rw [hw]; exact hd.half
  · rw [hw]; exact hd.most j hj q
/-- What due asks of a key and a value ahead of a Set. -/
def Due (p : Pa) (k v : V) : Prop := plc p k ≤ 0 ∧ (∀ i, i < p.z → p.g.K i ≠ nil) ∧ v.1 ≠ 0 ∧ fm k = true ∧ fm v = true ∧ k.1 ≠ 0
theorem tf_full {K : Nat → V} : ∀ f, (∀ i, i < f → K i ≠ nil) → tf K f = none := by
  intro f
  induction f with
  | zero => intro _; rfl
  | succ f ih => intro h; rw [tf, if_neg (h f (by omega))]; exact ih (fun i hi => h i (by omega))
theorem fnd_none {z : Nat} {g : G} {k : V} (hi : Inv z (pl z) KOK g) (hz : Rt z) (hk : KOK k) (h : (fnd z g k).1 = none) : ∀ i, i < z → g.K i ≠ k := fun i hiz e => by
  have hz0 : z ≠ 0 := by omega
  rw [fnd_good hz0 hk] at h
  cases hf : find (pl z) g k with
  | mk o n =>
    rw [hf] at h
    simp only at h
    subst h
    exact hi.find_none (fun k _ => pl_lt (hz.resolve_left hz0) k) hk.ne hf i hiz e
/-- A Set finds no node if and only if a rehash is due. -/
theorem due_iff {p : Pa} (h : TI p) {k v : V} (hr : Rng k) : Due p k v ↔ (fm k = true ∧ fm v = true ∧ k.1 ≠ 0 ∧ (pset p k v).2.2 = 12) := by
  constructor
  · rintro ⟨d1, d2, d3, d4, d5, d6⟩
    have hk : KOK k := ⟨d4, d6, hr.1, hr.2⟩
    refine ⟨d4, d5, d6, ?_⟩
    have hA : ¬ inA p.n k := fun q => by unfold plc at d1; rw [if_pos q] at d1; have := q.2.2.1; omega
    have hno : (fnd p.z p.g k).1 = none := by
      unfold plc at d1
      rw [if_neg hA] at d1
      cases hf : (fnd p.z p.g k).1 with
      | none => rfl
      | some i => rw [hf] at d1; simp only at d1; omega
    unfold pset
    rw [if_neg hA]
    show (put p.z p.g k v).2.2 = 12
    by_cases hz0 : p.z = 0
    · rw [put, if_pos ⟨d4, d5⟩, if_neg d6, if_pos hz0, if_neg d3]
    · rw [put, if_pos ⟨d4, d5⟩, if_neg d6, if_neg hz0]
      have hz' := h.rt.resolve_left hz0
      rw [fnd_good hz0 hk] at hno
      cases hf : find (pl p.z) p.g k with
      | mk o n =>
        rw [hf] at hno
        simp only at hno
        subst hno
        simp only
        rw [if_neg d3]
        have hpl := pl_lt hz' k
        have e : (ins (pl p.z) p.g k v).2 = false := by
          unfold ins
          rw [if_neg (d2 _ hpl), tf_full p.g.f (fun i hi => d2 i (by have := h.inv.fle; omega))]
        rw [e]; rfl
  · rintro ⟨d4, d5, d6, he⟩
    have hk : KOK k := ⟨d4, d6, hr.1, hr.2⟩
    obtain ⟨hA, _, hv0, hnew, hfull, _⟩ := h.full hk he
    refine ⟨?_, hfull, hv0, d4, d5, d6⟩
    unfold plc
    rw [if_neg hA]
    cases hf : fnd p.z p.g k with
    | mk o n =>
      cases o with
      | none => exact Int.le_refl _
      | some i =>
        exfalso
        have hz0 : p.z ≠ 0 := fun q => by
          have := (fnd_lt h.inv h.rt hr hf).1; omega
        rw [fnd_good hz0 hk] at hf
        obtain ⟨_, h2, h3⟩ := h.inv.find_some (fun k _ => pl_lt (h.rt.resolve_left hz0) k) hk hf
        exact hnew i (fnd_lt h.inv h.rt hr (by rw [fnd_good hz0 hk]; exact hf)).1 (by assumption)

theorem reh_err {u : TS} {s : H.St} {k : V} (h : (reh u s k).2.2 ≠ 0) : (reh u s k).1 = u := by
  unfold reh at h ⊢
  by_cases q : rsE u.p k = 0
  · rw [if_neg (fun x => x q)] at h ⊢
    by_cases q2 : tpE s (rsA u.p k) (rsZ u.p k) = 0
    · rw [if_neg (fun x => x q2)] at h; exact absurd rfl h
    · rw [if_pos q2]
  · rw [if_pos q]
theorem set_same {t : TS} {s : H.St} {k v : V} (h : TI t.p) (hr : Rng k) (hno : ¬ (Due t.p k v ∧ (tset t s k v).2.2 = 0)) : (tset t s k v).1.p.n = t.p.n ∧ (tset t s k v).1.p.z = t.p.z := by
  unfold tset at hno ⊢
  by_cases hf : fm k = true ∧ fm v = true
  · rw [if_neg (fun q => q hf)] at hno ⊢
    by_cases hk0 : k.1 = 0
    · rw [if_pos hk0]; exact ⟨rfl, rfl⟩
    · rw [if_neg hk0] at hno ⊢
      by_cases he : (pset t.p k v).2.2 = 12
      · rw [if_neg (fun q => q he)] at hno ⊢
        have hd := (due_iff h hr).2 ⟨hf.1, hf.2, hk0, he⟩
        by_cases hR : (reh (one t k v) s k).2.2 = 0
        · rw [if_neg (fun q => q hR)] at hno ⊢
          exfalso
          refine hno ⟨hd, ?_⟩
          have hk : KOK k := ⟨hf.1, hk0, hr.1, hr.2⟩
          have hs := tset_map (s := s) (k := k) (v := v) h hr
          have e : (tset t s k v).2.2 = (pset (reh (one t k v) s k).1.p k v).2.2 := by
            unfold tset
            rw [if_neg (fun q => q hf), if_neg hk0, if_neg (fun q => q he), if_neg (fun q => q hR)]
          show (pset (reh (one t k v) s k).1.p k v).2.2 = 0
          obtain ⟨hA, hv, hv0, hnew, _, _, _, ha⟩ := h.full hk he
          have h1 : TI (one t k v).p := h.set hr hv
          have hA1 : ¬ inA (one t k v).p.n k := by show ¬ inA (pset t.p k v).1.n k; rw [(pset_nz t.p k v).1]; exact hA
          have ep : pset t.p k v = ({ t.p with g := (put t.p.z t.p.g k v).1 }, (put t.p.z t.p.g k v).2.1, (put t.p.z t.p.g k v).2.2) := by unfold pset; rw [if_neg hA]
          have hnew1 : ∀ i, i < (one t k v).p.z → (one t k v).p.g.K i ≠ k := fun i hi e => by
            have hi2 : i < t.p.z := by rw [← (pset_nz t.p k v).2]; exact hi
            have he' : (put t.p.z t.p.g k v).2.2 = 12 := by rw [ep] at he; exact he
            have e2 := (put_12 h.inv h.rt hk he').2.2.2.2.1
            have e3 : (pset t.p k v).1.g.K i = k := e
            rw [ep] at e3
            have e4 : (put t.p.z t.p.g k v).1.K i = k := e3
            rw [e2] at e4
            exact hnew i hi2 e4
          have e0 : rsE (one t k v).p k = 0 := by
            unfold reh at hR
            by_cases q : rsE (one t k v).p k = 0
            · exact q
            · rw [if_pos q] at hR; exact absurd hR q
          have e1 : (reh (one t k v) s k).1.p = fill (one t k v).p (fresh (rsA (one t k v).p k) (rsZ (one t k v).p k)) := by
            unfold reh at hR ⊢
            rw [if_neg (fun q => q e0)] at hR ⊢
            by_cases q : tpE s (rsA (one t k v).p k) (rsZ (one t k v).p k) = 0
            · rw [if_neg (fun x => x q)]
            · rw [if_pos q] at hR; exact absurd hR q
          rw [e1]
          exact (h1.behind hk hv hv0 hA1 hnew1 ha e0).2.2.2.2.2
        · rw [if_pos hR, reh_err hR]
          exact pset_nz t.p k v
      · rw [if_pos he]; exact pset_nz t.p k v
  · rw [if_pos hf]; exact ⟨rfl, rfl⟩
theorem set_due {t : TS} {s : H.St} {k v : V} (h : TI t.p) (hr : Rng k) (hd : Due t.p k v) (hz : (tset t s k v).2.2 = 0) (ti' : TI (tset t s k v).1.p) :
    Fits (pres (tset t s k v).1.p) (tset t s k v).1.p.n (tset t s k v).1.p.z ∧ (tset t s k v).1.hint = 0 := by
  obtain ⟨d4, d5, d6, he⟩ := (due_iff h hr).1 hd
  have hk : KOK k := ⟨d4, d6, hr.1, hr.2⟩
  obtain ⟨mk1, _, mk2, mk3⟩ := (tset_map (s := s) (k := k) (v := v) h hr).1 hz
  obtain ⟨hA, hv, hv0, hnew, _, _, hpp, ha⟩ := h.full hk he
  have h1 : TI (one t k v).p := h.set hr hv
  have hb : ∀ k', pget (pset t.p k v).1 k' = pget t.p k' := pset_bad (by rw [he]; decide)
  have et : tset t s k v = if (reh (one t k v) s k).2.2 ≠ 0 then reh (one t k v) s k
      else ({ (reh (one t k v) s k).1 with p := (pset (reh (one t k v) s k).1.p k v).1 }, (reh (one t k v) s k).2.1, (pset (reh (one t k v) s k).1.p k v).2.2) := by
    unfold tset
    rw [if_neg (fun q => q ⟨d4, d5⟩), if_neg d6, if_neg (fun q => q he)]
  have hR : (reh (one t k v) s k).2.2 = 0 := by
    by_cases q : (reh (one t k v) s k).2.2 = 0
    · exact q
    · rw [et, if_pos q] at hz; exact absurd hz q
  rw [if_neg (fun q => q hR)] at et
  have e0 : rsE (one t k v).p k = 0 := by
    unfold reh at hR
    by_cases q : rsE (one t k v).p k = 0
    · exact q
    · rw [if_pos q] at hR; exact absurd hR q
  have e1 : (reh (one t k v) s k).1.p = fill (one t k v).p (fresh (rsA (one t k v).p k) (rsZ (one t k v).p k)) ∧ (reh (one t k v) s k).1.hint = 0 := by
    unfold reh at hR ⊢
    rw [if_neg (fun q => q e0)] at hR ⊢
    by_cases q : tpE s (rsA (one t k v).p k) (rsZ (one t k v).p k) = 0
    · rw [if_neg (fun x => x q)]; exact ⟨rfl, rfl⟩
    · rw [if_pos q] at hR; exact absurd hR q
  obtain ⟨_, F, _, _⟩ := (cens (p := (one t k v).p) ha.ok ha.nd).resolve_left (fun q => by rw [e0] at q; cases q)
  have hnz : (tset t s k v).1.p.n = rsA (one t k v).p k ∧ (tset t s k v).1.p.z = rsZ (one t k v).p k := by
    rw [et]
    show (pset (reh (one t k v) s k).1.p k v).1.n = _ ∧ (pset (reh (one t k v) s k).1.p k v).1.z = _
    rw [(pset_nz _ k v).1, (pset_nz _ k v).2, e1.1, (fill_nz _ _).1, (fill_nz _ _).2]
    exact ⟨rfl, rfl⟩
  refine ⟨?_, by rw [et]; exact e1.2⟩
  rw [hnz.1, hnz.2]
  refine F.perm ?_
  refine (List.perm_ext_iff_of_nodup ha.nd ti'.pres_nd).2 fun k' => ?_
  rw [ti'.mem_pres, List.mem_append, List.mem_singleton]
  have hm1 : ∀ k', k' ∈ pres (one t k v).p ↔ KOK k' ∧ (pget t.p k').1 ≠ 0 := fun k' => by rw [h1.mem_pres]; show _ ∧ (pget (pset t.p k v).1 k').1 ≠ 0 ↔ _; rw [hb]
  have hm2 := hm1 k'
  constructor
  · rintro (q | rfl)
    · obtain ⟨q1, q2⟩ := hm2.1 q
      refine ⟨q1, ?_⟩
      by_cases e : k' = k
      · subst e; rw [mk2]; exact hv0
      · rw [mk3 k' q1 e]; exact q2
    · exact ⟨hk, by rw [mk2]; exact hv0⟩
  · rintro ⟨q1, q2⟩
    by_cases e : k' = k
    · exact .inr e
    · left
      rw [mk3 k' q1 e] at q2
      exact hm2.2 ⟨q1, q2⟩
end Go.Proofs.YtckgoedlgecokaaGreatDoor
