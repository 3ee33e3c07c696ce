/- The walk of Len. -/
import Derived.Test.YtckgoedlgecokaaGreatDoorCg18
import Derived.Test.YtckgoedlgecokaaGreatDoorCg17
import Derived.Test.YtckgoedlgecokaaGreatDoorCg15
namespace Go.Proofs.YtckgoedlgecokaaGreatDoor
open Go.RowKit

set_option maxRecDepth 20000 in
set_option maxHeartbeats 1000000 in
theorem len_any {No : Nat → Prop} {w : World} {T A b a S hb c : Nat} {t : TS} {s : H.St} (h : TT No w T A b a S hb c t s) (hc : c ≤ 700000) (hh : 0 ≤ t.hint ∧ t.hint ≤ (t.p.n : Int)) :
    Calls Tryz.prog 27 #[tp T] w fun e w' => e = .returned (.int .i64 (blen t).1) ∧ TT No w' T A b a S hb (c + 130) (blen t).2 s ∧ Keep No w w' := by
  have C1 := stats_any h.tm
  have hle := h.ti.le
  have hlz := h.ti.rt.le
  have HT : Hid (TT No w T A b a S hb c t s) := h
  have HS : Hid (∀ W, Below w.heap.size w W → TT No (W.alloc (.cells #[.int .i64 (t.p.n : Nat), .int .i64 (t.p.z : Nat), .int .i64 (t.p.g.f : Nat), .int .i64 t.hint] 94)) T A b a S hb c t s ∧ Keep No w (W.alloc (.cells #[.int .i64 (t.p.n : Nat), .int .i64 (t.p.z : Nat), .int .i64 (t.p.g.f : Nat), .int .i64 t.hint] 94))) := fun W q => by
    have q2 := bthen q q.size (b1 W (.cells #[.int .i64 (t.p.n : Nat), .int .i64 (t.p.z : Nat), .int .i64 (t.p.g.f : Nat), .int .i64 t.hint] 94))
    exact ⟨h.below q2, Keep.of q2⟩
  unfold ts sv at C1
  unfold tp at C1 ⊢
  clear h
  by_cases hn0 : t.p.n = 0
  · have hb0 : ((t.p.n : Int) == 0) = true := by simp [hn0]
    have eb : blen t = ((beh t.p).1, { t with pr := t.pr + ((beh t.p).2 : Nat) }) := by unfold blen; rw [if_neg (fun q => q.1 hn0)]
    rw [eb]
    clear eb hn0
    go_enter Tryz.func27, Tryz.ntmps27
    go_wp2_with fail
    refine C1.mono ?_; rintro e W1 ⟨rfl, k1⟩
    obtain ⟨t2, kk2⟩ := HS.out W1 k1
    have C2 := behind_any t2 hc
    unfold tp at C2
    have HK : Hid _ := kk2
    clear C1 k1 t2 kk2
    go_wp2_with fail
    refine C2.mono ?_; rintro e W2 ⟨rfl, t3, k3⟩
    have H3 : Hid _ := And.intro t3 (HK.out.trans k3)
    clear C2 t3 k3
    go_wp2_with fail
    go_ret
    exact ⟨rfl, H3.out⟩
  · have hb0 : ((t.p.n : Int) == 0) = false := by simp [hn0]
    have CF : Hid (∀ W, TT No W T A b a S hb c t s → Calls Tryz.prog 45 #[.pointer (some ⟨T, 0, none⟩), .int .i64 (t.p.n : Nat)] W fun e w' => e = .returned (.bool (sl t.p t.p.n)) ∧ Below W.heap.size W w') := fun W q => filled_any q.tm hle hlz _ (by omega) (by omega)
    cases es : sl t.p t.p.n with
    | true =>
      have eb : blen t = ((beh t.p).1, { t with pr := t.pr + ((beh t.p).2 : Nat) }) := by unfold blen; rw [if_neg (by simp [es])]
      rw [eb]
      rw [es] at CF
      clear eb
      go_enter Tryz.func27, Tryz.ntmps27
      go_wp2_with fail
      refine C1.mono ?_; rintro e W1 ⟨rfl, k1⟩
      obtain ⟨t2, kk2⟩ := HS.out W1 k1
      have bx := (MapKept.heap_alloc W1 (.cells #[.int .i64 (t.p.n : Nat), .int .i64 (t.p.z : Nat), .int .i64 (t.p.g.f : Nat), .int .i64 t.hint] 94)).1
      have C2 := CF.out _ t2
      have HB1 : Hid (∀ W', Below (W1.alloc (.cells #[.int .i64 (t.p.n : Nat), .int .i64 (t.p.z : Nat), .int .i64 (t.p.g.f : Nat), .int .i64 t.hint] 94)).heap.size (W1.alloc (.cells #[.int .i64 (t.p.n : Nat), .int .i64 (t.p.z : Nat), .int .i64 (t.p.g.f : Nat), .int .i64 t.hint] 94)) W' → TT No W' T A b a S hb c t s ∧ Keep No w W' ∧ W'.cell? ⟨W1.heap.size, 0, none⟩ = some (.int .i64 (t.p.n : Nat))) := fun W' q => ⟨t2.below q, kk2.trans (Keep.of q), by rw [World.cell?_of_block (w := _) (q.block W1.heap.size (by simp))]; exact cell_of_row bx 0⟩
      clear C1 k1 t2 kk2 bx
      go_wp2_with fail
      refine C2.mono ?_; rintro e W2 ⟨rfl, k2⟩
      obtain ⟨t3, k3, x3⟩ := HB1.out W2 k2
      have C3 := behind_any t3 hc
      unfold tp at C3
      have HK : Hid _ := k3
      clear C2 k2 t3 k3
      go_wp2_with fail
      refine C3.mono ?_; rintro e W3 ⟨rfl, t4, k4⟩
      have H3 : Hid _ := And.intro t4 (HK.out.trans k4)
      clear C3 t4 k4
      go_wp2_with fail
      go_ret
      exact ⟨rfl, H3.out⟩
    | false =>
      have eb : blen t = (inAr t, tHint t (inAr t)) := by unfold blen; rw [if_pos ⟨hn0, es⟩]
      rw [eb]
      rw [es] at CF
      clear eb
      have CI : Hid (∀ W, TT No W T A b a S hb c t s → Calls Tryz.prog 47 #[.pointer (some ⟨T, 0, none⟩), .int .i64 (t.p.n : Nat), .int .i64 t.hint] W fun e w' => e = .returned (.int .i64 (inAr t)) ∧ Below W.heap.size W w') := fun W q => inArray_any q.tm q.ti hh hn0 es
      go_enter Tryz.func27, Tryz.ntmps27
      go_wp2_with fail
      refine C1.mono ?_; rintro e W1 ⟨rfl, k1⟩
      obtain ⟨t2, kk2⟩ := HS.out W1 k1
      have bx := (MapKept.heap_alloc W1 (.cells #[.int .i64 (t.p.n : Nat), .int .i64 (t.p.z : Nat), .int .i64 (t.p.g.f : Nat), .int .i64 t.hint] 94)).1
      have C2 := CF.out _ t2
      have HB1 : Hid (∀ W', Below (W1.alloc (.cells #[.int .i64 (t.p.n : Nat), .int .i64 (t.p.z : Nat), .int .i64 (t.p.g.f : Nat), .int .i64 t.hint] 94)).heap.size (W1.alloc (.cells #[.int .i64 (t.p.n : Nat), .int .i64 (t.p.z : Nat), .int .i64 (t.p.g.f : Nat), .int .i64 t.hint] 94)) W' → TT No W' T A b a S hb c t s ∧ Keep No w W' ∧ W'.cell? ⟨W1.heap.size, 0, none⟩ = some (.int .i64 (t.p.n : Nat)) ∧ W'.cell? ⟨W1.heap.size, 3, none⟩ = some (.int .i64 t.hint)) := fun W' q => ⟨t2.below q, kk2.trans (Keep.of q), by rw [World.cell?_of_block (w := _) (q.block W1.heap.size (by simp))]; exact cell_of_row bx 0, by rw [World.cell?_of_block (w := _) (q.block W1.heap.size (by simp))]; exact cell_of_row bx 3⟩
      clear C1 k1 t2 kk2 bx
      go_wp2_with fail
      refine C2.mono ?_; rintro e W2 ⟨rfl, k2⟩
      obtain ⟨t3, k3, x3, y3⟩ := HB1.out W2 k2
      have C3 := CI.out W2 t3
      have HK : Hid _ := And.intro t3 k3
      clear C2 k2 t3 k3
      go_wp2_with fail
      refine C3.mono ?_; rintro e W3 ⟨rfl, k4⟩
      have C4 := hint_any (HK.out.1.below k4) (inAr t)
      have HK3 : Hid (Keep No w W3) := HK.out.2.trans (Keep.of k4)
      unfold tp at C4
      clear C3 k4
      go_wp2_with fail
      refine C4.mono ?_; rintro e W4 ⟨rfl, t5, k5⟩
      have H3 : Hid _ := And.intro (t5.more (by omega : c + 1 ≤ c + 130)) (HK3.out.trans k5)
      clear C4 t5 k5
      go_wp2_with fail
      go_ret
      exact ⟨rfl, H3.out⟩
end Go.Proofs.YtckgoedlgecokaaGreatDoor

/- A table in memory as a function of its keys; the walks of get, set, step. -/
namespace Go.Proofs.YtckgoedlgecokaaGreatDoor
open Go.RowKit

structure Tw (No : Nat → Prop) (w : World) (T S hb c : Nat) (a : Int) (K : Nat) (f : Int → V) : Prop where
  ex : ∃ A b g t s, TT No w T A b g S hb c t s ∧ Mw a K f t s
section
variable {No : Nat → Prop} {w w' : World} {T S hb c : Nat} {a : Int} {K : Nat} {f : Int → V}
theorem Tw.below (h : Tw No w T S hb c a K f) (k : Below w.heap.size w w') : Tw No w' T S hb c a K f := by
  obtain ⟨A, b, g, t, s, h1, h2⟩ := h.ex
  exact ⟨A, b, g, t, s, h1.below k, h2⟩
theorem Tw.more {c' : Nat} (h : Tw No w T S hb c a K f) (hc : c ≤ c') : Tw No w T S hb c' a K f := by
  obtain ⟨A, b, g, t, s, h1, h2⟩ := h.ex
  exact ⟨A, b, g, t, s, h1.more hc, h2⟩
theorem Tw.sub {No' : Nat → Prop} (h : Tw No w T S hb c a K f) (hn : ∀ g, No' g → No g) : Tw No' w T S hb c a K f := by
  obtain ⟨A, b, g, t, s, h1, h2⟩ := h.ex
  exact ⟨A, b, g, t, s, h1.sub hn, h2⟩
theorem Tw.news (h : Tw No w T S hb c a K f) (k : Below w.heap.size w w') : Tw (fun g => No g ∨ (w.heap.size ≤ g ∧ g < w'.heap.size)) w' T S hb c a K f := by
  obtain ⟨A, b, g, t, s, h1, h2⟩ := h.ex
  exact ⟨A, b, g, t, s, h1.news k, h2⟩
theorem Tw.fv (h : Tw No w T S hb c a K f) {x : Int} (hx : I64 x) : fm (f x) = true := by
  obtain ⟨A, b, g, t, s, h1, h2⟩ := h.ex
  exact h2.fv x hx
theorem Tw.get (h : Tw No w T S hb c a K f) (hc : c ≤ 900000) (x : Int) (hx : I64 x) : Calls Tryz.prog 26 #[tp T, vv (kn x)] w fun e w' => e = .returned (vv (f x)) ∧ Tw No w' T S hb (c + 1) a K f ∧ Keep No w w' := by
  obtain ⟨A, b, g, t, s, h1, h2⟩ := h.ex
  refine (tget_any h1 hc (kn x) (rngI hx)).mono fun e w' ⟨he, ht, hk⟩ => ⟨by rw [he, h2.mp x hx], ⟨A, b, g, _, s, ht, h2.like rfl h2.hh rfl rfl⟩, hk⟩
theorem Tw.set (h : Tw No w T S hb c a K f) (hc : c ≤ 700000) (x : Int) (hx : I64 x) (v : V) (hw : v = nil ∨ (a ≤ x ∧ x < a + K)) (hv : fm v = true) :
    Calls Tryz.prog 25 #[tp T, vv (kn x), vv v] w fun e w' => e = .returned (.int .i64 0) ∧ Tw No w' T S hb (c + 7) a K (fupd f x v) ∧ Keep No w w' := by
  obtain ⟨A, b, g, t, s, h1, h2⟩ := h.ex
  refine (tset_any h1 hc (kn x) v (rngI hx)).mono fun e w' ⟨he, ⟨A', b', g', ht⟩, hk⟩ => ?_
  obtain ⟨e0, m⟩ := h2.set h1.ti h1.iv hx hw hv ht.ti
  exact ⟨by rw [he, e0], ⟨A', b', g', _, _, ht, m⟩, hk⟩
theorem Tw.len (h : Tw No w T S hb c a K f) (hc : c ≤ 700000) {m : Nat} (hm : m ≤ 100000) (hf : ∀ x, I64 x → 1 ≤ x → ((f x).1 ≠ 0 ↔ x ≤ m)) : Calls Tryz.prog 27 #[tp T] w fun e w' => e = .returned (.int .i64 (m : Nat)) ∧ Tw No w' T S hb (c + 130) a K f ∧ Keep No w w' := by
  obtain ⟨A, b, g, t, s, h1, h2⟩ := h.ex
  obtain ⟨e1, e2⟩ := h2.len h1.ti hm hf
  exact (len_any h1 hc h2.hh).mono fun e w' ⟨he, ht, hk⟩ => ⟨by rw [he, e1], ⟨A, b, g, _, s, ht, e2⟩, hk⟩
theorem Tw.set3 (h : Tw No w T S hb c a K f) {N : Nat} (hN : No N) (x : V) : Tw No (Go.Proofs.YtckgoedlgecokaaGreatDoor.set3 w N x) T S hb c a K f := by
  obtain ⟨A, b, g, t, s, h1, h2⟩ := h.ex
  exact ⟨A, b, g, t, s, h1.set3 hN x, h2⟩
theorem Tw.nos (h : Tw No w T S hb c a K f) {g : Nat} (q : No g) : g < w.heap.size := by
  obtain ⟨A, b, g', t, s, h1, h2⟩ := h.ex
  obtain ⟨vb, hp⟩ := h1.hp
  exact hp.nos _ (.inl q)
set_option maxRecDepth 20000 in
set_option maxHeartbeats 2000000 in
theorem Tw.get31 (h : Tw No w T S hb c a K f) (hc : c ≤ 900000) (x : Int) (hx : I64 x) : Calls Tryz.prog 31 #[tp T, .int .i64 x] w fun e w' => e = .returned (vv (f x)) ∧ Tw No w' T S hb (c + 1) a K f ∧ Keep No w w' := by
  have k0 : Below w.heap.size w (w.alloc (vb 0 0 ⟨#[]⟩)) := b1 _ _
  have R0 := R3.made w nil
  have h0 := h.news k0
  obtain ⟨No2, hNo2⟩ : ∃ No2, (fun g => No g ∨ (w.heap.size ≤ g ∧ g < (w.alloc (vb 0 0 ⟨#[]⟩)).heap.size)) = No2 := ⟨_, rfl⟩
  have HNo : Hid ((∀ g, No g → No2 g) ∧ No2 w.heap.size ∧ ¬ No w.heap.size) := by
    subst hNo2
    exact ⟨fun g q => .inl q, .inr ⟨Nat.le_refl _, by simp⟩, fun q => Nat.lt_irrefl _ (h.nos q)⟩
  rw [hNo2] at h0
  clear hNo2
  have C := h0.get hc x hx
  have HK : Hid (Keep No w (w.alloc (vb 0 0 ⟨#[]⟩))) := Keep.of k0
  have HR : Hid (R3 (w.alloc (vb 0 0 ⟨#[]⟩)) w.heap.size nil) := R0
  clear k0 R0 h0
  go_enter Tryz.func31, Tryz.ntmps31
  go_wp2_with fail
  refine C.mono ?_
  rintro e w1 ⟨rfl, h1, k1⟩
  have R1 := HR.out.kept k1 HNo.out.2.1
  have HK1 : Hid (Keep No w w1) := HK.out.trans (k1.sub HNo.out.1)
  obtain ⟨xv, hxv⟩ : ∃ xv, f x = xv := ⟨_, rfl⟩
  have HXV : Hid (f x = xv) := hxv
  rw [hxv]
  have HT3 : Hid _ := h1.set3 HNo.out.2.1 xv
  have HR3 : Hid _ := R1.set xv
  have HK3 : Hid _ := HK1.out.set3 HNo.out.2.2 xv
  obtain ⟨W3, hW3⟩ : ∃ W3, Go.Proofs.YtckgoedlgecokaaGreatDoor.set3 w1 w.heap.size xv = W3 := ⟨_, rfl⟩
  rw [hW3] at HT3 HR3 HK3
  unfold Go.Proofs.YtckgoedlgecokaaGreatDoor.set3 at hW3
  have n0 := R1.bx.c0
  have n1 := R1.bx.c1
  have n2 := R1.bx.c2
  have nf := R1.fz
  clear C h1 k1 HK h R1 HR HK1 hxv
  go_wp2_with fail
  have R5 := HR3.out.bx
  have r0 := R5.c0
  have r1 := R5.c1
  have r2 := R5.c2
  clear R5
  exact bodyPost_ret (v := .agg #[.int .i64 xv.1, .int .i64 xv.2.1, .string xv.2.2]) (by simp [results, Tryz.results31, go_sem, r0, r1, r2]) rfl ⟨by rw [HXV.out], HT3.out.sub HNo.out.1, HK3.out⟩
set_option maxRecDepth 20000 in
set_option maxHeartbeats 2000000 in
theorem Tw.set29 (h : Tw No w T S hb c a K f) (hc : c ≤ 700000) (x : Int) (hx : I64 x) (v : V) (hw : v = nil ∨ (a ≤ x ∧ x < a + K)) (hv : fm v = true) :
    Calls Tryz.prog 29 #[tp T, .int .i64 x, vv v] w fun e w' => e = .returned (.int .i64 0) ∧ Tw No w' T S hb (c + 7) a K (fupd f x v) ∧ Keep No w w' := by
  have k0 : Below w.heap.size w (w.alloc (.cells #[.int .i64 v.1, .int .i64 v.2.1, .string v.2.2] 24)) := b1 _ _
  have C := (h.below k0).set hc x hx v hw hv
  have HK : Hid (Keep No w (w.alloc (.cells #[.int .i64 v.1, .int .i64 v.2.1, .string v.2.2] 24))) := Keep.of k0
  clear k0 h
  go_enter Tryz.func29, Tryz.ntmps29
  go_wp2_with fail
  refine C.mono ?_
  rintro e w1 ⟨rfl, h1, k1⟩
  have H1 : Hid (Tw No w1 T S hb (c + 7) a K (fupd f x v) ∧ Keep No w w1) := ⟨h1, HK.out.trans k1⟩
  clear C h1 k1 HK
  go_wp2
  go_ret
  exact ⟨rfl, H1.out⟩
end
/-- How many steps may be made, how many were made. -/
structure Sp (w : World) (X : Nat) (fuel made : Int) : Prop where
  c0 : w.cell? ⟨X, 0, none⟩ = some (.int .i64 fuel)
  c1 : w.cell? ⟨X, 1, none⟩ = some (.int .i64 made)
  fz : ∀ j, w.frozen? ⟨X, j, none⟩ = false
  lt : X < w.heap.size
theorem Sp.kept {No : Nat → Prop} {w w' : World} {X : Nat} {fuel made : Int} (h : Sp w X fuel made) (k : Keep No w w') (hn : No X) : Sp w' X fuel made := by
  have e := k.block X h.lt hn
  exact ⟨by rw [World.cell?_of_block (w := w) e]; exact h.c0, by rw [World.cell?_of_block (w := w) e]; exact h.c1, fun j => by rw [World.frozen?_of_block (w := w) e]; exact h.fz j, Nat.lt_of_lt_of_le h.lt k.size⟩
theorem Sp.set {w : World} {X : Nat} {fuel made : Int} (h : Sp w X fuel made) (m : Int) : Sp (w.setCell ⟨X, 1, none⟩ (.int .i64 m)) X fuel m :=
  ⟨by rw [World.cell?_setCell_other _ _ _ _ (fun q => by injection q with _ q2; omega)]; exact h.c0, World.cell?_setCell_same _ _ _ h.c1, fun j => by rw [World.frozen?_setCell]; exact h.fz j, by simpa [World.setCell] using h.lt⟩
theorem Tw.cell {No : Nat → Prop} {w : World} {T S hb c : Nat} {a : Int} {K : Nat} {f : Int → V} (h : Tw No w T S hb c a K f) {N i : Nat} (hN : No N) (v : Value) : Tw No (w.setCell ⟨N, i, none⟩ v) T S hb c a K f := by
  obtain ⟨A, b, g, t, s, h1, h2⟩ := h.ex
  obtain ⟨vb, hp⟩ := h1.hp
  have k : Keep (fun g => g ≠ N) w (w.setCell ⟨N, i, none⟩ v) := (Keep.refl _ w).set (p := ⟨N, i, none⟩) (fun q => q rfl) v
  exact ⟨A, b, g, t, s, ⟨h1.tm.kept k (fun e => h1.nT (e ▸ hN)) (fun e => h1.nA (e ▸ hN)) (fun e => h1.nb (e ▸ hN)) (fun e => h1.na (e ▸ hN)), ⟨vb, hp.sets N i _ (.inl hN)⟩, h1.nT, h1.nA, h1.nb, h1.na, h1.ti, h1.iv, h1.p0, h1.p1⟩, h2⟩
set_option maxRecDepth 20000 in
set_option maxHeartbeats 2000000 in
theorem step_no {w : World} {X : Nat} {fuel : Int} (h : Sp w X fuel fuel) : Calls Tryz.prog 32 #[.pointer (some ⟨X, 0, none⟩)] w fun e w' => e = .returned (.int .i64 11) ∧ w' = w.drew := by
  have c0 := h.c0
  have c1 := h.c1
  clear h
  go_enter Tryz.func32, Tryz.ntmps32
  go_wp2_with fail
  go_region
  go_wp2
  go_ret
  exact ⟨rfl, rfl⟩
set_option maxRecDepth 20000 in
set_option maxHeartbeats 2000000 in
theorem step_yes {w : World} {X : Nat} {fuel made : Int} (h : Sp w X fuel made) (hn : made ≠ fuel) (h0 : 0 ≤ made) (h1 : made ≤ 1000000) : Calls Tryz.prog 32 #[.pointer (some ⟨X, 0, none⟩)] w fun e w' => e = .returned (.int .i64 0) ∧ w' = w.drew.setCell ⟨X, 1, none⟩ (.int .i64 (made + 1)) := by
  have c0 := h.c0
  have c1 := h.c1
  have fz := h.fz
  have hb : (made == fuel) = false := by simpa using hn
  have wm : IntKind.i64.wrap (made + 1) = made + 1 := by rw [IntKind.wrap_i64]; omega
  clear h
  go_enter Tryz.func32, Tryz.ntmps32
  go_wp2_with fail
  go_region
  go_wp2
  go_ret
  exact ⟨rfl, rfl⟩
end Go.Proofs.YtckgoedlgecokaaGreatDoor

/- Rows as functions of their places: what comes in, what goes away (no program in it). -/
namespace Go.Proofs.YtckgoedlgecokaaGreatDoor
open Go.RowKit

def rowf (l : List V) : Int → V := fun x => if 1 ≤ x ∧ x ≤ (l.length : Int) then l.getD (x - 1).toNat nil else nil
def Gl (l : List V) : Prop := ∀ v ∈ l, Gv v
theorem rowf_in {l : List V} {x : Int} (h1 : 1 ≤ x) (h2 : x ≤ (l.length : Int)) : rowf l x = l.getD (x - 1).toNat nil := if_pos ⟨h1, h2⟩
theorem rowf_out {l : List V} {x : Int} (h : ¬ (1 ≤ x ∧ x ≤ (l.length : Int))) : rowf l x = nil := if_neg h
theorem getD_mem {l : List V} {i : Nat} (h : i < l.length) : l.getD i nil ∈ l := by
  rw [List.getD_eq_getElem?_getD, List.getElem?_eq_getElem h]
  exact List.getElem_mem h
theorem rowf_pres {l : List V} (g : Gl l) (x : Int) (h1 : 1 ≤ x) : (rowf l x).1 ≠ 0 ↔ x ≤ (l.length : Int) := by
  by_cases h : x ≤ (l.length : Int)
  · rw [rowf_in h1 h]
    exact ⟨fun _ => h, fun _ => (g _ (getD_mem (by omega))).2⟩
  · rw [rowf_out (fun q => h q.2)]
    exact ⟨fun q => absurd rfl q, fun q => absurd q h⟩
theorem rowf_snoc (l : List V) (v : V) : fupd (rowf l) ((l.length : Int) + 1) v = rowf (l ++ [v]) := by
  funext x
  unfold fupd rowf
  simp only [List.length_append, List.length_singleton]
  by_cases h : x = (l.length : Int) + 1
  · subst h
    rw [if_pos rfl, if_pos (by omega), show ((l.length : Int) + 1 - 1).toNat = l.length by omega]
    simp [List.getD_eq_getElem?_getD]
  · rw [if_neg h]
    by_cases h1 : 1 ≤ x ∧ x ≤ (l.length : Int)
    · rw [if_pos h1, if_pos (by omega), List.getD_eq_getElem?_getD, List.getD_eq_getElem?_getD, List.getElem?_append_left (by omega)]
    · rw [if_neg h1, if_neg (by omega)]
/-- What stands there while what stands above a place goes up, down to j. -/
def insF (l : List V) (j : Int) : Int → V := fun x => if j + 2 ≤ x ∧ x ≤ (l.length : Int) + 1 then l.getD (x - 2).toNat nil else rowf l x
theorem insF_top (l : List V) : insF l (l.length : Int) = rowf l := by
  funext x; unfold insF; rw [if_neg (by omega)]
theorem insF_at (l : List V) {j : Int} (h1 : 1 ≤ j) (h2 : j ≤ (l.length : Int)) : insF l j j = l.getD (j - 1).toNat nil := by
  unfold insF; rw [if_neg (by omega), rowf_in h1 h2]
theorem insF_step (l : List V) {j : Int} (h1 : 1 ≤ j) (h2 : j ≤ (l.length : Int)) : fupd (insF l j) (j + 1) (insF l j j) = insF l (j - 1) := by
  rw [insF_at l h1 h2]
  funext x
  unfold fupd insF
  by_cases h : x = j + 1
  · subst h
    rw [if_pos rfl, if_pos (by omega)]
    congr 1; omega
  · rw [if_neg h]
    by_cases q : j + 2 ≤ x ∧ x ≤ (l.length : Int) + 1
    · rw [if_pos q, if_pos (by omega)]
    · rw [if_neg q, if_neg (by omega)]
def insL (l : List V) (p : Nat) (v : V) : List V := l.take p ++ v :: l.drop p
theorem insL_len (l : List V) (p : Nat) (v : V) (h : p ≤ l.length) : (insL l p v).length = l.length + 1 := by
  unfold insL; rw [List.length_append, List.length_cons, List.length_take, List.length_drop]; omega
theorem insL_lo (l : List V) (p i : Nat) (v : V) (h : p ≤ l.length) (hi : i < p) : (insL l p v)[i]? = l[i]? := by
  unfold insL
  rw [List.getElem?_append_left (by rw [List.length_take]; omega), List.getElem?_take_of_lt hi]
theorem insL_at (l : List V) (p : Nat) (v : V) (h : p ≤ l.length) : (insL l p v)[p]? = some v := by
  unfold insL
  rw [List.getElem?_append_right (by rw [List.length_take]; omega), List.length_take, show p - min p l.length = 0 by omega]; rfl
theorem insL_hi (l : List V) (p i : Nat) (v : V) (h : p ≤ l.length) (hi : p < i) : (insL l p v)[i]? = l[i - 1]? := by
  unfold insL
  rw [List.getElem?_append_right (by rw [List.length_take]; omega), List.length_take]
  obtain ⟨k, hk⟩ : ∃ k, i - min p l.length = k + 1 := ⟨i - min p l.length - 1, by omega⟩
  rw [hk, List.getElem?_cons_succ, List.getElem?_drop, show p + k = i - 1 by omega]
theorem insF_end (l : List V) (p : Nat) (v : V) (h : p ≤ l.length) : fupd (insF l (p : Int)) ((p : Int) + 1) v = rowf (insL l p v) := by
  funext x
  unfold fupd rowf
  rw [insL_len l p v h]
  by_cases h1 : x = (p : Int) + 1
  · subst h1
    rw [if_pos rfl, if_pos (by omega), List.getD_eq_getElem?_getD, show ((p : Int) + 1 - 1).toNat = p by omega, insL_at l p v h]; rfl
  · rw [if_neg h1]
    unfold insF
    by_cases q : (p : Int) + 2 ≤ x ∧ x ≤ (l.length : Int) + 1
    · rw [if_pos q, if_pos (by omega), List.getD_eq_getElem?_getD, List.getD_eq_getElem?_getD, insL_hi l p (x - 1).toNat v h (by omega)]
      congr 2; omega
    · rw [if_neg q]
      by_cases q2 : 1 ≤ x ∧ x ≤ (p : Int)
      · rw [rowf_in q2.1 (by omega), if_pos (by omega), List.getD_eq_getElem?_getD, List.getD_eq_getElem?_getD, insL_lo l p (x - 1).toNat v h (by omega)]
      · rw [if_neg (by omega)]
        by_cases q3 : 1 ≤ x ∧ x ≤ (l.length : Int)
        · exfalso; omega
        · exact rowf_out q3
/-- What stands there while what stands above a place goes down, up to i. -/
def remF (l : List V) (p i : Int) : Int → V := fun x => if p ≤ x ∧ x < i then l.getD x.toNat nil else rowf l x
theorem remF_beg (l : List V) (p : Int) : remF l p p = rowf l := by
  funext x; unfold remF; rw [if_neg (by omega)]
theorem remF_at (l : List V) {p i : Int} (h1 : 1 ≤ p) (h2 : p ≤ i) (h3 : i < (l.length : Int)) : remF l p i (i + 1) = l.getD i.toNat nil := by
  unfold remF; rw [if_neg (by omega), rowf_in (by omega) (by omega)]; congr 1; omega
theorem remF_step (l : List V) {p i : Int} (h1 : 1 ≤ p) (h2 : p ≤ i) (h3 : i < (l.length : Int)) : fupd (remF l p i) i (remF l p i (i + 1)) = remF l p (i + 1) := by
  rw [remF_at l h1 h2 h3]
  funext x
  unfold fupd remF
  by_cases h : x = i
  · subst h
    rw [if_pos rfl, if_pos (by omega)]
  · rw [if_neg h]
    by_cases q : p ≤ x ∧ x < i
    · rw [if_pos q, if_pos (by omega)]
    · rw [if_neg q, if_neg (by omega)]
theorem remF_end (l : List V) (p : Nat) (h : p < l.length) : fupd (remF l ((p : Int) + 1) (l.length : Int)) (l.length : Int) nil = rowf (l.eraseIdx p) := by
  funext x
  have hl : (l.eraseIdx p).length = l.length - 1 := List.length_eraseIdx_of_lt h
  unfold fupd rowf
  rw [hl]
  by_cases h1 : x = (l.length : Int)
  · rw [if_pos h1, if_neg (by omega)]
  · rw [if_neg h1]
    unfold remF
    by_cases q : (p : Int) + 1 ≤ x ∧ x < (l.length : Int)
    · rw [if_pos q, if_pos (by omega), List.getD_eq_getElem?_getD, List.getD_eq_getElem?_getD, List.getElem?_eraseIdx_of_ge (by omega)]
      congr 2; omega
    · rw [if_neg q]
      by_cases q2 : 1 ≤ x ∧ x ≤ (p : Int)
      · rw [rowf_in q2.1 (by omega), if_pos (by omega), List.getD_eq_getElem?_getD, List.getD_eq_getElem?_getD, List.getElem?_eraseIdx_of_lt (by omega)]
      · rw [if_neg (by omega)]
        exact rowf_out (by omega)
theorem rowf_set (l : List V) (i : Nat) (v : V) (h : i < l.length) : fupd (rowf l) ((i : Int) + 1) v = rowf (l.set i v) := by
  funext x
  unfold fupd rowf
  rw [List.length_set]
  by_cases h1 : x = (i : Int) + 1
  · subst h1
    rw [if_pos rfl, if_pos (by omega), List.getD_eq_getElem?_getD, show ((i : Int) + 1 - 1).toNat = i by omega, List.getElem?_set_self h]; rfl
  · rw [if_neg h1]
    by_cases q : 1 ≤ x ∧ x ≤ (l.length : Int)
    · rw [if_pos q, if_pos q, List.getD_eq_getElem?_getD, List.getD_eq_getElem?_getD, List.getElem?_set_ne (by omega)]
    · rw [if_neg q, if_neg q]
/-- What stands there when so many have come from f on to p on. -/
def mvF (g h : Int → V) (f p n : Int) : Int → V := fun x => if p ≤ x ∧ x < p + n then g (x - p + f) else h x
theorem mvF_beg (g h : Int → V) (f p : Int) : mvF g h f p 0 = h := by
  funext x; unfold mvF; rw [if_neg (by omega)]
theorem mvF_step (g h : Int → V) (f p : Int) {n : Int} (hn : 0 ≤ n) : fupd (mvF g h f p n) (p + n) (g (f + n)) = mvF g h f p (n + 1) := by
  funext x
  unfold fupd mvF
  by_cases h1 : x = p + n
  · subst h1
    rw [if_pos rfl, if_pos (by omega)]; congr 1; omega
  · rw [if_neg h1]
    by_cases q : p ≤ x ∧ x < p + n
    · rw [if_pos q, if_pos (by omega)]
    · rw [if_neg q, if_neg (by omega)]
theorem mvF_read (g : Int → V) {f p n e : Int} (h : p ≤ f ∨ e < p) (hn : f + n ≤ e) (_ : 0 ≤ n) : mvF g g f p n (f + n) = g (f + n) := by
  unfold mvF; rw [if_neg (by omega)]
/-- The same from the last on. -/
def mvD (g : Int → V) (f p m n : Int) : Int → V := fun x => if p + m - n < x ∧ x ≤ p + m then g (x - p + f) else g x
theorem mvD_beg (g : Int → V) (f p m : Int) : mvD g f p m 0 = g := by
  funext x; unfold mvD; rw [if_neg (by omega)]
theorem mvD_step (g : Int → V) (f p m : Int) {n : Int} (hn : 0 ≤ n) : fupd (mvD g f p m n) (p + (m - n)) (g (f + (m - n))) = mvD g f p m (n + 1) := by
  funext x
  unfold fupd mvD
  by_cases h1 : x = p + (m - n)
  · subst h1
    rw [if_pos rfl, if_pos (by omega)]; congr 1; omega
  · rw [if_neg h1]
    by_cases q : p + m - n < x ∧ x ≤ p + m
    · rw [if_pos q, if_pos (by omega)]
    · rw [if_neg q, if_neg (by omega)]
theorem mvD_read (g : Int → V) {f p m n : Int} (h : f < p) (_ : 0 ≤ n) : mvD g f p m n (f + (m - n)) = g (f + (m - n)) := by
  unfold mvD; rw [if_neg (by omega)]
theorem mvD_end (g : Int → V) (f p m : Int) : mvD g f p m (m + 1) = mvF g g f p (m + 1) := by
  funext x
  unfold mvD mvF
  by_cases q : p ≤ x ∧ x < p + (m + 1)
  · rw [if_pos (by omega), if_pos q]
  · rw [if_neg (by omega), if_neg q]
end Go.Proofs.YtckgoedlgecokaaGreatDoor

/- The walks of carry within one table, Append and Last. -/
namespace Go.Proofs.YtckgoedlgecokaaGreatDoor
open Go.RowKit
theorem Sp.drew {w : World} {X : Nat} {fuel made : Int} (h : Sp w X fuel made) : Sp w.drew X fuel made := ⟨h.c0, h.c1, h.fz, h.lt⟩
section
variable {No : Nat → Prop} {w : World} {T S hb c X : Nat} {a : Int} {K : Nat} {f : Int → V} {fuel made : Int}
theorem Tw.drew (h : Tw No w T S hb c a K f) : Tw No w.drew T S hb c a K f := h.below (Below.refl _ _).drew
set_option maxRecDepth 20000 in
set_option maxHeartbeats 2000000 in
theorem carry_no (p q : Value) (i j : Int) (sp : Sp w X fuel fuel) : Calls Tryz.prog 28 #[.pointer (some ⟨X, 0, none⟩), p, .int .i64 i, q, .int .i64 j] w fun e w' => e = .returned (.int .i64 11) ∧ w' = w.drew := by
  have C := step_no sp
  go_enter Tryz.func28, Tryz.ntmps28
  go_wp2_with fail
  refine C.mono ?_
  rintro e w1 ⟨rfl, rfl⟩
  clear C
  go_wp2
  go_ret
  exact ⟨rfl, rfl⟩
set_option maxRecDepth 20000 in
set_option maxHeartbeats 2000000 in
theorem carry_yes (h : Tw No w T S hb c a K f) (sp : Sp w X fuel made) (hX : No X) (hn : made ≠ fuel) (h0 : 0 ≤ made) (h1 : made ≤ 1000000) (hc : c ≤ 600000) (i j : Int) (hi : I64 i) (hj : I64 j) (hw : a ≤ j ∧ j < a + K) :
    Calls Tryz.prog 28 #[.pointer (some ⟨X, 0, none⟩), tp T, .int .i64 i, tp T, .int .i64 j] w fun e w' => e = .returned (.int .i64 0) ∧ Tw No w' T S hb (c + 8) a K (fupd f j (f i)) ∧ Sp w' X fuel (made + 1) ∧ Keep (fun g => No g ∧ g ≠ X) w w' := by
  have C := step_yes sp hn h0 h1
  have H2 : Tw No (w.drew.setCell ⟨X, 1, none⟩ (.int .i64 (made + 1))) T S hb c a K f := h.drew.cell hX _
  have S2 : Sp (w.drew.setCell ⟨X, 1, none⟩ (.int .i64 (made + 1))) X fuel (made + 1) := sp.drew.set _
  have K2 : Keep (fun g => No g ∧ g ≠ X) w (w.drew.setCell ⟨X, 1, none⟩ (.int .i64 (made + 1))) := ((Keep.refl _ w).drew).set (p := ⟨X, 1, none⟩) (fun q => q.2 rfl) _
  have fv := h.fv hi
  obtain ⟨W2, hW2⟩ : ∃ W2, w.drew.setCell ⟨X, 1, none⟩ (.int .i64 (made + 1)) = W2 := ⟨_, rfl⟩
  rw [hW2] at C H2 S2 K2
  have C2 := H2.get31 (by omega) i hi
  have HS : Hid (Sp W2 X fuel (made + 1) ∧ Keep (fun g => No g ∧ g ≠ X) w W2) := ⟨S2, K2⟩
  clear hW2 H2 S2 K2 sp h hn
  go_enter Tryz.func28, Tryz.ntmps28
  go_wp2_with fail
  refine C.mono ?_
  rintro e w1 ⟨rfl, rfl⟩
  clear C
  go_wp2_with fail
  refine C2.mono ?_
  rintro e w3 ⟨rfl, t3, k3⟩
  have C3 := t3.set29 (by omega) j hj (f i) (.inr hw) fv
  have HS3 : Hid (Sp w3 X fuel (made + 1) ∧ Keep (fun g => No g ∧ g ≠ X) w w3) := ⟨HS.out.1.kept k3 hX, HS.out.2.trans (k3.sub fun g q => q.1)⟩
  clear C2 t3 k3 HS
  go_wp2_with fail
  refine C3.mono ?_
  rintro e w4 ⟨rfl, t4, k4⟩
  have HS4 : Hid (Tw No w4 T S hb (c + 8) a K (fupd f j (f i)) ∧ Sp w4 X fuel (made + 1) ∧ Keep (fun g => No g ∧ g ≠ X) w w4) := ⟨t4.more (by omega), HS3.out.1.kept k4 hX, HS3.out.2.trans (k4.sub fun g q => q.1)⟩
  clear C3 t4 k4 HS3
  go_wp2
  go_ret
  exact ⟨rfl, HS4.out⟩
end
section
variable {No : Nat → Prop} {w : World} {T S hb c : Nat} {K : Nat} {l : List V}
theorem i64_nat {n : Nat} (h : n ≤ 1000000) : I64 (n : Int) := ⟨by omega, by omega⟩
set_option maxRecDepth 20000 in
set_option maxHeartbeats 2000000 in
theorem last_row (h : Tw No w T S hb c 1 K (rowf l)) (g : Gl l) (hc : c ≤ 600000) (hl : l.length ≤ 10000) : Calls Tryz.prog 21 #[tp T] w fun e w' => e = .returned (.int .i64 (l.length : Nat)) ∧ Tw No w' T S hb (c + 130) 1 K (rowf l) ∧ Keep No w w' := by
  have C := h.len (by omega) (m := l.length) (by omega) fun x _ h1 => rowf_pres g x h1
  clear h g
  go_enter Tryz.func21, Tryz.ntmps21
  go_wp2_with fail
  refine C.mono ?_
  rintro e w1 ⟨rfl, t1, k1⟩
  have H1 : Hid _ := And.intro t1 k1
  clear C t1 k1
  go_wp2
  go_ret
  exact ⟨rfl, H1.out⟩
theorem Tw.box {a : Int} {f : Int → V} (h : Tw No w T S hb c a K f) (o : Obj) : ∃ No2 : Nat → Prop, Tw No2 (w.alloc o) T S hb c a K f ∧ (∀ g, No g → No2 g) ∧ No2 w.heap.size ∧ ¬ No w.heap.size :=
  ⟨_, h.news (b1 w o), fun g q => .inl q, .inr ⟨Nat.le_refl _, by simp⟩, fun q => Nat.lt_irrefl _ (h.nos q)⟩
set_option maxRecDepth 20000 in
set_option maxHeartbeats 2000000 in
theorem append_row (h : Tw No w T S hb c 1 K (rowf l)) (g : Gl l) (hc : c ≤ 600000) (hl : l.length < K) (hK : K ≤ 1000) (v : V) (hv : Gv v) : Calls Tryz.prog 22 #[tp T, vv v] w fun e w' => e = .returned (.int .i64 0) ∧ Tw No w' T S hb (c + 137) 1 K (rowf (l ++ [v])) ∧ Keep No w w' := by
  obtain ⟨No2, h0, n1, n2, _⟩ := h.box (vb v.1 v.2.1 v.2.2)
  have C := h0.len (by omega) (m := l.length) (by omega) fun x _ h1 => rowf_pres g x h1
  have HK : Hid (Keep No w (w.alloc (vb v.1 v.2.1 v.2.2)) ∧ (∀ g, No g → No2 g) ∧ No2 w.heap.size ∧ Bx (w.alloc (vb v.1 v.2.1 v.2.2)) w.heap.size v) := ⟨Keep.of (b1 _ _), n1, n2, Bx.made w v⟩
  have hne : ((l.length : Int) == 9223372036854775807) = false := by simp; omega
  have wl : IntKind.i64.wrap ((l.length : Int) + 1) = (l.length : Int) + 1 := by rw [IntKind.wrap_i64]; omega
  clear h g h0 n1 n2
  go_enter Tryz.func22, Tryz.ntmps22
  go_wp2_with fail
  refine C.mono ?_
  rintro e w1 ⟨rfl, t1, k1⟩
  have bx := HK.out.2.2.2.kept k1 HK.out.2.2.1
  have x0 := bx.c0
  have x1 := bx.c1
  have x2 := bx.c2
  have C2 := t1.set29 (by omega) ((l.length : Int) + 1) ⟨by omega, by omega⟩ v (.inr ⟨by omega, by omega⟩) hv.1
  have HK1 : Hid (Keep No w w1) := HK.out.1.trans (k1.sub HK.out.2.1)
  clear C t1 k1 bx
  go_wp2_with fail
  refine C2.mono ?_
  rintro e w2 ⟨rfl, t2, k2⟩
  have H2 : Hid (Tw No w2 T S hb (c + 137) 1 K (rowf (l ++ [v])) ∧ Keep No w w2) := ⟨by rw [← rowf_snoc]; exact (t2.sub HK.out.2.1).more (by omega), HK1.out.trans (k2.sub HK.out.2.1)⟩
  clear C2 t2 k2 HK1
  go_wp2
  go_ret
  exact ⟨rfl, H2.out⟩
end
end Go.Proofs.YtckgoedlgecokaaGreatDoor
