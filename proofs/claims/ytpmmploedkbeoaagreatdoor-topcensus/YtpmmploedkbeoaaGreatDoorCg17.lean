/- The walk of Pair. -/
import Derived.Test.YtpmmploedkbeoaaGreatDoorCg14
import Derived.Test.YtpmmploedkbeoaaGreatDoorCg16
namespace Go.Proofs.YtpmmploedkbeoaaGreatDoor
open Go.RowKit

/-- The pair at a place, from nought on. -/
def pairK (p : Pa) (i : Nat) : V := if i < p.n then kn ((i : Int) + 1) else p.g.K (i - p.n)
def pairX (p : Pa) (i : Nat) : V := if i < p.n then p.F i else p.g.X (i - p.n)
/-- Two results' blocks: what is true of them behind the stores. -/
structure P2 (w W : World) (N : Nat) (x y : V) : Prop where
  r0 : Bx W N x
  r1 : Bx W (N + 1) y
  bel : Below N w W
theorem P2.mk2 {w W : World} {N : Nat} (hB : Below N w W) (r0 : R3 W N nil) (r1 : R3 W (N + 1) nil) (x y : V) : P2 w (set3 (set3 W N x) (N + 1) y) N x y := by
  have k1 : Keep (fun g => g ≠ N) W (set3 W N x) := (Keep.refl _ W).set3 (fun q => q rfl) x
  have q1 := r1.kept k1 (by show N + 1 ≠ N; omega)
  have k2 : Keep (fun g => g ≠ N + 1) (set3 W N x) (set3 (set3 W N x) (N + 1) y) := (Keep.refl _ _).set3 (fun q => q rfl) y
  have q0 := (r0.set x).kept k2 (by show N ≠ N + 1; omega)
  have hs := r0.bx.lt
  have kk : Keep (fun g => g < N) W (set3 (set3 W N x) (N + 1) y) := ((Keep.refl (fun g => g < N) W).set3 (N := N) (Nat.lt_irrefl N) x).set3 (N := N + 1) (fun q => by omega) y
  exact ⟨q0.bx, (q1.set y).bx, hB.trans (kk.below (Nat.le_of_lt hs) (fun g q => q))⟩

set_option maxRecDepth 20000 in
set_option maxHeartbeats 4000000 in
theorem pair_in {w : World} {T A b a S : Nat} {t : TS} (h : Tm w T A b a S t) (hn : t.p.n ≤ 65536) (j : Nat) (hj : j < t.p.n) :
    Calls Tryz.prog 110 #[tp T, .int .i64 ((j : Int) + 1)] w fun e w' => e = .returned (.tuple #[vv (kn ((j : Int) + 1)), vv (t.p.F j)]) ∧ Below w.heap.size w w' := by
  have R0 := (R3.made w nil).below (b1 _ (vb 0 0 ⟨#[]⟩))
  have R1 := R3.made (w.alloc (vb 0 0 ⟨#[]⟩)) nil
  have eX : (w.alloc (vb 0 0 ⟨#[]⟩)).heap.size = w.heap.size + 1 := by simp
  rw [eX] at R1
  have B0 := b2 w (vb 0 0 ⟨#[]⟩) (vb 0 0 ⟨#[]⟩)
  have R0' : R3 ((w.alloc (vb 0 0 ⟨#[]⟩)).alloc (vb 0 0 ⟨#[]⟩)) w.heap.size nil := R0
  have R1' : R3 ((w.alloc (vb 0 0 ⟨#[]⟩)).alloc (vb 0 0 ⟨#[]⟩)) (w.heap.size + 1) nil := R1
  obtain ⟨W0, hW0⟩ : ∃ W0, (w.alloc (vb 0 0 ⟨#[]⟩)).alloc (vb 0 0 ⟨#[]⟩) = W0 := ⟨_, rfl⟩
  rw [hW0] at B0 R0' R1'
  have h0 := h.below B0
  have C1 := number_any ((j : Int) + 1) W0.drew
  have c1 : W0.cell? ⟨T, 1, none⟩ = some (.slice (some ⟨A, 0, none⟩) t.p.n t.p.n) := h0.pm.c0
  have s0 : W0.cell? ⟨A, j * 3, none⟩ = some (.int .i64 (t.p.F j).1) := h0.pm.sl.c j hj 0 (by omega)
  have s1 : W0.cell? ⟨A, j * 3 + 1, none⟩ = some (.int .i64 (t.p.F j).2.1) := h0.pm.sl.c j hj 1 (by omega)
  have s2 : W0.cell? ⟨A, j * 3 + 2, none⟩ = some (.string (t.p.F j).2.2) := h0.pm.sl.c j hj 2 (by omega)
  have HSZ : Hid (∀ W, Below W0.heap.size W0 W → Below w.heap.size w W) := fun W hW => bthen B0 B0.size hW
  have lT := h.pm.ltB
  have lA := h.pm.ltA
  have HF : Hid (∀ W, Below W0.heap.size W0 W → ∀ y : V, (R3 W w.heap.size nil ∧ R3 W (w.heap.size + 1) nil ∧ W.cell? ⟨T, 1, none⟩ = some (.slice (some ⟨A, 0, none⟩) t.p.n t.p.n) ∧ W.cell? ⟨A, j * 3, none⟩ = some (.int .i64 (t.p.F j).1) ∧ W.cell? ⟨A, j * 3 + 1, none⟩ = some (.int .i64 (t.p.F j).2.1) ∧ W.cell? ⟨A, j * 3 + 2, none⟩ = some (.string (t.p.F j).2.2)) ∧
      (R3 (set3 W w.heap.size y) (w.heap.size + 1) nil ∧ (set3 W w.heap.size y).cell? ⟨T, 1, none⟩ = some (.slice (some ⟨A, 0, none⟩) t.p.n t.p.n) ∧ (set3 W w.heap.size y).cell? ⟨A, j * 3, none⟩ = some (.int .i64 (t.p.F j).1) ∧ (set3 W w.heap.size y).cell? ⟨A, j * 3 + 1, none⟩ = some (.int .i64 (t.p.F j).2.1) ∧ (set3 W w.heap.size y).cell? ⟨A, j * 3 + 2, none⟩ = some (.string (t.p.F j).2.2)) ∧
      P2 w (set3 (set3 W w.heap.size y) (w.heap.size + 1) (t.p.F j)) w.heap.size y (t.p.F j)) := fun W hW y => by
    have h1 := h0.below hW
    have k : Keep (fun g => g ≠ w.heap.size) W (set3 W w.heap.size y) := (Keep.refl _ W).set3 (fun q => q rfl) y
    have eT := k.block T h1.pm.ltB (by show T ≠ _; omega)
    have eA := k.block A h1.pm.ltA (by show A ≠ _; omega)
    refine ⟨⟨R0'.below hW, R1'.below hW, h1.pm.c0, h1.pm.sl.c j hj 0 (by omega), h1.pm.sl.c j hj 1 (by omega), h1.pm.sl.c j hj 2 (by omega)⟩, ⟨(R1'.below hW).kept k (by show _ + 1 ≠ _; omega), ?_, ?_, ?_, ?_⟩, P2.mk2 (bthen B0 B0.size hW) (R0'.below hW) (R1'.below hW) y _⟩
    · rw [World.cell?_of_block (w := W) eT]; exact h1.pm.c0
    · rw [World.cell?_of_block (w := W) eA]; exact h1.pm.sl.c j hj 0 (by omega)
    · rw [World.cell?_of_block (w := W) eA]; exact h1.pm.sl.c j hj 1 (by omega)
    · rw [World.cell?_of_block (w := W) eA]; exact h1.pm.sl.c j hj 2 (by omega)
  clear h h0 R0 R1 R0' R1' B0 eX lT lA
  unfold vb at hW0
  unfold vv vl tp at *
  generalize t.p.F j = x at *
  generalize t.p.n = n at *
  generalize hsz : w.heap.size = N at *
  have HN : Hid (w.heap.size = N) := hsz
  have hj1 : ¬ ((j : Int) + 1 < 1) := by omega
  have hj2 : (j : Int) + 1 ≤ (n : Int) := by omega
  have hj3 : (j : Int) < (n : Int) := by omega
  have hj4 : ¬ ((j : Int) < 0) := by omega
  have hw0 : IntKind.i64.wrap (j : Int) = (j : Int) := by rw [IntKind.wrap_i64]; omega
  have hw1 : IntKind.i64.wrap ((j : Int) + 1 - 1) = (j : Int) := by rw [IntKind.wrap_i64]; omega
  go_enter Tryz.func110, Tryz.ntmps110
  go_wp2_with fail
  go_region_with (go_at_call 147; refine C1.mono ?_; rintro e W1 ⟨rfl, bb⟩; have bb1 : Below W0.heap.size W0 W1 := bthen (bdrew1 W0) (Nat.le_refl _) bb; obtain ⟨⟨q0, q1, d1, e0, e1, e2⟩, ⟨q1', d1', e0', e1', e2'⟩, pp2⟩ := HF.out W1 bb1 (2, (j : Int) + 1, ⟨#[]⟩); have n0 := q0.bx.c0; have n1 := q0.bx.c1; have n2 := q0.bx.c2; have nf := q0.fz; obtain ⟨W2, hW2⟩ : ∃ W2, set3 W1 N (2, (j : Int) + 1, ⟨#[]⟩) = W2 := ⟨_, rfl⟩; rw [hW2] at q1' d1' e0' e1' e2' pp2; have m0 := q1'.bx.c0; have m1 := q1'.bx.c1; have m2 := q1'.bx.c2; have mf := q1'.fz; obtain ⟨W3, hW3⟩ : ∃ W3, set3 W2 (N + 1) x = W3 := ⟨_, rfl⟩; rw [hW3] at pp2; unfold set3 at hW2 hW3; have HB1 : Hid (P2 w W3 N (2, (j : Int) + 1, ⟨#[]⟩) x) := pp2; clear q0 q1 q1' bb bb1 pp2)
  all_goals
    go_wp2_with fail
    have v0 := HB1.out.r0.c0
    have v1 := HB1.out.r0.c1
    have v2 := HB1.out.r0.c2
    have v3 := HB1.out.r1.c0
    have v4 := HB1.out.r1.c1
    have v5 := HB1.out.r1.c2
    refine bodyPost_ret (v := .tuple #[.agg #[.int .i64 2, .int .i64 ((j : Int) + 1), .string ⟨#[]⟩], .agg #[.int .i64 x.1, .int .i64 x.2.1, .string x.2.2]]) (by simp [results, Tryz.results110, go_sem, v0, v1, v2, v3, v4, v5]) rfl ⟨rfl, HB1.out.bel⟩
end Go.Proofs.YtpmmploedkbeoaaGreatDoor

/- The pure part of a table: what is cleared; how great it becomes; when a Set has no error. -/
namespace Go.Proofs.YtpmmploedkbeoaaGreatDoor
open Go.RowKit

theorem nil_of {v : V} (h : fm v = true) (h0 : v.1 = 0) : v = nil := by
  obtain ⟨k, n, s⟩ := v
  simp only at h0
  subst h0
  have h1 : inF 0 n s = true := h
  unfold inF at h1
  simp only [if_true, Bool.and_eq_true, decide_eq_true_eq, List.isEmpty_iff] at h1
  obtain ⟨rfl, h2⟩ := h1
  have : s = ⟨#[]⟩ := bytes_iff.1 (by rw [h2]; simp [ByteArray.toList_eq])
  rw [this]; rfl
/-- The first m places are cleared. -/
def clrP (p : Pa) (m : Nat) : Pa := { p with F := fun j => if j < m ∧ j < p.n then nil else p.F j, g := { p.g with X := fun j => if p.n + j < m then nil else p.g.X j } }
theorem clr_0 (p : Pa) : clrP p 0 = p := by
  unfold clrP
  have h1 : (fun j => if j < 0 ∧ j < p.n then nil else p.F j) = p.F := by funext j; rw [if_neg (by omega)]
  have h2 : (fun j => if p.n + j < 0 then nil else p.g.X j) = p.g.X := by funext j; rw [if_neg (by omega)]
  rw [h1, h2]
theorem clr_nz (p : Pa) (m : Nat) : (clrP p m).n = p.n ∧ (clrP p m).z = p.z ∧ (clrP p m).g.f = p.g.f := ⟨rfl, rfl, rfl⟩
theorem clr_pair (p : Pa) (m : Nat) : pairK (clrP p m) m = pairK p m ∧ pairX (clrP p m) m = pairX p m := by
  unfold pairK pairX
  refine ⟨rfl, ?_⟩
  show (if m < p.n then (if m < m ∧ m < p.n then nil else p.F m) else (if p.n + (m - p.n) < m then nil else p.g.X (m - p.n))) = _
  by_cases h : m < p.n
  · rw [if_pos h, if_pos h, if_neg (by omega)]
  · rw [if_neg h, if_neg h, if_neg (by omega)]
theorem clr_skip {p : Pa} (h : TI p) {m : Nat} (hm : m < p.n + p.z) (hv : (pairX p m).1 = 0) : clrP p (m + 1) = clrP p m := by
  unfold pairX at hv
  have h1 : (fun j => if j < m + 1 ∧ j < p.n then nil else p.F j) = fun j => if j < m ∧ j < p.n then nil else p.F j := by
    funext j
    by_cases e : j = m
    · subst e
      by_cases hj : j < p.n
      · rw [if_pos hj] at hv
        rw [if_pos ⟨by omega, hj⟩, if_neg (by omega)]
        exact (nil_of (h.fv j hj) hv).symm
      · rw [if_neg (by omega), if_neg (by omega)]
    · by_cases q : j < m ∧ j < p.n
      · rw [if_pos q, if_pos ⟨by omega, q.2⟩]
      · rw [if_neg q, if_neg (by omega)]
  have h2 : (fun j => if p.n + j < m + 1 then nil else p.g.X j) = fun j => if p.n + j < m then nil else p.g.X j := by
    funext j
    by_cases e : p.n + j = m
    · subst e
      rw [if_neg (by omega), show p.n + j - p.n = j by omega] at hv
      rw [if_pos (by omega), if_neg (by omega)]
      exact (nil_of (h.xv j (by omega)) hv).symm
    · by_cases q : p.n + j < m
      · rw [if_pos q, if_pos (by omega)]
      · rw [if_neg q, if_neg (by omega)]
  unfold clrP
  rw [h1, h2]
theorem clr_A {p : Pa} {m : Nat} (hm : m < p.n) : clrP p (m + 1) = { clrP p m with F := upd (clrP p m).F m nil } := by
  have h1 : (fun j => if j < m + 1 ∧ j < p.n then nil else p.F j) = upd (fun j => if j < m ∧ j < p.n then nil else p.F j) m nil := by
    funext j
    show _ = if j = m then nil else (if j < m ∧ j < p.n then nil else p.F j)
    by_cases e : j = m
    · subst e; rw [if_pos ⟨by omega, hm⟩, if_pos rfl]
    · rw [if_neg e]
      by_cases q : j < m ∧ j < p.n
      · rw [if_pos q, if_pos ⟨by omega, q.2⟩]
      · rw [if_neg q, if_neg (by omega)]
  have h2 : (fun j => if p.n + j < m + 1 then nil else p.g.X j) = fun j => if p.n + j < m then nil else p.g.X j := by
    funext j; rw [if_neg (by omega), if_neg (by omega)]
  show ({ p with F := fun j => if j < m + 1 ∧ j < p.n then nil else p.F j, g := { p.g with X := fun j => if p.n + j < m + 1 then nil else p.g.X j } } : Pa) = { p with F := upd (fun j => if j < m ∧ j < p.n then nil else p.F j) m nil, g := { p.g with X := fun j => if p.n + j < m then nil else p.g.X j } }
  rw [h1, h2]
theorem clr_H {p : Pa} {i : Nat} : clrP p (p.n + i + 1) = { clrP p (p.n + i) with g := setX (clrP p (p.n + i)).g i nil } := by
  have h1 : (fun j => if j < p.n + i + 1 ∧ j < p.n then nil else p.F j) = fun j => if j < p.n + i ∧ j < p.n then nil else p.F j := by
    funext j
    by_cases q : j < p.n
    · rw [if_pos ⟨by omega, q⟩, if_pos ⟨by omega, q⟩]
    · rw [if_neg (by omega), if_neg (by omega)]
  have h2 : (fun j => if p.n + j < p.n + i + 1 then nil else p.g.X j) = upd (fun j => if p.n + j < p.n + i then nil else p.g.X j) i nil := by
    funext j
    show _ = if j = i then nil else (if p.n + j < p.n + i then nil else p.g.X j)
    by_cases e : j = i
    · subst e; rw [if_pos (by omega), if_pos rfl]
    · rw [if_neg e]
      by_cases q : p.n + j < p.n + i
      · rw [if_pos q, if_pos (by omega)]
      · rw [if_neg q, if_neg (by omega)]
  show ({ p with F := fun j => if j < p.n + i + 1 ∧ j < p.n then nil else p.F j, g := { p.g with X := fun j => if p.n + j < p.n + i + 1 then nil else p.g.X j } } : Pa) = { p with F := fun j => if j < p.n + i ∧ j < p.n then nil else p.F j, g := { p.g with X := upd (fun j => if p.n + j < p.n + i then nil else p.g.X j) i nil } }
  rw [h1, h2]
/-- What is there is cleared. -/
theorem clr_set {p : Pa} (h : TI p) {m : Nat} (hm : m < p.n + p.z) (hv : (pairX p m).1 ≠ 0) (t : TS) (s : H.St) (ht : t.p = clrP p m) :
    Rng (pairK p m) ∧ ∃ r, tset t s (pairK p m) nil = ({ t with p := clrP p (m + 1), pr := r }, s, 0) := by
  unfold pairX at hv
  unfold pairK
  by_cases hq : m < p.n
  · rw [if_pos hq] at hv ⊢
    have hle := h.le
    have hr : Rng (kn ((m : Int) + 1)) := by constructor <;> simp <;> omega
    refine ⟨hr, ?_⟩
    have hA : inA t.p.n (kn ((m : Int) + 1)) := by rw [ht]; exact ⟨rfl, rfl, by show 1 ≤ (m : Int) + 1; omega, by show (m : Int) + 1 ≤ (p.n : Int); omega⟩
    have hix : ix (kn ((m : Int) + 1)) = m := by show ((m : Int) + 1).toNat - 1 = m; omega
    have hp : pset t.p (kn ((m : Int) + 1)) nil = (clrP p (m + 1), 0, 0) := by
      unfold pset
      rw [if_pos hA, hix, clr_A hq, ht]
    have hf : fm (kn ((m : Int) + 1)) = true := by unfold fm inF; simp [ByteArray.toList_eq]
    refine ⟨t.pr + (0 : Nat), ?_⟩
    unfold tset one
    rw [if_neg (fun q => q ⟨hf, fm_nil⟩), if_neg (show ¬ (kn ((m : Int) + 1)).1 = 0 from (by show ¬ (2 : Int) = 0; omega)), hp, if_pos (fun e : (0 : Int) = 12 => absurd e (by decide))]
  · rw [if_neg hq] at hv ⊢
    obtain ⟨i, rfl⟩ : ∃ i, m = p.n + i := ⟨m - p.n, by omega⟩
    rw [show p.n + i - p.n = i by omega] at hv ⊢
    have hi : i < p.z := by omega
    have hK : p.g.K i ≠ nil := fun e => hv (by rw [h.inv.val i hi e]; rfl)
    have hk : KOK (p.g.K i) := (h.inv.key i hi).resolve_left hK
    have hz0 : p.z ≠ 0 := by omega
    have hpw := h.rt.resolve_left hz0
    obtain ⟨pq, _, _, _, hfind⟩ := h.inv.find_held (fun k _ => pl_lt hpw k) hi hK
    have hA : ¬ inA t.p.n (p.g.K i) := by rw [ht]; exact h.out i hi
    have hput : ∃ n', put p.z (clrP p (p.n + i)).g (p.g.K i) nil = (setX (clrP p (p.n + i)).g i nil, n', 0) := by
      refine ⟨pq.length + 1, ?_⟩
      unfold put
      rw [if_pos ⟨hk.1, fm_nil⟩, if_neg hk.2.1, if_neg hz0]
      have e : find (pl p.z) (clrP p (p.n + i)).g (p.g.K i) = find (pl p.z) p.g (p.g.K i) := rfl
      rw [e, hfind]
    obtain ⟨n', hput⟩ := hput
    have hp : pset t.p (p.g.K i) nil = (clrP p (p.n + i + 1), n', 0) := by
      unfold pset
      rw [if_neg hA, ht]
      show ({ clrP p (p.n + i) with g := (put p.z (clrP p (p.n + i)).g (p.g.K i) nil).1 }, (put p.z (clrP p (p.n + i)).g (p.g.K i) nil).2.1, (put p.z (clrP p (p.n + i)).g (p.g.K i) nil).2.2) = _
      rw [hput, clr_H]
    refine ⟨hk.2.2, t.pr + n', ?_⟩
    unfold tset one
    rw [if_neg (fun q => q ⟨hk.1, fm_nil⟩), if_neg hk.2.1, hp, if_pos (fun e : (0 : Int) = 12 => absurd e (by decide))]
theorem clr_pres (p : Pa) : pres (clrP p (p.n + p.z)) = [] := by
  have h1 : ∀ m, m ≤ p.n → kA (clrP p (p.n + p.z)).F m = [] := fun m => by
    induction m with
    | zero => intro _; rfl
    | succ m ih =>
      intro hm
      rw [kA, ih (by omega)]
      show [] ++ (if (if m < p.n + p.z ∧ m < p.n then nil else p.F m).1 = 0 then [] else _) = []
      rw [if_pos (show m < p.n + p.z ∧ m < p.n from ⟨by omega, by omega⟩), if_pos (show (nil : V).1 = 0 from rfl)]; rfl
  have h2 : ∀ m, m ≤ p.z → kH (clrP p (p.n + p.z)).g m = [] := fun m => by
    induction m with
    | zero => intro _; rfl
    | succ m ih =>
      intro hm
      rw [kH, ih (by omega)]
      show [] ++ (if (if p.n + m < p.n + p.z then nil else p.g.X m).1 = 0 then [] else _) = []
      rw [if_pos (show p.n + m < p.n + p.z by omega), if_pos (show (nil : V).1 = 0 from rfl)]; rfl
  unfold pres
  rw [show (clrP p (p.n + p.z)).n = p.n from rfl, show (clrP p (p.n + p.z)).z = p.z from rfl, h1 _ (Nat.le_refl _), h2 _ (Nat.le_refl _)]
  rfl

/-- A list without repeats is no longer than one that holds all of it. -/
theorem nd_len {α : Type} : ∀ {l l' : List α}, l.Nodup → (∀ x, x ∈ l → x ∈ l') → l.length ≤ l'.length
  | [], _, _, _ => Nat.zero_le _
  | a :: l, l', hn, hs => by
    obtain ⟨s, t, rfl⟩ := List.append_of_mem (hs a (by simp))
    have h := nd_len (l := l) (l' := s ++ t) (List.nodup_cons.1 hn).2 (fun x hx => by
      have := hs x (by simp [hx])
      have hne : x ≠ a := fun e => (List.nodup_cons.1 hn).1 (e ▸ hx)
      simp only [List.mem_append, List.mem_cons] at this ⊢
      rcases this with q | q | q
      · exact .inl q
      · exact absurd q hne
      · exact .inr q)
    simp only [List.length_append, List.length_cons] at h ⊢
    omega
theorem Fits.bound {l : List V} {A Z : Nat} (h : Fits l A Z) (hl : l.length ≤ 65536) : A ≤ 2 * l.length ∧ Z ≤ 2 * l.length := by
  have hi := ints_len l
  have hw : C.wi (ints l) A ≤ (ints l).length := by
    unfold C.wi
    have := List.countP_le_length (p := fun x => decide (1 ≤ x ∧ x ≤ (A : Int))) (l := ints l)
    omega
  have ho : outK A l ≤ l.length := List.countP_le_length
  constructor
  · by_cases h0 : A = 0
    · omega
    · have := h.dense.half (by omega); omega
  · have hu := h.up
    rcases C.up2_facts (outK A l : Nat) (by omega) (by omega) with ⟨q1, q2⟩ | ⟨q1, q2, q3, _⟩
    · rw [q2] at hu; omega
    · omega
theorem rs_ok {p : Pa} {k : V} (h : ∀ k', k' ∈ pres p ++ [k] → KOK k') (hn : (pres p ++ [k]).Nodup) (hl : (pres p ++ [k]).length ≤ 7000) : rsE p k = 0 ∧ rsA p k ≤ 14000 ∧ rsZ p k ≤ 14000 := by
  rcases cens h hn with q | ⟨q1, q2, _⟩
  · exfalso
    have hi := ints_len (pres p ++ [k])
    have hd := (C.dense_of (ints (pres p ++ [k])) (ints_fit h)).n
    unfold rsE at q
    have hw : 0 ≤ C.chN (C.cntL (ints (pres p ++ [k]))) 17 := by rw [← hd]; unfold C.wi; omega
    rcases C.szE_cases (ints (pres p ++ [k])) (oth (pres p ++ [k]) : Nat) with ⟨e, _⟩ | e
    · rw [e] at q; cases q
    · unfold C.szE C.rest at q
      split at q
      · cases q
      · split at q
        · cases q
        · split at q
          · rename_i h1; omega
          · cases q
  · have := q2.bound (by omega)
    exact ⟨q1, by omega, by omega⟩
/-- A rehash that is due has no error but the heap's. -/
theorem due_zero {t : TS} {s : H.St} {k v : V} (h : TI t.p) (hr : Rng k) (hd : Due t.p k v) (hR : (reh (one t k v) s k).2.2 = 0) : (tset t s k v).2.2 = 0 := by
  obtain ⟨d4, d5, hk0, he⟩ := (due_iff h hr).1 hd
  have hk : KOK k := ⟨d4, hk0, hr.1, hr.2⟩
  have e : (tset t s k v).2.2 = (pset (reh (one t k v) s k).1.p k v).2.2 := by
    unfold tset
    rw [if_neg (fun q => q ⟨d4, d5⟩), if_neg hk0, if_neg (fun q => q he), if_neg (fun q => q hR)]
  rw [e]
  obtain ⟨hA, hv, hv0, hnew, _, _, _, ha⟩ := h.full hk he
  have h1 : TI (one t k v).p := h.set hr hv
  have hA1 : ¬ inA (one t k v).p.n k := by show ¬ inA (pset t.p k v).1.n k; rw [(pset_nz t.p k v).1]; exact hA
  have ep : pset t.p k v = ({ t.p with g := (put t.p.z t.p.g k v).1 }, (put t.p.z t.p.g k v).2.1, (put t.p.z t.p.g k v).2.2) := by unfold pset; rw [if_neg hA]
  have hnew1 : ∀ i, i < (one t k v).p.z → (one t k v).p.g.K i ≠ k := fun i hi e => by
    have hi2 : i < t.p.z := by rw [← (pset_nz t.p k v).2]; exact hi
    have he' : (put t.p.z t.p.g k v).2.2 = 12 := by rw [ep] at he; exact he
    have e2 := (put_12 h.inv h.rt hk he').2.2.2.2.1
    have e3 : (pset t.p k v).1.g.K i = k := e
    rw [ep] at e3
    have e4 : (put t.p.z t.p.g k v).1.K i = k := e3
    rw [e2] at e4
    exact hnew i hi2 e4
  have e0 : rsE (one t k v).p k = 0 := by
    unfold reh at hR
    by_cases q : rsE (one t k v).p k = 0
    · exact q
    · rw [if_pos q] at hR; exact absurd hR q
  have e1 : (reh (one t k v) s k).1.p = fill (one t k v).p (fresh (rsA (one t k v).p k) (rsZ (one t k v).p k)) := by
    unfold reh at hR ⊢
    rw [if_neg (fun q => q e0)] at hR ⊢
    by_cases q : tpE s (rsA (one t k v).p k) (rsZ (one t k v).p k) = 0
    · rw [if_neg (fun x => x q)]
    · rw [if_pos q] at hR; exact absurd hR q
  rw [e1]
  exact (h1.behind hk hv hv0 hA1 hnew1 ha e0).2.2.2.2.2
theorem take0 {s : H.St} {n : Int} (h0 : 0 ≤ n) (h1 : n ≤ s.lim - s.live) : H.takeE s n = 0 := by
  unfold H.takeE; rw [if_neg (by omega), if_neg (by omega)]
/-- A small table on a great heap: a rehash that is due has no error. -/
theorem due_ok {t : TS} {s : H.St} {k v : V} (h : TI t.p) (hr : Rng k) (hd : Due t.p k v) (tb : TB t s 4) (iv : H.Inv 0 s) (hl : s.lim = 400000) (hn : t.p.n ≤ 2048) (hz : t.p.z ≤ 4096) : (tset t s k v).2.2 = 0 := by
  obtain ⟨d4, d5, hk0, he⟩ := (due_iff h hr).1 hd
  have hk : KOK k := ⟨d4, hk0, hr.1, hr.2⟩
  obtain ⟨_, _, _, _, _, _, hpp, ha⟩ := h.full hk he
  refine due_zero h hr hd ?_
  have hlen : (pres (one t k v).p ++ [k]).length ≤ 7000 := by
    have h1 := kA_len t.p.F t.p.n
    have h2 := kH_len t.p.g t.p.z
    have e : pres (one t k v).p = pres t.p := hpp
    rw [e, List.length_append]
    unfold pres
    rw [List.length_append]
    simp only [List.length_singleton]
    omega
  obtain ⟨r1, r2, r3⟩ := rs_ok (p := (one t k v).p) ha.ok ha.nd hlen
  have hlv := tb.live
  have t1 : H.takeE s (rsA (one t k v).p k : Nat) = 0 := take0 (by omega) (by omega)
  obtain ⟨_, a2, a3, _⟩ := blk_take iv t1
  have t2 : H.takeE (H.takeSt s (rsA (one t k v).p k : Nat)) (3 * (rsZ (one t k v).p k : Nat)) = 0 := take0 (by omega) (by omega)
  have t3 : tpE s (rsA (one t k v).p k : Nat) (rsZ (one t k v).p k : Nat) = 0 := by unfold tpE; rw [if_neg (fun q => q t1)]; exact t2
  unfold reh
  rw [if_neg (fun q => q r1), if_neg (fun q => q t3)]
/-- Where a node is free a Set has no error. -/
theorem set_room {t : TS} {s : H.St} {k v : V} (h : TI t.p) (hr : Rng k) (hk : fm k = true) (hv : fm v = true) (hk0 : k.1 ≠ 0) (hno : ¬ ∀ i, i < t.p.z → t.p.g.K i ≠ nil) : tset t s k v = (one t k v, s, 0) := by
  have hkk : KOK k := ⟨hk, hk0, hr.1, hr.2⟩
  have h12 : (pset t.p k v).2.2 ≠ 12 := fun e => hno (h.full hkk e).2.2.2.2.1
  have h0 : (pset t.p k v).2.2 = 0 := by
    unfold pset at h12 ⊢
    by_cases hA : inA t.p.n k
    · rw [if_pos hA]
    · rw [if_neg hA] at h12 ⊢
      show (put t.p.z t.p.g k v).2.2 = 0
      have h12' : (put t.p.z t.p.g k v).2.2 ≠ 12 := h12
      unfold put at h12' ⊢
      rw [if_pos ⟨hk, hv⟩, if_neg hk0] at h12' ⊢
      by_cases hz0 : t.p.z = 0
      · rw [if_pos hz0] at h12' ⊢
        by_cases hv0 : v.1 = 0
        · show (if v.1 = 0 then (0 : Int) else 12) = 0; rw [if_pos hv0]
        · exact absurd (by show (if v.1 = 0 then (0 : Int) else 12) = 12; rw [if_neg hv0]) h12'
      · rw [if_neg hz0] at h12' ⊢
        cases hf : find (pl t.p.z) t.p.g k with
        | mk o n =>
          rw [hf] at h12'
          cases o with
          | some i => rfl
          | none =>
            simp only at h12' ⊢
            by_cases hv0 : v.1 = 0
            · rw [if_pos hv0]
            · rw [if_neg hv0] at h12' ⊢
              have h12'' : full (ins (pl t.p.z) t.p.g k v).2 ≠ 12 := h12'
              show full (ins (pl t.p.z) t.p.g k v).2 = 0
              cases hb : (ins (pl t.p.z) t.p.g k v).2 with
              | true => rfl
              | false => rw [hb] at h12''; exact absurd rfl h12''
  unfold tset
  rw [if_neg (fun q => q ⟨hk, hv⟩), if_neg hk0, if_pos h12, h0]
/-- A table stays small: at most k keys are present. -/
structure Sm (t : TS) (k : Nat) : Prop where
  n : t.p.n ≤ 2048
  z : t.p.z ≤ 4096
  pr : (pres t.p).length ≤ k
theorem Sm.set {t : TS} {s : H.St} {m : Nat} {k v : V} (h : Sm t m) (hm : m ≤ 500) (ti : TI t.p) (hr : Rng k) (ti' : TI (tset t s k v).1.p) : Sm (tset t s k v).1 (m + 1) := by
  have hp : (pres (tset t s k v).1.p).length ≤ m + 1 := by
    have h1 : (pres (tset t s k v).1.p).length ≤ (k :: pres t.p).length := nd_len ti'.pres_nd (fun k' hk' => by
      obtain ⟨q1, q2⟩ := ti'.mem_pres.1 hk'
      by_cases e : k' = k
      · simp [e]
      · refine List.mem_cons_of_mem _ (ti.mem_pres.2 ⟨q1, ?_⟩)
        obtain ⟨m1, m2⟩ := tset_map (s := s) (k := k) (v := v) ti hr
        by_cases q : (tset t s k v).2.2 = 0
        · rw [(m1 q).2.2.2 k' q1 e] at q2; exact q2
        · rw [m2 q k'] at q2; exact q2)
    have := h.pr
    simp only [List.length_cons] at h1
    omega
  by_cases hd : Due t.p k v ∧ (tset t s k v).2.2 = 0
  · have hf := (set_due ti hr hd.1 hd.2 ti').1
    have := hf.bound (by omega)
    exact ⟨by omega, by omega, hp⟩
  · obtain ⟨e1, e2⟩ := set_same (s := s) ti hr hd
    exact ⟨by rw [e1]; exact h.n, by rw [e2]; exact h.z, hp⟩
end Go.Proofs.YtpmmploedkbeoaaGreatDoor

/- The walk of Make: a machine's first table, empty. -/
namespace Go.Proofs.YtpmmploedkbeoaaGreatDoor
open Go.RowKit

/-- A table as it is made: empty, on a heap of so many cells. -/
structure Ini (t : TS) (s : H.St) : Prop where
  tb : TB t s 4
  lm : s.lim = 400000
  p : t.p = fresh 0 0
  h : t.hint = 0
  r : t.pr = 0
theorem TT.cellM {No : Nat → Prop} {w : World} {T A b a S hb c : Nat} {t : TS} {s : H.St} (h : TT No w T A b a S hb c t s) {N i : Nat} (hN : No N) (v : Value) : TT No (w.setCell ⟨N, i, none⟩ v) T A b a S hb c t s := by
  have k : Keep (fun g => g ≠ N) w (w.setCell ⟨N, i, none⟩ v) := (Keep.refl _ w).set (p := ⟨N, i, none⟩) (fun q => q rfl) v
  exact (h.frame2 k.os k.tape k.output k.size (fun g hg hn => k.block g hg (fun e => hn (e ▸ hN)))).sub (fun g q => .inl q)
theorem ini_any : H.takeE (H.newSt 400000) 4 = 0 ∧ tpE (H.takeSt (H.newSt 400000) 4) ((0 : Nat) : Int) ((0 : Nat) : Int) = 0 ∧
    Ini (newT 0 0 (H.takeId (H.takeSt (H.newSt 400000) 4) ((0 : Nat) : Int)) (H.takeId (H.takeSt (H.takeSt (H.newSt 400000) 4) ((0 : Nat) : Int)) (3 * ((0 : Nat) : Int)))) (tpS (H.takeSt (H.newSt 400000) 4) ((0 : Nat) : Int) ((0 : Nat) : Int)) := by
  have iv := H.Inv.new 400000 (by omega) (by omega)
  have e1 : H.takeE (H.newSt 400000) 4 = 0 := take0 (by omega) (by show (4 : Int) ≤ 400000 - 0; omega)
  obtain ⟨a1, a2, a3, a4⟩ := blk_take iv e1
  have hl : (H.newSt 400000).live = 0 := rfl
  have hm : (H.newSt 400000).lim = 400000 := rfl
  have iv2 := iv.take 4
  generalize H.takeSt (H.newSt 400000) 4 = s at *
  have e2 : H.takeE s ((0 : Nat) : Int) = 0 := take0 (by omega) (by omega)
  obtain ⟨b1, b2⟩ := H.takeSt_bad (s := s) (n := ((0 : Nat) : Int)) (.inr rfl)
  have z0 : 3 * ((0 : Nat) : Int) = ((0 : Nat) : Int) := rfl
  have e3 : tpE s ((0 : Nat) : Int) ((0 : Nat) : Int) = 0 := by
    unfold tpE; rw [if_neg (fun q => q e2), b1, z0]; exact e2
  have e4 : tpS s ((0 : Nat) : Int) ((0 : Nat) : Int) = s := by
    rcases tp_cases s ((0 : Nat) : Int) ((0 : Nat) : Int) with ⟨q, _⟩ | ⟨_, q, _⟩ | ⟨_, _, _, q⟩
    · exact absurd e2 q
    · rw [b1, z0] at q; exact absurd e2 q
    · rw [q, b1, z0, b1]
  refine ⟨e1, e3, ?_⟩
  rw [e4, b2, b1, z0, b2]
  exact ⟨⟨.inl ⟨rfl, rfl⟩, .inl ⟨rfl, rfl⟩, fun _ => rfl, by rw [a2, hl]; rfl⟩, by rw [a3, hm], rfl, rfl, rfl⟩
/-- A machine without a table. -/
structure M0 (No : Nat → Prop) (w : World) (M S hb c : Nat) : Prop where
  mc : Mc w M S (.slice none 0 0)
  hp : ∃ vb, H.Hp No w S hb c vb (H.newSt 400000)
  nM : No M
theorem M0.below {No : Nat → Prop} {w w' : World} {M S hb c : Nat} (h : M0 No w M S hb c) (k : Below w.heap.size w w') : M0 No w' M S hb c := by
  obtain ⟨vb, q⟩ := h.hp
  exact ⟨h.mc.below k, ⟨vb, q.below k⟩, h.nM⟩
set_option maxRecDepth 20000 in
set_option maxHeartbeats 4000000 in
theorem make_any {No : Nat → Prop} {w : World} {M S hb c : Nat} (h : M0 No w M S hb c) (hc : c ≤ 1000) :
    Calls Tryz.prog 37 #[.pointer (some ⟨M, 0, none⟩), .int .i64 0, .int .i64 0] w fun e w' => e = .returned (.tuple #[.agg #[.int .i64 4, .int .i64 1, .string ⟨#[]⟩], .int .i64 0]) ∧ (∃ t s No2, Ini t s ∧ Mt No2 w' M S hb (c + 3) t s ∧ ∀ g, No g → No2 g) ∧ Keep (fun g => No g ∧ g ≠ M) w w' := by
  obtain ⟨vb, hp⟩ := h.hp
  obtain ⟨i1, i2, i3⟩ := ini_any
  have B0 := b1 w (.cells #[.int .i64 0, .int .i64 0, .string ⟨#[]⟩] 37)
  have R0 : R3 (w.alloc (.cells #[.int .i64 0, .int .i64 0, .string ⟨#[]⟩] 37)) w.heap.size nil := R3.made w nil
  have hp0 := Hp.news hp B0
  have mc0 := h.mc.below B0
  obtain ⟨W0, hW0⟩ : ∃ W0, w.alloc (.cells #[.int .i64 0, .int .i64 0, .string ⟨#[]⟩] 37) = W0 := ⟨_, rfl⟩
  rw [hW0] at B0 R0 hp0 mc0
  have C1 := new_good hp0 (by omega) (H.Inv.new 400000 (by omega) (by omega)) 0 0 0 (by omega) (by omega) (by kernel_rfl) (.inl rfl) i1 i2
  obtain ⟨t0, ht0⟩ : ∃ t, newT 0 0 (H.takeId (H.takeSt (H.newSt 400000) 4) ((0 : Nat) : Int)) (H.takeId (H.takeSt (H.takeSt (H.newSt 400000) 4) ((0 : Nat) : Int)) (3 * ((0 : Nat) : Int))) = t := ⟨_, rfl⟩
  obtain ⟨s0, hs0⟩ : ∃ s, tpS (H.takeSt (H.newSt 400000) 4) ((0 : Nat) : Int) ((0 : Nat) : Int) = s := ⟨_, rfl⟩
  rw [ht0, hs0] at C1 i3
  have c1 := mc0.c1
  have HM0 : Hid (Mc W0 M S (.slice none 0 0) ∧ No M ∧ R3 W0 w.heap.size nil ∧ Below w.heap.size w W0 ∧ ∀ g, No g → g < w.heap.size) := ⟨mc0, h.nM, R0, B0, fun g q => hp.nos g q⟩
  have HI : Hid (Ini t0 s0) := i3
  clear hp hp0 i1 i2 i3 h B0 R0 mc0 ht0 hs0
  go_enter Tryz.func37, Tryz.ntmps37
  go_wp2_with fail
  refine C1.mono ?_; rintro e w1 ⟨T, A, b, a, rfl, t1, k1⟩
  have HT1 : Hid (TT (fun g => No g ∨ (w.heap.size ≤ g ∧ g < W0.heap.size)) w1 T A b a S hb (c + 3) t0 s0 ∧ Keep (fun g => No g ∨ (w.heap.size ≤ g ∧ g < W0.heap.size)) W0 w1) := ⟨t1, k1⟩
  have mc1 := HM0.out.1.kept k1 (.inl HM0.out.2.1)
  have r1 := HM0.out.2.2.1.kept k1 (.inr ⟨Nat.le_refl _, HM0.out.2.2.1.bx.lt⟩)
  obtain ⟨G, cap, w2, hr, b2, hG1, hG2, hG3⟩ := app_tab w1 T
  have mc2 := mc1.below b2
  have r2 := r1.below b2
  have d2 := mc1.c2
  have d2' := mc2.c2
  have fz := mc2.fz 2
  have d2t : (w1.alloc (.cells #[.pointer (some ⟨T, 0, none⟩)] 90)).cell? ⟨M, 2, none⟩ = some (.slice none 0 0) := (mc1.below (b1 w1 _)).c2
  obtain ⟨w3, hw3⟩ : ∃ w3, w2.setCell ⟨M, 2, none⟩ (.slice (some ⟨G, 0, none⟩) 1 cap) = w3 := ⟨_, rfl⟩
  have mc3 : Mc w3 M S (.slice (some ⟨G, 0, none⟩) 1 cap) := by
    rw [← hw3]
    exact ⟨by rw [World.cell?_setCell_other _ _ _ _ (by simp)]; exact mc2.c0, by rw [World.cell?_setCell_other _ _ _ _ (by simp)]; exact mc2.c1, World.cell?_setCell_same _ _ _ mc2.c2, by rw [World.cell?_setCell_other _ _ _ _ (by simp)]; exact mc2.c3, fun j => by rw [World.frozen?_setCell]; exact mc2.fz j, by simpa [World.setCell] using mc2.lt⟩
  have k3 : Keep (fun g => g ≠ M) w2 w3 := by rw [← hw3]; exact (Keep.refl _ w2).set (p := ⟨M, 2, none⟩) (fun q => q rfl) _
  have hne : w.heap.size ≠ M := fun q => by have := HM0.out.2.2.2.2 _ HM0.out.2.1; omega
  have r3 := r2.kept k3 hne
  have e2 := mc3.c2
  have C26 := val26 4 1 w3
  have t3 := (t1.news b2).cellM (N := M) (i := 2) (.inl (.inl HM0.out.2.1)) (.slice (some ⟨G, 0, none⟩) 1 cap)
  rw [hw3] at t3
  have hGM : G ≠ M := fun q => by have := mc1.lt; omega
  have g3 : w3.cell? ⟨G, 0, none⟩ = some (.pointer (some ⟨T, 0, none⟩)) := by rw [World.cell?_of_block (w := w2) (k3.block G hG2 hGM)]; exact hG3
  have HK3 : Hid (Keep (fun g => No g ∧ g ≠ M) w w3) := (((Keep.of HM0.out.2.2.2.1).trans (k1.sub (fun g q => .inl q.1))).bel b2).trans (k3.sub (fun g q => q.2))
  have H3 : Hid (TT (fun g => (No g ∨ (w.heap.size ≤ g ∧ g < W0.heap.size)) ∨ (w1.heap.size ≤ g ∧ g < w2.heap.size)) w3 T A b a S hb (c + 3) t0 s0 ∧ Mc w3 M S (.slice (some ⟨G, 0, none⟩) 1 cap) ∧ w3.cell? ⟨G, 0, none⟩ = some (.pointer (some ⟨T, 0, none⟩)) ∧ R3 w3 w.heap.size nil ∧ (w1.heap.size ≤ G ∧ G < w2.heap.size) ∧ w.heap.size < W0.heap.size ∧ W0.heap.size ≤ w1.heap.size) := ⟨t3, mc3, g3, r3, ⟨hG1, hG2⟩, HM0.out.2.2.1.bx.lt, k1.size⟩
  unfold vl at C26
  clear C1 t1 k1 mc1 mc2 mc3 b2 r1 r2 t3 k3 hG1 hG2 hG3 g3 r3 hW0
  go_wp2_with (at_builtin; refine wp_app rfl _ _ 55 rfl 55 rfl _ _ rfl rfl hr ?_)
  refine C26.mono ?_; rintro e w4 ⟨rfl, b4⟩
  have r4 := H3.out.2.2.2.1.below b4
  have HK5 : Hid (Keep (fun g => No g ∧ g ≠ M) w (set3 w4 w.heap.size (4, 1, ⟨#[]⟩))) := (HK3.out.bel b4).set3 (fun q => by have := HM0.out.2.2.2.2 _ q.1; omega) _
  have HR5 : Hid (R3 (set3 w4 w.heap.size (4, 1, ⟨#[]⟩)) w.heap.size (4, 1, ⟨#[]⟩)) := r4.set _
  have HT5 : Hid (TT (fun g => (No g ∨ (w.heap.size ≤ g ∧ g < W0.heap.size)) ∨ (w1.heap.size ≤ g ∧ g < w2.heap.size)) (set3 w4 w.heap.size (4, 1, ⟨#[]⟩)) T A b a S hb (c + 3) t0 s0 ∧ Mc (set3 w4 w.heap.size (4, 1, ⟨#[]⟩)) M S (.slice (some ⟨G, 0, none⟩) 1 cap) ∧ (set3 w4 w.heap.size (4, 1, ⟨#[]⟩)).cell? ⟨G, 0, none⟩ = some (.pointer (some ⟨T, 0, none⟩))) := by
    have k4 : Keep (fun g => g ≠ w.heap.size) w4 (set3 w4 w.heap.size (4, 1, ⟨#[]⟩)) := (Keep.refl _ w4).set3 (fun q => q rfl) _
    have hg : G < w4.heap.size := by have := H3.out.2.2.2.2.1.2; have := HK3.out.size; exact Nat.lt_of_lt_of_le (World.block_lt_of_cell? w3 _ H3.out.2.2.1) b4.size
    have hgN : G ≠ w.heap.size := by have := H3.out.2.2.2.2.1.1; have := H3.out.2.2.2.2.2.1; have := H3.out.2.2.2.2.2.2; omega
    refine ⟨(H3.out.1.below b4).set3 (.inl (.inr ⟨Nat.le_refl _, H3.out.2.2.2.2.2.1⟩)) _, (H3.out.2.1.below b4).kept k4 (fun q => hne q.symm), ?_⟩
    rw [World.cell?_of_block (w := w4) (k4.block G hg hgN)]
    exact (b4.cell (p := ⟨G, 0, none⟩) (World.block_lt_of_cell? w3 _ H3.out.2.2.1)).trans H3.out.2.2.1
  obtain ⟨W5, hW5⟩ : ∃ W5, set3 w4 w.heap.size (4, 1, ⟨#[]⟩) = W5 := ⟨_, rfl⟩
  rw [hW5] at HK5 HR5 HT5
  unfold set3 at hW5
  have n0 := r4.bx.c0
  have n1 := r4.bx.c1
  have n2 := r4.bx.c2
  have nf := r4.fz
  unfold nil at n0 n1 n2
  clear C26 b4 r4 HK3 hr d2 d2' d2t fz e2 hw3
  go_wp2_with fail
  have R5 := HR5.out.bx
  have q0 := R5.c0
  have q1 := R5.c1
  have q2 := R5.c2
  clear R5
  exact bodyPost_ret (v := .tuple #[.agg #[.int .i64 4, .int .i64 1, .string ⟨#[]⟩], .int .i64 0]) (by simp [results, Tryz.results37, go_sem, q0, q1, q2]) rfl ⟨rfl, ⟨_, _, _, HI.out, ⟨G, cap, T, A, b, a, HT5.out.2.1, HT5.out.2.2, HT5.out.1, .inl (.inl HM0.out.2.1), .inr H3.out.2.2.2.2.1⟩, fun g q => .inl (.inl q)⟩, HK5.out⟩
end Go.Proofs.YtpmmploedkbeoaaGreatDoor
