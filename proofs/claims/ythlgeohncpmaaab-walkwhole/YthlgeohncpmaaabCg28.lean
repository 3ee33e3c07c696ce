/- What WalkLists wants besides: where a key stands, six cells stored, pairs held against one another. -/
import Derived.Test.YthlgeohncpmaaabCg26
namespace Go.Proofs.Ythlgeohncpmaaab
open Go.RowKit

/-- The key k stands at the place pos (Nil ahead of all places). -/
def Kpos (p : Pa) (pos : Nat) (k : V) : Prop := (k = nil ∧ pos = 0) ∨ (fm k = true ∧ k.1 ≠ 0 ∧ plc p k = (pos : Int) ∧ pos ≠ 0 ∧ Rng k)
theorem Kpos.rng {p : Pa} {pos : Nat} {k : V} (h : Kpos p pos k) : Rng k := by
  rcases h with ⟨rfl, _⟩ | ⟨_, _, _, _, h⟩
  · constructor <;> simp [nil]
  · exact h
theorem Kpos.next {p : Pa} {pos : Nat} {k : V} (h : Kpos p pos k) : wnx p k = ((pnx p pos).1, (pnx p pos).2, 0) := by
  unfold wnx
  rcases h with ⟨rfl, rfl⟩ | ⟨h1, h2, h3, h4, _⟩
  · rw [if_neg (by rw [fm_nil]; simp), if_pos (show nil.1 = 0 from rfl)]
  · rw [if_neg (by rw [h1]; simp), if_neg h2, if_neg (by rw [h3]; omega), h3]
    simp
/-- Behind a place: the first of what is left, and where it stands. -/
theorem left_cons {p : Pa} (ti : TI p) {pos : Nat} {x : V × V} {l : List (V × V)} (hp : pos ≤ p.n + p.z) (h : x :: l = lsF p (p.n + p.z - pos) (pos + 1)) :
    pnx p pos = x ∧ ∃ j, j ≤ p.n + p.z ∧ Kpos p j x.1 ∧ l = lsF p (p.n + p.z - j) (j + 1) ∧ pget p x.1 = x.2 := by
  obtain ⟨a, j, h1, h2, h3, h4, h5⟩ := lsF_cons h.symm
  obtain ⟨q1, q2, q3, q4, q5⟩ := plc_prO ti (i := j) (by omega) (by omega) h4
  rw [← h3] at q1 q2 q3 q4 q5
  refine ⟨a, j, by omega, .inr ⟨q2, q3, q1, by omega, q5⟩, ?_, q4⟩
  rw [h5]; congr 1; omega
theorem left_nil {p : Pa} {pos : Nat} (h : [] = lsF p (p.n + p.z - pos) (pos + 1)) : pnx p pos = (nil, nil) := lsF_nil h.symm
theorem TT.setc {No : Nat → Prop} {w : World} {T A b a S hb c : Nat} {t : TS} {s : H.St} (h : TT No w T A b a S hb c t s) {N : Nat} (hN : No N) (i : Nat) (v : Value) : TT No (w.setCell ⟨N, i, none⟩ v) T A b a S hb c t s := by
  obtain ⟨vb, hp⟩ := h.hp
  have k : Keep (fun g => g ≠ N) w (w.setCell ⟨N, i, none⟩ v) := (Keep.refl _ w).set (p := ⟨N, i, none⟩) (fun q => q rfl) v
  exact ⟨h.tm.kept k (fun e => h.nT (e ▸ hN)) (fun e => h.nA (e ▸ hN)) (fun e => h.nb (e ▸ hN)) (fun e => h.na (e ▸ hN)), ⟨vb, hp.sets N i v (.inl hN)⟩, h.nT, h.nA, h.nb, h.na, h.ti, h.iv, h.p0, h.p1⟩
abbrev set6 (w : World) (g o : Nat) (x : V × V) : World := (((((w.setCell ⟨g, o, none⟩ (.int .i64 x.1.1)).setCell ⟨g, o + 1, none⟩ (.int .i64 x.1.2.1)).setCell ⟨g, o + 2, none⟩ (.string x.1.2.2)).setCell ⟨g, o + 3, none⟩ (.int .i64 x.2.1)).setCell ⟨g, o + 4, none⟩ (.int .i64 x.2.2.1)).setCell ⟨g, o + 5, none⟩ (.string x.2.2.2)
theorem set6_other (w : World) (g o : Nat) (x : V × V) (j : Nat) (hj : j < o ∨ o + 6 ≤ j) : (set6 w g o x).cell? ⟨g, j, none⟩ = w.cell? ⟨g, j, none⟩ := by
  have ne : ∀ (i : Nat) (W : World) (v : Value), i ≠ j → (W.setCell ⟨g, i, none⟩ v).cell? ⟨g, j, none⟩ = W.cell? ⟨g, j, none⟩ := fun i W v hij => World.cell?_setCell_other _ _ _ _ (fun q => by injection q with _ q2; omega)
  unfold set6
  rw [ne _ _ _ (by omega), ne _ _ _ (by omega), ne _ _ _ (by omega), ne _ _ _ (by omega), ne _ _ _ (by omega), ne _ _ _ (by omega)]
theorem set6_keep (w : World) (g o : Nat) (x : V × V) : Keep (fun k => k ≠ g) w (set6 w g o x) := by
  have k0 : Keep (fun k => k ≠ g) w w := Keep.refl _ w
  exact (((((k0.set (p := ⟨g, o, none⟩) (fun q => q rfl) _).set (p := ⟨g, o + 1, none⟩) (fun q => q rfl) _).set (p := ⟨g, o + 2, none⟩) (fun q => q rfl) _).set (p := ⟨g, o + 3, none⟩) (fun q => q rfl) _).set (p := ⟨g, o + 4, none⟩) (fun q => q rfl) _).set (p := ⟨g, o + 5, none⟩) (fun q => q rfl) _
theorem set6_tt {No : Nat → Prop} {w : World} {T A b a S hb c : Nat} {t : TS} {s : H.St} (h : TT No w T A b a S hb c t s) {g : Nat} (hg : No g) (o : Nat) (x : V × V) : TT No (set6 w g o x) T A b a S hb c t s :=
  ((((((h.setc hg _ _).setc hg _ _).setc hg _ _).setc hg _ _).setc hg _ _).setc hg _ _)
theorem under45 : Try.prog.underlying 45 = some (.struct (Try.prog.fieldsOf 45)) := by kernel_rfl
theorem stood45 : Try.prog.stoodInHeld 45 = false := by kernel_rfl
theorem neq45 (x : V × V) (W : World) : (binOp .neq 45 (.agg #[.int .i64 x.1.1, .int .i64 x.1.2.1, .string x.1.2.2, .int .i64 x.2.1, .int .i64 x.2.2.1, .string x.2.2.2]) (.agg #[.int .i64 x.1.1, .int .i64 x.1.2.1, .string x.1.2.2, .int .i64 x.2.1, .int .i64 x.2.2.1, .string x.2.2.2])).run Try.prog W = .ok (.bool false) W := by
  rw [run_neq_struct, run_equalIn_agg W _ _ _ _ under45 stood45]
  simp [go_sem]
end Go.Proofs.Ythlgeohncpmaaab

/- What WalkLists wants besides, on: the two lists as its loop finds them. -/
namespace Go.Proofs.Ythlgeohncpmaaab
open Go.RowKit

theorem row_fz {w : World} {base : Nat} {v : Value} {k : Nat} {xs : List Value} (h : w.ownsRow base 45 6 v k xs) : ∀ g, v.ownBlock = some g → ∀ j, w.frozen? ⟨g, j, none⟩ = false := fun g hg j => by
  rcases h.2 with ⟨rfl, _⟩ | ⟨g', cap, cur, rfl, _, hb, _⟩
  · simp [Value.ownBlock] at hg
  · obtain rfl : g' = g := by simpa [Value.ownBlock] using hg
    simp [World.frozen?, hb]
/-- Six cells of a pair. -/
def C6 (w : World) (g o : Nat) (x : V × V) : Prop := w.cell? ⟨g, o, none⟩ = some (.int .i64 x.1.1) ∧ w.cell? ⟨g, o + 1, none⟩ = some (.int .i64 x.1.2.1) ∧ w.cell? ⟨g, o + 2, none⟩ = some (.string x.1.2.2) ∧ w.cell? ⟨g, o + 3, none⟩ = some (.int .i64 x.2.1) ∧ w.cell? ⟨g, o + 4, none⟩ = some (.int .i64 x.2.2.1) ∧ w.cell? ⟨g, o + 5, none⟩ = some (.string x.2.2.2)
theorem C6.kept {Ks : Nat → Prop} {w w' : World} {g o : Nat} {x : V × V} (h : C6 w g o x) (k : Keep Ks w w') (hg : Ks g) : C6 w' g o x := by
  have e := k.block g (World.block_lt_of_cell? w _ h.1) hg
  exact ⟨by rw [World.cell?_of_block (w := w) e]; exact h.1, by rw [World.cell?_of_block (w := w) e]; exact h.2.1, by rw [World.cell?_of_block (w := w) e]; exact h.2.2.1, by rw [World.cell?_of_block (w := w) e]; exact h.2.2.2.1, by rw [World.cell?_of_block (w := w) e]; exact h.2.2.2.2.1, by rw [World.cell?_of_block (w := w) e]; exact h.2.2.2.2.2⟩
/-- The two lists and the key's box, as the loop finds them. -/
structure Li (w : World) (l : List (V × V)) (i g1 g2 kb : Nat) (kk : V) : Prop where
  r1 : ∀ j x, i ≤ j → l[j]? = some x → C6 w g1 (j * 6) x
  r2 : ∀ j x, l[j]? = some x → C6 w g2 (j * 6) x
  fz : ∀ j, w.frozen? ⟨g1, j, none⟩ = false
  lt : g1 < w.heap.size
  kx : R3 w kb kk
theorem Li.kept {Ks : Nat → Prop} {w w' : World} {l : List (V × V)} {i g1 g2 kb : Nat} {kk : V} (h : Li w l i g1 g2 kb kk) (k : Keep Ks w w') (h1 : Ks g1) (h2 : Ks g2) (h3 : Ks kb) : Li w' l i g1 g2 kb kk :=
  ⟨fun j x hj hx => (h.r1 j x hj hx).kept k h1, fun j x hx => (h.r2 j x hx).kept k h2, fun j => by rw [World.frozen?_of_block (w := w) (k.block g1 h.lt h1)]; exact h.fz j, Nat.lt_of_lt_of_le h.lt k.size, h.kx.kept k h3⟩
/-- Behind a round: the key is the new one, the pair in the first list is overwritten. -/
theorem Li.step {w W1 : World} {l : List (V × V)} {i g1 g2 kb : Nat} {kk y : V} (h : Li w l i g1 g2 kb kk) (h12 : g1 ≠ g2) (h1k : g1 ≠ kb) (h2k : g2 ≠ kb) (hb : Below (set3 w kb y).heap.size (set3 w kb y) W1) (z : V × V) : Li (set6 W1 g1 (i * 6) z) l (i + 1) g1 g2 kb y := by
  have k1 : Keep (fun g => g ≠ kb) w (set3 w kb y) := (Keep.refl _ w).set3 (fun q => q rfl) y
  have k2 : Keep (fun _ => True) (set3 w kb y) W1 := Keep.of hb
  have k3 := set6_keep W1 g1 (i * 6) z
  have ka : Keep (fun g => g ≠ kb) w W1 := k1.trans (k2.sub (fun _ _ => trivial))
  refine ⟨fun j x hj hx => ?_, fun j x hx => ((h.r2 j x hx).kept ka (fun e => h2k e)).kept k3 (fun e => h12 e.symm), fun j => ?_, ?_, ((h.kx.set y).kept k2 trivial).kept k3 (fun e => h1k e.symm)⟩
  · obtain ⟨c0, c1, c2, c3, c4, c5⟩ := (h.r1 j x (by omega) hx).kept ka (fun e => h1k e)
    exact ⟨by rw [set6_other _ _ _ _ _ (by omega)]; exact c0, by rw [set6_other _ _ _ _ _ (by omega)]; exact c1, by rw [set6_other _ _ _ _ _ (by omega)]; exact c2, by rw [set6_other _ _ _ _ _ (by omega)]; exact c3, by rw [set6_other _ _ _ _ _ (by omega)]; exact c4, by rw [set6_other _ _ _ _ _ (by omega)]; exact c5⟩
  · have e := ka.block g1 h.lt (fun e => h1k e)
    unfold set6
    simp only [World.frozen?_setCell]
    rw [World.frozen?_of_block (w := w) e]; exact h.fz j
  · have := k3.size
    have := ka.size
    have := h.lt
    omega
theorem Ws.set6 {P : Nat → Prop} {W w : World} {X : Nat} {xs : Value} {T S hb c : Nat} {t : TS} {s : H.St} (h : Ws P W w X xs none T S hb c t s) {g : Nat} (hg : P g) (hX : X < g) (o : Nat) (x : V × V) : Ws P W (Proofs.Ythlgeohncpmaaab.set6 w g o x) X xs none T S hb c t s := by
  obtain ⟨A, b, a, ht⟩ := h.tt
  have k := set6_keep w g o x
  have ht' := set6_tt ht hg o x
  obtain ⟨W', hW'⟩ : ∃ W', Proofs.Ythlgeohncpmaaab.set6 w g o x = W' := ⟨_, rfl⟩
  rw [hW'] at k ht' ⊢
  exact ⟨⟨A, b, a, ht'⟩, h.lo, (fun _ e => by cases e), h.bel.trans (k.below (Nat.le_of_lt h.sz) (fun g' hg' => by show g' ≠ g; omega)), by rw [World.cell?_of_block (w := w) (k.block X h.sz (by show X ≠ g; omega))]; exact h.xc, Nat.lt_of_lt_of_le h.sz k.size⟩
theorem Ws.set3 {P : Nat → Prop} {W w : World} {X : Nat} {xs : Value} {T S hb c : Nat} {t : TS} {s : H.St} (h : Ws P W w X xs none T S hb c t s) {g : Nat} (hg : P g) (hX : X < g) (y : V) : Ws P W (Proofs.Ythlgeohncpmaaab.set3 w g y) X xs none T S hb c t s := by
  obtain ⟨A, b, a, ht⟩ := h.tt
  have k : Keep (fun g' => g' ≠ g) w (Proofs.Ythlgeohncpmaaab.set3 w g y) := (Keep.refl _ w).set3 (fun q => q rfl) y
  exact ⟨⟨A, b, a, ht.set3 hg y⟩, h.lo, (fun _ e => by cases e), h.bel.trans (k.below (Nat.le_of_lt h.sz) (fun g' hg' => by show g' ≠ g; omega)), by rw [World.cell?_of_block (w := w) (k.block X h.sz (by show X ≠ g; omega))]; exact h.xc, Nat.lt_of_lt_of_le h.sz k.size⟩

end Go.Proofs.Ythlgeohncpmaaab
