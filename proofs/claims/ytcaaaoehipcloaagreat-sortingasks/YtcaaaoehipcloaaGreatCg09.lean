/- The reference's heap in memory; the walks of its Live, Laid, Spend, Give. -/
import Derived.Test.YtcaaaoehipcloaaGreatCg08
import Derived.Deep.QuietTactic
import Derived.BigQuiet
namespace Go.Proofs.YtcaaaoehipcloaaGreat.H
open Go.RowKit

/-- The reference's heap as plain data; a block: its cells, and when it was given back. -/
structure Rs where
  lim : Int
  sp : Int
  ck : Int
  all : List (Int × Int)
def rcells (l : List (Int × Int)) : List Value := l.flatMap fun p => [.int .i64 p.1, .int .i64 p.2]
theorem rcells_len (l : List (Int × Int)) : (rcells l).length = l.length * 2 := by
  induction l with
  | nil => rfl
  | cons p l ih => simp [rcells] at ih ⊢; omega
theorem rcells_app (l m : List (Int × Int)) : rcells (l ++ m) = rcells l ++ rcells m := by simp [rcells]
theorem rcells_get (l : List (Int × Int)) (i : Nat) (h : i < l.length) : (rcells l)[i * 2]? = some (.int .i64 (l[i]'h).1) ∧ (rcells l)[i * 2 + 1]? = some (.int .i64 (l[i]'h).2) := by
  induction l generalizing i with
  | nil => simp at h
  | cons p l ih =>
    cases i with
    | zero => simp [rcells]
    | succ i =>
      have := ih i (by simpa using h)
      simp only [rcells, List.flatMap_cons, List.getElem_cons_succ] at this ⊢
      rw [show (i + 1) * 2 = i * 2 + 2 by omega]
      simpa using this
def setG (l : List (Int × Int)) (i : Nat) (t : Int) : List (Int × Int) := l.set i ((l.getD i (0, 0)).1, t)
theorem setG_len (l : List (Int × Int)) (i : Nat) (t : Int) : (setG l i t).length = l.length := by simp [setG]
theorem setG_eq (l : List (Int × Int)) (i : Nat) (h : i < l.length) (t : Int) : setG l i t = l.set i ((l[i]'h).1, t) := by
  unfold setG
  rw [List.getD, List.getElem?_eq_getElem h]
  rfl
theorem rcells_set (l : List (Int × Int)) (i : Nat) (h : i < l.length) (t : Int) : (rcells l).set (i * 2 + 1) (.int .i64 t) = rcells (setG l i t) := by
  rw [setG_eq l i h]
  induction l generalizing i with
  | nil => simp at h
  | cons p l ih =>
    cases i with
    | zero => simp [rcells]
    | succ i =>
      have := ih i (by simpa using h)
      simp only [rcells, List.flatMap_cons, List.getElem_cons_succ, List.set_cons_succ] at this ⊢
      rw [show (i + 1) * 2 + 1 = i * 2 + 1 + 2 by omega]
      simpa using this

structure Rp (No : Nat → Prop) (w : World) (S c : Nat) (va : Value) (r : Rs) : Prop where
  str : w.heap[S]? = some (.cells #[.int .i64 r.lim, .int .i64 r.sp, .int .i64 r.ck, va] 55 (0, 0))
  row : w.ownsRow 0 109 2 va r.all.length (rcells r.all)
  len : r.all.length ≤ c
  noS : ¬ No S
  nov : ∀ g, va.ownBlock = some g → ¬ No g
  nos : ∀ g, No g → g < w.heap.size
theorem Rp.apart {No : Nat → Prop} {w : World} {S c : Nat} {va : Value} {r : Rs} (h : Rp No w S c va r) : va.ownBlock ≠ some S ∧ S < w.heap.size := by
  refine ⟨fun e => ?_, (Array.getElem?_eq_some_iff.1 h.str).1⟩
  rcases h.row.2 with ⟨e1, _⟩ | ⟨g', cap', cur, e1, _, hh, _⟩
  · rw [e1] at e; cases e
  · rw [e1] at e
    injection e with e
    subst e
    rw [h.str] at hh
    injection hh with hh
    injection hh with _ hh _
    cases hh
/-- Over whatever leaves its two blocks alone. -/
theorem Rp.far {No No' : Nat → Prop} {w w' : World} {S c c' : Nat} {va : Value} {r : Rs} (h : Rp No w S c va r) (hS : w'.heap[S]? = w.heap[S]?) (hv : ∀ g, va.ownBlock = some g → w'.heap[g]? = w.heap[g]?) (hc : c ≤ c') (hn : ∀ g, No' g → g < w'.heap.size ∧ g ≠ S ∧ va.ownBlock ≠ some g) : Rp No' w' S c' va r := by
  refine ⟨hS.trans h.str, ⟨h.row.1, ?_⟩, Nat.le_trans h.len hc, fun q => (hn S q).2.1 rfl, fun g e q => (hn g q).2.2 e, fun g q => (hn g q).1⟩
  rcases h.row.2 with q | ⟨g, cap, cur, q, q1, q2, q3⟩
  · exact .inl q
  · exact .inr ⟨g, cap, cur, q, q1, (hv g (by rw [q]; rfl)).trans q2, q3⟩
theorem Rp.below {No : Nat → Prop} {w w' : World} {S c : Nat} {va : Value} {r : Rs} (h : Rp No w S c va r) (hb : Below w.heap.size w w') : Rp No w' S c va r :=
  h.far (hb.block S h.apart.2) (fun g e => hb.block g (h.row.lt g e).2) (Nat.le_refl _) (fun g q => ⟨Nat.lt_of_lt_of_le (h.nos g q) hb.size, fun e => h.noS (e ▸ q), fun e => h.nov g e q⟩)
theorem Rp.drew {No : Nat → Prop} {w : World} {S c : Nat} {va : Value} {r : Rs} (h : Rp No w S c va r) : Rp No w.drew S c va r := ⟨h.str, h.row, h.len, h.noS, h.nov, h.nos⟩
theorem Rp.drewN {No : Nat → Prop} {w : World} {S c : Nat} {va : Value} {r : Rs} (h : Rp No w S c va r) (n : Nat) : Rp No (w.drewN n) S c va r := ⟨h.str, h.row, h.len, h.noS, h.nov, h.nos⟩
theorem Rp.more {No : Nat → Prop} {w : World} {S c c' : Nat} {va : Value} {r : Rs} (h : Rp No w S c va r) (hc : c ≤ c') : Rp No w S c' va r := ⟨h.str, h.row, Nat.le_trans h.len hc, h.noS, h.nov, h.nos⟩
theorem Keep.drewN {No : Nat → Prop} {w w' : World} (h : Keep No w w') (n : Nat) : Keep No w (w'.drewN n) := ⟨h.os, h.tape, h.output, h.size, h.block⟩
section
variable {No : Nat → Prop} {w : World} {S c : Nat} {va : Value} {r : Rs}
theorem Rp.c0 (h : Rp No w S c va r) : w.cell? ⟨S, 0, none⟩ = some (.int .i64 r.lim) := cell_row h.str 0
theorem Rp.c1 (h : Rp No w S c va r) : w.cell? ⟨S, 1, none⟩ = some (.int .i64 r.sp) := cell_row h.str 1
theorem Rp.c2 (h : Rp No w S c va r) : w.cell? ⟨S, 2, none⟩ = some (.int .i64 r.ck) := cell_row h.str 2
theorem Rp.c3 (h : Rp No w S c va r) : w.cell? ⟨S, 3, none⟩ = some va := cell_row h.str 3
theorem Rp.fr (h : Rp No w S c va r) (i : Nat) : w.frozen? ⟨S, i, none⟩ = false := free_row h.str i
theorem Rp.form (h : Rp No w S c va r) (hl : 0 < r.all.length) : ∃ g cap, va = .slice (some ⟨g, 0, none⟩) r.all.length cap := by
  obtain ⟨g, cap, q, _⟩ := h.row.form hl
  exact ⟨g, cap, q⟩
/-- The cells of the blocks, by an address that is known as soon as there is one. -/
theorem Rp.cells (h : Rp No w S c va r) : ∃ a cap, va = .slice a r.all.length cap ∧ r.all.length ≤ cap ∧ ∀ i, i < r.all.length → ∃ g, a = some ⟨g, 0, none⟩ ∧ g ≠ S ∧ w.cell? ⟨g, i * 2, none⟩ = some (.int .i64 (r.all.getD i (0, 0)).1) ∧ w.cell? ⟨g, i * 2 + 1, none⟩ = some (.int .i64 (r.all.getD i (0, 0)).2) ∧ ∀ j, w.frozen? ⟨g, j, none⟩ = false := by
  obtain ⟨a, cap, e, hcap⟩ := slice_of h.row
  refine ⟨a, cap, e, hcap, fun i hi => ?_⟩
  obtain ⟨g, cap', q⟩ := h.form (by omega)
  have hg := h.apart.1
  rw [e] at q
  injection q with q1 _ q3
  subst q1 q3
  have hb := rcells_get r.all i hi
  have hrow := h.row
  rw [e] at hrow hg
  rw [List.getD, List.getElem?_eq_getElem hi]
  refine ⟨g, rfl, fun e2 => hg (by rw [e2]; rfl), ?_, ?_, fun j => ?_⟩
  · rw [hrow.cellAt (i * 2) (by omega)]; exact hb.1
  · rw [hrow.cellAt (i * 2 + 1) (by omega)]; exact hb.2
  · rcases hrow.2 with ⟨q, _⟩ | ⟨g', cap', cur, q, _, hh, _⟩
    · cases q
    · injection q with q _ _
      injection q with q
      injection q with q _ _
      subst q
      exact free_row hh j
end

/-- The bounds under which nothing overflows. -/
structure Rok (r : Rs) : Prop where
  s0 : 0 ≤ r.sp
  s1 : r.sp ≤ 400000
  c0 : ∀ i, i < r.all.length → 0 ≤ (r.all.getD i (0, 0)).1 ∧ (r.all.getD i (0, 0)).1 ≤ 400000
def rl (r : Rs) : Nat → Int
  | 0 => r.sp
  | k + 1 => rl r k + (if (r.all.getD k (0, 0)).2 = 0 then (r.all.getD k (0, 0)).1 else 0)
def rd (r : Rs) : Nat → Int
  | 0 => 0
  | k + 1 => rd r k + (r.all.getD k (0, 0)).1
theorem rl_bd {r : Rs} (h : Rok r) (k : Nat) (hk : k ≤ r.all.length) : 0 ≤ rl r k ∧ rl r k ≤ 400000 + k * 400000 := by
  induction k with
  | zero => have := h.s0; have := h.s1; simp only [rl]; omega
  | succ k ih =>
    have h1 := ih (by omega)
    have h2 := h.c0 k (by omega)
    simp only [rl]
    split <;> omega
theorem rd_bd {r : Rs} (h : Rok r) (k : Nat) (hk : k ≤ r.all.length) : 0 ≤ rd r k ∧ rd r k ≤ k * 400000 := by
  induction k with
  | zero => simp [rd]
  | succ k ih =>
    have h1 := ih (by omega)
    have h2 := h.c0 k (by omega)
    simp only [rd]
    omega

set_option maxRecDepth 20000 in
set_option maxHeartbeats 1000000 in
theorem rlive_any {No : Nat → Prop} {w : World} {S c : Nat} {va : Value} {r : Rs} (h : Rp No w S c va r) (hc : c ≤ 1000000) (ok : Rok r) :
    Calls Tryz.prog 55 #[.pointer (some ⟨S, 0, none⟩)] w fun e w' => e = .returned (.int .i64 (rl r r.all.length)) ∧ w' = w := by
  have c1 := h.c1
  have c3 := h.c3
  have hlen := h.len
  obtain ⟨a, cap, rfl, hcap, hcl⟩ := h.cells
  have HC : Hid _ := hcl
  have HB : Hid (∀ k, k ≤ r.all.length → 0 ≤ rl r k ∧ rl r k ≤ 400000 + k * 400000) := fun k hk => rl_bd ok k hk
  have HX : Hid (∀ k, k < r.all.length → 0 ≤ (r.all.getD k (0, 0)).1 ∧ (r.all.getD k (0, 0)).1 ≤ 400000) := ok.c0
  have HS : Hid (∀ k, rl r (k + 1) = rl r k + (if (r.all.getD k (0, 0)).2 = 0 then (r.all.getD k (0, 0)).1 else 0)) := fun k => rfl
  have h0 : Hid (rl r 0 = r.sp) := rfl
  clear h hcl ok
  obtain ⟨L, hL⟩ : ∃ L, r.all.length = L := ⟨_, rfl⟩
  rw [hL] at HC HB HX c3 hcap hlen ⊢
  clear hL
  go_enter Tryz.func55, Tryz.ntmps55
  go_wp2_with fail
  go_loop [3, 4] (fun u i => ∃ k : Nat, i = .int .i64 k ∧ k ≤ L ∧ ∃ z : Int, u = .int .i64 z ∧ Hid (z = rl r k)) (fun _ i => L - (intOf i).toNat)
  case atStart => exact ⟨0, rfl, by omega, _, rfl, h0.out.symm⟩
  case round =>
    obtain ⟨k, rfl, hk, z, rfl, HZ⟩ := hrel
    have hz := HB.out k hk
    rw [← HZ.out] at hz
    obtain ⟨hz0, hz1⟩ := hz
    have hz2 : z ≤ 1000000000000 := by
      have : (k : Int) * 400000 ≤ 1000000 * 400000 := Int.mul_le_mul_of_nonneg_right (by omega) (by omega)
      omega
    by_cases hlt : k < L
    · have hlt' : (k : Int) < (L : Int) := by omega
      obtain ⟨g, rfl, _, d0, d1, _⟩ := HC.out k hlt
      have hx := HX.out k hlt
      have hs := HS.out k
      rw [← HZ.out] at hs
      have HS2 : Hid _ := hs
      clear HS hs HZ HB HX HC hz1
      generalize (r.all.getD k (0, 0)).1 = x at *
      generalize (r.all.getD k (0, 0)).2 = y at *
      obtain ⟨hx0, hx1⟩ := hx
      by_cases hy : y = 0
      · subst hy
        rw [if_pos rfl] at HS2
        go_wp2_with fail
        go_round
        case rel => exact ⟨k + 1, by go_num, by omega, _, rfl, HS2.out.symm⟩
        case measure => simp [intOf]; omega
      · rw [if_neg hy, Int.add_zero] at HS2
        have hy' : (y == 0) = false := by simpa using hy
        go_wp2_with fail
        go_round
        case rel => exact ⟨k + 1, by go_num, by omega, _, rfl, HS2.out.symm⟩
        case measure => simp [intOf]; omega
    · obtain rfl : k = L := by omega
      go_wp2_with fail
      go_ret
      exact ⟨ret1 HZ.out, rfl⟩
end Go.Proofs.YtcaaaoehipcloaaGreat.H

/- The walks of the reference's Spend and Give. -/
namespace Go.Proofs.YtcaaaoehipcloaaGreat.H
open Go.RowKit

def rlv (r : Rs) : Int := rl r r.all.length
def rE (r : Rs) (n : Int) : Int := if n < 0 then 1 else if r.lim - rlv r < n then 10 else 0
def rspSt (r : Rs) (n : Int) : Rs := if rE r n = 0 then { r with sp := r.sp + n } else r
theorem Rp.set0 {No : Nat → Prop} {w : World} {S c : Nat} {va : Value} {r : Rs} (h : Rp No w S c va r) (i : Nat) (x : Int) (r' : Rs) (ha : r'.all = r.all) (he : #[.int .i64 r.lim, .int .i64 r.sp, .int .i64 r.ck, va].setIfInBounds i (.int .i64 x) = #[.int .i64 r'.lim, .int .i64 r'.sp, .int .i64 r'.ck, va]) : Rp No (w.setCell ⟨S, i, none⟩ (.int .i64 x)) S c va r' ∧ Keep No w (w.setCell ⟨S, i, none⟩ (.int .i64 x)) := by
  have hgs := gset w S i (.int .i64 x)
  refine ⟨⟨?_, ?_, by rw [ha]; exact h.len, h.noS, h.nov, fun q r => by have := h.nos q r; simpa using this⟩, (Keep.refl No w).grown hgs (fun q e => by cases e; exact h.noS)⟩
  · rw [← he]; exact heap_setCell_same w S i _ 55 _ h.str
  · rw [ha]; exact h.row.kept hgs (.inr h.apart.1)

/-- Give: where the block is taken, the clock goes on. -/
def rGiven (r : Rs) (id : Int) : Prop := 1 ≤ id ∧ id ≤ (r.all.length : Int) ∧ (r.all.getD (id.toNat - 1) (0, 0)).2 ≤ 0
instance (r : Rs) (id : Int) : Decidable (rGiven r id) := inferInstanceAs (Decidable (_ ∧ _ ∧ _))
def rgE (r : Rs) (id : Int) : Int := if id = 0 then 0 else if rGiven r id then 0 else 1
def rgSt (r : Rs) (id : Int) : Rs := if rGiven r id then { r with ck := r.ck + 1, all := setG r.all (id.toNat - 1) (r.ck + 1) } else r
theorem Rp.setGiven {No : Nat → Prop} {w : World} {S c g cap : Nat} {r : Rs} (h : Rp No w S c (.slice (some ⟨g, 0, none⟩) r.all.length cap) r) (i : Nat) (hi : i < r.all.length) (t : Int) :
    Rp No (w.setCell ⟨g, i * 2 + 1, none⟩ (.int .i64 t)) S c (.slice (some ⟨g, 0, none⟩) r.all.length cap) { r with all := setG r.all i t } ∧ Keep No w (w.setCell ⟨g, i * 2 + 1, none⟩ (.int .i64 t)) := by
  obtain ⟨a1, lS⟩ := h.apart
  have hgs := gset w g (i * 2 + 1) (.int .i64 t)
  refine ⟨⟨(hgs.block S lS (fun e => a1 e.symm)).trans h.str, ?_, by show (setG r.all i t).length ≤ c; rw [setG_len]; exact h.len, h.noS, h.nov, fun q r => by have := h.nos q r; simpa using this⟩, (Keep.refl No w).grown hgs (fun q e => by cases e; exact h.nov g rfl)⟩
  show World.ownsRow _ 0 109 2 _ (setG r.all i t).length (rcells (setG r.all i t))
  rw [setG_len]
  refine ⟨by rw [rcells_len, setG_len], ?_⟩
  rcases h.row.2 with ⟨q, _⟩ | ⟨g', cap', cur, q, q1, q2, q3, q4, q5, q6⟩
  · cases q
  · injection q with qa _ qc
    injection qa with qa
    injection qa with qa _ _
    subst qa qc
    refine .inr ⟨g, cap, cur.setIfInBounds (i * 2 + 1) (.int .i64 t), rfl, q1, heap_setCell_same w g _ cur 109 _ q2, q3, q4, by simpa using q5, ?_⟩
    rw [← rcells_set _ _ hi, ← q6]
    simp only [Array.toList_setIfInBounds, List.take_set]

set_option maxRecDepth 20000 in
set_option maxHeartbeats 2000000 in
theorem rgive_any {No : Nat → Prop} {w : World} {S c : Nat} {va : Value} {r : Rs} (h : Rp No w S c va r) (hc : c ≤ 1000000) (hk0 : 0 ≤ r.ck) (hk1 : r.ck ≤ 1000000) (id : Int) :
    Calls Tryz.prog 31 #[.pointer (some ⟨S, 0, none⟩), .int .i64 id] w fun e w' => e = .returned (.int .i64 (rgE r id)) ∧ Rp No w' S c va (rgSt r id) ∧ Keep No w w' := by
  have c2 := h.c2
  have c3 := h.c3
  have f2 := h.fr 2
  have hlen := h.len
  have HF : Hid _ := h
  obtain ⟨a, cap, rfl, hcap, hcl⟩ := h.cells
  by_cases h0 : id = 0
  · subst h0
    have e2 : rgSt r 0 = r := by unfold rgSt; rw [if_neg (fun q => by have := q.1; omega)]
    rw [e2, show rgE r 0 = 0 from rfl]
    clear hcl h c2 c3
    go_enter Tryz.func31, Tryz.ntmps31
    go_wp2_with fail
    go_ret
    exact ⟨rfl, HF.out, Keep.refl _ _⟩
  · have h0' : (id == 0) = false := by simpa using h0
    by_cases hg : rGiven r id
    · have e1 : rgE r id = 0 := by unfold rgE; rw [if_neg h0, if_pos hg]
      have e2 : rgSt r id = { r with ck := r.ck + 1, all := setG r.all (id.toNat - 1) (r.ck + 1) } := by unfold rgSt; rw [if_pos hg]
      rw [e1, e2]
      obtain ⟨k, rfl⟩ : ∃ k : Nat, id = (k : Int) + 1 := ⟨id.toNat - 1, by have := hg.1; omega⟩
      have ek : ((k : Int) + 1).toNat - 1 = k := by omega
      rw [ek]
      have hk : k < r.all.length := by have := hg.2.1; omega
      obtain ⟨g, rfl, hgS, d0, d1, fz⟩ := hcl k hk
      have hx := hg.2.2
      rw [ek] at hx
      have fg := fz (k * 2 + 1)
      have hr1 := (h.set0 2 (r.ck + 1) { r with ck := r.ck + 1 } rfl rfl)
      have HG : Hid (Rp No ((w.setCell ⟨S, 2, none⟩ (.int .i64 (r.ck + 1))).drew.setCell ⟨g, k * 2 + 1, none⟩ (.int .i64 (r.ck + 1))) S c (.slice (some ⟨g, 0, none⟩) r.all.length cap) { r with ck := r.ck + 1, all := setG r.all k (r.ck + 1) } ∧ Keep No w ((w.setCell ⟨S, 2, none⟩ (.int .i64 (r.ck + 1))).drew.setCell ⟨g, k * 2 + 1, none⟩ (.int .i64 (r.ck + 1)))) := by
        have hr2 := Rp.setGiven (r := { r with ck := r.ck + 1 }) hr1.1.drew k hk (r.ck + 1)
        exact ⟨hr2.1, hr1.2.drew.trans hr2.2⟩
      have hkm : (k : Int) < (r.all.length : Int) := by omega
      have hkk : IntKind.i64.wrap ((k : Int) + 1 - 1) = (k : Int) := by rw [IntKind.wrap_i64]; omega
      clear hg e1 e2 hcl h HF hr1 fz hk ek
      generalize (r.all.getD k (0, 0)).2 = x at *
      obtain ⟨m, hm⟩ : ∃ m, r.all.length = m := ⟨_, rfl⟩
      rw [hm] at c3 hcap hlen hkm
      go_enter Tryz.func31, Tryz.ntmps31
      go_wp2_with fail
      go_region
      all_goals
        go_wp2_with fail
        go_ret
        exact ⟨rfl, HG.out.1, HG.out.2⟩
    · have e1 : rgE r id = 1 := by unfold rgE; rw [if_neg h0, if_neg hg]
      have e2 : rgSt r id = r := by unfold rgSt; rw [if_neg hg]
      rw [e1, e2]
      by_cases h1 : id < 0
      · clear hcl h hg e1 e2
        generalize r.all.length = m at *
        go_enter Tryz.func31, Tryz.ntmps31
        go_wp2_with fail
        go_ret
        exact ⟨rfl, HF.out, Keep.refl _ _⟩
      · by_cases h2 : (r.all.length : Int) < id
        · clear hcl h hg e1 e2
          obtain ⟨m, hm⟩ : ∃ m, r.all.length = m := ⟨_, rfl⟩
          rw [hm] at c3 hcap hlen h2
          clear hm
          go_enter Tryz.func31, Tryz.ntmps31
          go_wp2_with fail
          go_ret
          exact ⟨rfl, HF.out, Keep.refl _ _⟩
        · obtain ⟨k, rfl⟩ : ∃ k : Nat, id = (k : Int) + 1 := ⟨id.toNat - 1, by omega⟩
          have ek : ((k : Int) + 1).toNat - 1 = k := by omega
          have hk : k < r.all.length := by omega
          have hx : 0 < (r.all.getD k (0, 0)).2 := by
            rcases Int.lt_or_le 0 (r.all.getD k (0, 0)).2 with q | q
            · exact q
            · exact absurd ⟨by omega, by omega, by rw [ek]; exact q⟩ hg
          obtain ⟨g, rfl, hgS, d0, d1, fz⟩ := hcl k hk
          have hkm : (k : Int) < (r.all.length : Int) := by omega
          have hkk : IntKind.i64.wrap ((k : Int) + 1 - 1) = (k : Int) := by rw [IntKind.wrap_i64]; omega
          clear hcl h hg e1 e2 hk ek fz h2
          generalize (r.all.getD k (0, 0)).2 = x at *
          obtain ⟨m, hm⟩ : ∃ m, r.all.length = m := ⟨_, rfl⟩
          rw [hm] at c3 hcap hlen hkm
          clear hm
          go_enter Tryz.func31, Tryz.ntmps31
          go_wp2_with fail
          go_ret
          exact ⟨rfl, HF.out, Keep.refl _ _⟩
end Go.Proofs.YtcaaaoehipcloaaGreat.H
