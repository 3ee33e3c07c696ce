/- A list of values that grows by append. -/
import Derived.Test.YtbkgbojfjijalaaGm
import Derived.Test.YtbkgbojfjijalaaCh
import Derived.Deep.AppendLies
import Derived.Deep.CutBlock
import Derived.Deep.RegionWith
import Derived.Deep.RegionHeld3
namespace Go.Proofs.Ytbkgbojfjijalaa
open Go.RowKit

/-- A value's three cells. -/
def vc (x : V) : Nat → Value
  | 0 => .int .i64 x.1
  | 1 => .int .i64 x.2.1
  | _ => .string x.2.2
theorem lt3 {j : Nat} (h : j < 3) : j = 0 ∨ j = 1 ∨ j = 2 := by omega
def cellsV (F : Nat → V) (n : Nat) : List Value := (List.range (n * 3)).map (fun j => vc (F (j / 3)) (j % 3))
theorem cellsV_len (F : Nat → V) (n : Nat) : (cellsV F n).length = n * 3 := by simp [cellsV]
theorem cellsV_at (F : Nat → V) (n j : Nat) (h : j < n * 3) : (cellsV F n)[j]? = some (vc (F (j / 3)) (j % 3)) := by
  unfold cellsV
  rw [List.getElem?_map, List.getElem?_range h]
  rfl
theorem cellsV_congr {F F' : Nat → V} {n : Nat} (h : ∀ i, i < n → F i = F' i) : cellsV F n = cellsV F' n := by
  unfold cellsV
  refine List.map_congr_left fun j hj => ?_
  have : j < n * 3 := List.mem_range.1 hj
  rw [h (j / 3) (by omega)]
theorem cellsV_snoc (F : Nat → V) (n : Nat) (x : V) : cellsV F n ++ [.int .i64 x.1, .int .i64 x.2.1, .string x.2.2] = cellsV (upd F n x) (n + 1) := by
  refine List.ext_getElem? fun j => ?_
  by_cases h : j < n * 3
  · rw [List.getElem?_append_left (by rw [cellsV_len]; exact h), cellsV_at _ _ _ h, cellsV_at _ _ _ (by omega), upd_ne _ _ (by omega)]
  · rw [List.getElem?_append_right (by rw [cellsV_len]; omega), cellsV_len]
    by_cases h2 : j < (n + 1) * 3
    · rw [cellsV_at _ _ _ h2]
      have e : j / 3 = n := by omega
      rw [e, upd_at]
      rcases lt3 (show j - n * 3 < 3 by omega) with q | q | q
      · rw [q, show j % 3 = 0 by omega]; rfl
      · rw [q, show j % 3 = 1 by omega]; rfl
      · rw [q, show j % 3 = 2 by omega]; rfl
    · rw [List.getElem?_eq_none (by simp; omega), List.getElem?_eq_none (by rw [cellsV_len]; omega)]
theorem cellsV_one (F : Nat → V) (n : Nat) : ∀ u ∈ cellsV F n, u.oneCell' = true := by
  intro u hu
  unfold cellsV at hu
  rw [List.mem_map] at hu
  obtain ⟨j, _, rfl⟩ := hu
  unfold vc
  split <;> rfl

/-- The list of n values that v is, in a block of its own from B on. -/
structure Lv (w : World) (B : Nat) (v : Value) (n : Nat) (F : Nat → V) : Prop where
  own : w.ownsRow B 32 3 v n (cellsV F n)
theorem Lv.nil (w : World) (B : Nat) (F : Nat → V) : Lv w B (.slice none 0 0) 0 F := ⟨World.ownsRow_nil w B 32 3⟩
theorem Lv.alloc {w : World} {B : Nat} {v : Value} {n : Nat} {F : Nat → V} (h : Lv w B v n F) (o : Obj) : Lv (w.alloc o) B v n F := ⟨h.own.alloc o⟩
theorem Lv.drew {w : World} {B : Nat} {v : Value} {n : Nat} {F : Nat → V} (h : Lv w B v n F) : Lv w.drew B v n F := ⟨h.own.drew⟩
theorem Lv.grown {w w' : World} {B : Nat} {v : Value} {n : Nat} {F : Nat → V} {row : Option Nat} (h : Lv w B v n F) (hg : w.grownBy w' row) (hne : v.ownBlock = none ∨ v.ownBlock ≠ row) : Lv w' B v n F := ⟨h.own.kept hg hne⟩
theorem Lv.keep {No : Nat → Prop} {w w' : World} {B : Nat} {v : Value} {n : Nat} {F : Nat → V} (h : Lv w B v n F) (k : Keep No w w') (hn : ∀ g, v.ownBlock = some g → No g) : Lv w' B v n F := by
  refine ⟨h.own.1, ?_⟩
  rcases h.own.2 with q | ⟨g, cap, cur, rfl, h2, h3, h4⟩
  · exact .inl q
  · have hlt : g < w.heap.size := (Array.getElem?_eq_some_iff.1 h3).1
    exact .inr ⟨g, cap, cur, rfl, h2, by rw [k.block g hlt (hn g rfl)]; exact h3, h4⟩
theorem Lv.below {w w' : World} {B : Nat} {v : Value} {n : Nat} {F : Nat → V} (h : Lv w B v n F) (k : Below w.heap.size w w') : Lv w' B v n F := h.keep (No := fun _ => True) (Keep.of k) (fun _ _ => trivial)
theorem Lv.form {w : World} {B : Nat} {v : Value} {n : Nat} {F : Nat → V} (h : Lv w B v n F) : ∃ a c, v = .slice a n c := by
  rcases h.own.2 with ⟨rfl, rfl⟩ | ⟨g, cap, cur, rfl, _⟩
  · exact ⟨none, 0, rfl⟩
  · exact ⟨_, _, rfl⟩
theorem Lv.at {w : World} {B : Nat} {v : Value} {n : Nat} {F : Nat → V} (h : Lv w B v n F) {i : Nat} (hi : i < n) : ∃ g c, v = .slice (some ⟨g, 0, none⟩) n c ∧ B ≤ g ∧ g < w.heap.size ∧ (∀ j, w.frozen? ⟨g, j, none⟩ = false) ∧
    w.cell? ⟨g, i * 3, none⟩ = some (.int .i64 (F i).1) ∧ w.cell? ⟨g, i * 3 + 1, none⟩ = some (.int .i64 (F i).2.1) ∧ w.cell? ⟨g, i * 3 + 2, none⟩ = some (.string (F i).2.2) := by
  obtain ⟨g, c, rfl, h1, h2⟩ := h.own.form (by omega)
  have e : ∀ j, j < 3 → w.cell? ⟨g, i * 3 + j, none⟩ = some (vc (F i) j) := fun j hj => by
    rw [h.own.cellAt _ (by omega), cellsV_at _ _ _ (by omega), show (i * 3 + j) / 3 = i by omega, show (i * 3 + j) % 3 = j by omega]
  exact ⟨g, c, rfl, h1, h2, fun j => h.own.frozenAt j, e 0 (by omega), e 1 (by omega), e 2 (by omega)⟩
theorem Lv.app {w : World} {B : Nat} {v : Value} {n : Nat} {F : Nat → V} (h : Lv w B v n F) {b : Nat} (x : V) (hx : Bx w b x) (hn : n ≤ 400) (hB : B ≤ w.heap.size) :
    ∃ g c w', (Builtin.append_ #[49, 49] 49 #[v, .slice (some ⟨b, 0, none⟩) 1 1]).run Try.prog w = .ok (.slice (some ⟨g, 0, none⟩) (n + 1) c) w' ∧ Lv w' B (.slice (some ⟨g, 0, none⟩) (n + 1) c) (n + 1) (upd F n x) ∧ w.grownBy w' v.ownBlock ∧ (v.ownBlock = some g ∨ g = w.heap.size) ∧ g < w'.heap.size := by
  obtain ⟨i0, hi, hz0, hz1, hz2⟩ := info_parts info32
  obtain ⟨g, c, w', h1, h2, h3, h4, h5⟩ := run_append_lies (P := Try.prog) w 49 49 B 32 i0 (vl 0 0 ⟨#[]⟩) 3 32 Try.underlying49 hi hz0 hz1 hz2 rfl (by omega) v n (cellsV F n) h.own ⟨b, 0, none⟩ 1 1 [.int .i64 x.1, .int .i64 x.2.1, .string x.2.2] rfl (fun j u hu => by
    have hadd : (⟨b, 0, none⟩ : Addr).add j = ⟨b, j, none⟩ := by unfold Addr.add; split <;> simp_all
    rw [hadd]
    have hj : j < 3 := (List.getElem?_eq_some_iff.1 hu).1
    rcases lt3 hj with rfl | rfl | rfl
    · simp at hu; rw [← hu]; exact hx.c0
    · simp at hu; rw [← hu]; exact hx.c1
    · simp at hu; rw [← hu]; exact hx.c2) (by intro u hu; simp at hu; rcases hu with rfl | rfl | rfl <;> rfl) (by omega) (by simp only [maxLen]; omega) (by omega) hB _ rfl
  exact ⟨g, c, w', h1, ⟨by rw [← cellsV_snoc]; exact h2⟩, h3, h4, h5⟩
theorem Lv.set {w : World} {B : Nat} {n g c : Nat} {F : Nat → V} (h : Lv w B (.slice (some ⟨g, 0, none⟩) n c) n F) {i : Nat} (hi : i < n) (x : V) :
    Lv (((w.setCell ⟨g, i * 3, none⟩ (.int .i64 x.1)).setCell ⟨g, i * 3 + 1, none⟩ (.int .i64 x.2.1)).setCell ⟨g, i * 3 + 2, none⟩ (.string x.2.2)) B (.slice (some ⟨g, 0, none⟩) n c) n (upd F i x) := by
  have h1 := (h.own.stored (i * 3) (.int .i64 x.1)).1
  have h2 := (h1.stored (i * 3 + 1) (.int .i64 x.2.1)).1
  have h3 := (h2.stored (i * 3 + 2) (.string x.2.2)).1
  refine ⟨?_⟩
  have e : (((cellsV F n).set (i * 3) (.int .i64 x.1)).set (i * 3 + 1) (.int .i64 x.2.1)).set (i * 3 + 2) (.string x.2.2) = cellsV (upd F i x) n := by
    refine List.ext_getElem? fun j => ?_
    by_cases hj : j < n * 3
    · rw [cellsV_at _ _ _ hj]
      simp only [List.getElem?_set, List.length_set, cellsV_len]
      by_cases e2 : i * 3 + 2 = j
      · rw [if_pos e2, if_pos (by omega), show j / 3 = i by omega, upd_at, show j % 3 = 2 by omega]; rfl
      · rw [if_neg e2]
        by_cases e1 : i * 3 + 1 = j
        · rw [if_pos e1, if_pos (by omega), show j / 3 = i by omega, upd_at, show j % 3 = 1 by omega]; rfl
        · rw [if_neg e1]
          by_cases e0 : i * 3 = j
          · rw [if_pos e0, if_pos (by omega), show j / 3 = i by omega, upd_at, show j % 3 = 0 by omega]; rfl
          · rw [if_neg e0, cellsV_at _ _ _ hj, upd_ne _ _ (by omega)]
    · rw [List.getElem?_eq_none (by simp [cellsV_len]; omega), List.getElem?_eq_none (by rw [cellsV_len]; omega)]
  rw [e] at h3
  exact h3
end Go.Proofs.Ytbkgbojfjijalaa
