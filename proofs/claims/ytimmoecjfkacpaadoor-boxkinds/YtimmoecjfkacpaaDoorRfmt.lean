/- The walk of the reference's Format: digit by digit from the last one, then turned round. -/
import Derived.Test.YtimmoecjfkacpaaDoorFmt
import Derived.Laws.BytesArg
import Derived.BigRegion
import Derived.OwnWalk
import Derived.RegionTactic
namespace Go.Proofs.YtimmoecjfkacpaaDoor
open Go.RowKit

/-- The digits from the last one on; none for nought. -/
def rdg (u : Nat) : List UInt8 := if u = 0 then [] else (Lib.decDigits u).reverse
theorem rdg_step (u : Nat) (h : u ≠ 0) : rdg u = UInt8.ofNat (48 + u % 10) :: rdg (u / 10) := by
  unfold rdg
  rw [if_neg h, digs_unfold]
  by_cases h10 : u < 10
  · rw [if_pos h10, if_pos (by omega)]
    have : u % 10 = u := by omega
    rw [this]; rfl
  · rw [if_neg h10, if_neg (by omega)]
    simp
theorem digs_len10 (k : Nat) : ∀ u, u < 10 ^ (k + 1) → (Lib.decDigits u).length ≤ k + 1 := by
  induction k with
  | zero =>
    intro u hu
    rw [digs_unfold, if_pos (by simpa using hu)]; simp
  | succ k ih =>
    intro u hu
    rw [digs_unfold]
    split
    · simp
    · have := ih (u / 10) (by rw [Nat.pow_succ] at hu; omega)
      simp only [List.length_append, List.length_cons, List.length_nil]
      omega
theorem rdg_len (u : Nat) (h : u ≤ 9223372036854775808) : (rdg u).length ≤ 19 := by
  unfold rdg
  split
  · simp
  · have := digs_len10 18 u (by omega)
    simpa using this

def byteV (b : UInt8) : Value := .int .u8 b.toNat
theorem digV (d : Nat) (h : d < 10) : Value.int .u8 (48 + (d : Int)) = byteV (UInt8.ofNat (48 + d)) := by
  unfold byteV
  have : (UInt8.ofNat (48 + d)).toNat = 48 + d := by simp; omega
  rw [this]; rfl
theorem Tryd.info5 : (Tryd.prog.info? 5).map (fun i => (i.zero, i.size, i.bytes)) = some (some (.int .u8 0), 1, 1) := by kernel_rfl

theorem slice_shape {w : World} {base : Nat} {e : TypeId} {size : Nat} {v : Value} {n : Nat} {xs : List Value} (h : w.ownsRow base e size v n xs) : ∃ a c, v = .slice a n c := by
  rcases h.2 with ⟨rfl, rfl⟩ | ⟨g, cap, cur, rfl, _⟩
  · exact ⟨_, _, rfl⟩
  · exact ⟨_, _, rfl⟩

/-- The list with its first and last k places changed. -/
def sw (l : List UInt8) (k p : Nat) : UInt8 := if p < k ∨ l.length - k ≤ p then l.getD (l.length - 1 - p) 0 else l.getD p 0
theorem sw_zero (l : List UInt8) (p : Nat) (h : p < l.length) : sw l 0 p = l.getD p 0 := by unfold sw; rw [if_neg (by omega)]
theorem sw_mid (l : List UInt8) (k p : Nat) (h : k ≤ p ∧ p < l.length - k) : sw l k p = l.getD p 0 := by unfold sw; rw [if_neg (by omega)]
theorem sw_lo (l : List UInt8) (k : Nat) (_h : k < l.length / 2) : sw l (k + 1) k = l.getD (l.length - 1 - k) 0 := by unfold sw; rw [if_pos (by omega)]
theorem sw_hi (l : List UInt8) (k : Nat) (h : k < l.length / 2) : sw l (k + 1) (l.length - 1 - k) = l.getD k 0 := by
  unfold sw; rw [if_pos (by omega)]; congr 1; omega
theorem sw_else (l : List UInt8) (k p : Nat) (h1 : p ≠ k) (h2 : p ≠ l.length - 1 - k) (h : p < l.length) : sw l (k + 1) p = sw l k p := by
  unfold sw
  by_cases hc : p < k ∨ l.length - k ≤ p
  · rw [if_pos hc, if_pos (by omega)]
  · rw [if_neg hc, if_neg (by omega)]
theorem sw_end (l : List UInt8) (k p : Nat) (h : ¬ k < l.length / 2) (hp : p < l.length) : sw l k p = l.getD (l.length - 1 - p) 0 := by
  unfold sw
  by_cases hc : p < k ∨ l.length - k ≤ p
  · rw [if_pos hc]
  · rw [if_neg hc]; congr 1; omega
theorem sw_rev (l : List UInt8) (k : Nat) (h : ¬ k < l.length / 2) : (List.range l.length).map (sw l k) = l.reverse := by
  apply List.ext_getElem
  · simp
  · intro i hi hj
    simp only [List.length_map, List.length_range] at hi
    simp only [List.getElem_map, List.getElem_range, List.getElem_reverse]
    rw [sw_end l k i h hi]
    simp [List.getD, List.getElem?_eq_getElem (show l.length - 1 - i < l.length by omega)]

/-- A row of bytes that may be written, the other memory as it was. -/
structure Bytes (B g : Nat) (w W : World) (l : List UInt8) (k : Nat) : Prop where
  cell : ∀ p, p < l.length → W.cell? ⟨g, p, none⟩ = some (byteV (sw l k p))
  free : ∀ p, p < l.length → W.frozen? ⟨g, p, none⟩ = false
  below : Below B w W
  low : B ≤ g

theorem bytes_step {B g : Nat} {w W W' : World} {l : List UInt8} {k : Nat} (h : Bytes B g w W l k) (hk : k < l.length / 2)
    (hW : W' = ((W.setCell ⟨g, k, none⟩ (byteV (l.getD (l.length - 1 - k) 0))).setCell ⟨g, l.length - 1 - k, none⟩ (byteV (l.getD k 0))).drew) : Bytes B g w W' l (k + 1) where
  cell p hp := by
    subst hW
    show ((W.setCell _ _).setCell _ _).cell? _ = _
    have c1 := h.cell k (by omega)
    have c2 := h.cell (l.length - 1 - k) (by omega)
    by_cases e2 : p = l.length - 1 - k
    · subst e2
      rw [sw_hi l k hk]
      exact World.cell?_setCell_same _ _ _ (by rw [World.cell?_setCell_other _ _ _ _ (fun q => by injection q with _ q2; omega)]; exact c2)
    · rw [World.cell?_setCell_other _ _ _ _ (fun q => by injection q with _ q2; omega)]
      by_cases e1 : p = k
      · subst e1
        rw [sw_lo l p hk]
        exact World.cell?_setCell_same _ _ _ c1
      · rw [World.cell?_setCell_other _ _ _ _ (fun q => by injection q with _ q2; omega), sw_else l k p e1 e2 hp]
        exact h.cell p hp
  free p hp := by
    subst hW
    show ((W.setCell _ _).setCell _ _).frozen? _ = _
    rw [World.frozen?_setCell, World.frozen?_setCell]
    exact h.free p hp
  below := by
    subst hW
    exact ((h.below.setCell (by exact h.low) _).setCell (by exact h.low) _).drew
  low := h.low

theorem bytes_of_row {B : Nat} {w W : World} {v : Value} {l : List UInt8} (h : W.ownsRow B 5 1 v l.length (l.map byteV)) (hb : Below B w W) (hl : l.length ≠ 0) :
    ∃ g cap, v = .slice (some ⟨g, 0, none⟩) l.length cap ∧ Bytes B g w W l 0 := by
  have hcs := fun g => h.cells (g := g)
  rcases h.2 with ⟨_, hz⟩ | ⟨g, cap, cur, rfl, h2, h3, h4, h5, h6, h7⟩
  · exact absurd hz hl
  · refine ⟨g, cap, rfl, ⟨fun p hp => ?_, fun p hp => ?_, hb, h2⟩⟩
    · rw [sw_zero l p hp]
      have := hcs g rfl p (byteV (l.getD p 0)) (by simp [List.getD, List.getElem?_eq_getElem hp])
      by_cases hp0 : p = 0
      · subst hp0; simpa [Addr.add] using this
      · simpa [Addr.add, hp0] using this
    · unfold World.frozen?; rw [h3]; simp

theorem conv_bytes {B g : Nat} {w W : World} {l : List UInt8} {k cap : Nat} (h : Bytes B g w W l k) (hk : ¬ k < l.length / 2) :
    (convert 75 9 (.slice (some ⟨g, 0, none⟩) l.length cap)).run Tryd.prog W = .ok (.string ⟨l.reverse.toArray⟩) W := by
  have hr := run_convert_bytes_arg (P := Tryd.prog) W 75 5 Tryd.underlying75 Tryd.underlying5 g 0 l.length cap ((List.range l.length).map fun p => ((sw l k p).toNat : Int)) (by simp) (fun i hi => by
    rw [Nat.zero_add, h.cell i hi]
    simp [byteV, List.getD, hi]) 9 Tryd.underlying9
  rw [hr]
  congr 2
  have e : (List.range l.length).map (sw l k) = l.reverse := sw_rev l k hk
  unfold strOfNums
  rw [← e]
  congr 1
  rw [List.map_map]
  congr 1
  apply List.map_congr_left
  intro p _
  simp

end Go.Proofs.YtimmoecjfkacpaaDoor
