/- The slices of keys and their counts: the walks of Log2, of both Slices, of both Counts, of Ceil2. -/
import Derived.Test.YteknjkofmkigoabBase
import Derived.Test.YteknjkofmkigoabShelf
import Derived.Lib.ItoaNum
import Derived.Lib.BitFns
namespace Go.Proofs.Yteknjkofmkigoab
open Go.RowKit

def lgN (n : Int) : Nat := Lib.bitLen (n.toNat - 1)
def lg (n : Int) : Int := if n < 1 then -1 else lgN n

theorem lgN_spec (n : Int) (h0 : 1 ≤ n) (h1 : n ≤ 9223372036854775807) : n.toNat ≤ 2 ^ lgN n ∧ (lgN n = 0 ∨ 2 ^ (lgN n - 1) < n.toNat) ∧ lgN n ≤ 63 := by
  unfold lgN Lib.bitLen
  have hle := Lib.bitLen_le (n.toNat - 1) 63 (by omega) (by omega)
  unfold Lib.bitLen at hle
  by_cases hz : n.toNat - 1 = 0
  · rw [hz, Lib.bitLenAux_zero]
    exact ⟨by omega, .inl rfl, by omega⟩
  · obtain ⟨a, b, c⟩ := Lib.bitLenAux_bounds 64 (n.toNat - 1) (by omega) hz
    exact ⟨by omega, .inr (by omega), hle⟩

theorem lgN_unique (n : Int) (k : Nat) (h0 : 1 ≤ n) (h1 : n ≤ 9223372036854775807) (ha : n.toNat ≤ 2 ^ k) (hb : k = 0 ∨ 2 ^ (k - 1) < n.toNat) : k = lgN n := by
  obtain ⟨sa, sb, _⟩ := lgN_spec n h0 h1
  rcases Nat.lt_trichotomy k (lgN n) with h | h | h
  · rcases sb with sb | sb
    · omega
    · have := Nat.pow_le_pow_right (n := 2) (by omega) (show k ≤ lgN n - 1 by omega)
      omega
  · exact h
  · rcases hb with hb | hb
    · omega
    · have := Nat.pow_le_pow_right (n := 2) (by omega) (show lgN n ≤ k - 1 by omega)
      omega
theorem lg_pos (n : Int) (h : 1 ≤ n) : lg n = (lgN n : Int) := by
  unfold lg
  rw [if_neg (by omega)]

set_option maxHeartbeats 400000 in
theorem log2_any (n : Int) (w : World) (h1 : n ≤ 9223372036854775807) : Calls Try.prog 43 #[.int .i64 n] w fun e w' => e = .returned (.int .i64 (lg n)) ∧ w' = w := by
  by_cases h : n < 1
  · have hl : lg n = -1 := by simp [lg, h]
    rw [hl]
    clear hl
    go_enter Try.func43, Try.ntmps43
    go_wp2
    go_ret
    exact ⟨rfl, rfl⟩
  · have hl : lg n = Lib.bitLen (n.toNat - 1) := by simp [lg, lgN, h]
    rw [hl]
    clear hl
    go_enter Try.func43, Try.ntmps43
    go_wp2_with (go_at_call 46; refine (Try.bits_Len64 _ _ (by omega) (by omega)).mono ?_; rintro e w' ⟨rfl, rfl⟩)
    go_ret
    refine ⟨ret1 ?_, rfl⟩
    congr 2

set_option maxHeartbeats 400000 in
theorem slice_any (n : Int) (w : World) (h1 : n ≤ 9223372036854775807) : Calls Try.prog 34 #[.int .i64 n] w fun e w' => e = .returned (.int .i64 (lg n)) ∧ w' = w := by
  have C1 := log2_any n w h1
  clear h1
  go_enter Try.func34, Try.ntmps34
  go_wp2_with (go_at_call 43; refine C1.mono ?_; rintro e w' ⟨rfl, rfl⟩)
  go_ret
  exact ⟨rfl, rfl⟩

/-! ### Ceil2 -/
def cl (n : Int) : Int := 2 ^ lgN n
theorem cl_facts (n : Int) (h0 : 1 ≤ n) (h1 : n ≤ 1073741824) : wrap64 (2 ^ lgN n) = cl n ∧ n ≤ cl n ∧ cl n / 2 < n ∧ 1 ≤ cl n ∧ cl n ≤ 1073741824 ∧ lgN n ≤ 30 := by
  obtain ⟨a, b, c⟩ := lgN_spec n h0 (by omega)
  have h30 : lgN n ≤ 30 := by
    rcases b with b | b
    · omega
    · rcases Nat.lt_or_ge 30 (lgN n) with h | h
      · have := Nat.pow_le_pow_right (n := 2) (by omega) (show 30 ≤ lgN n - 1 by omega)
        omega
      · exact h
  have hf := pow_fit (lgN n) (by omega)
  have hcl : cl n = ((2 ^ lgN n : Nat) : Int) := (pow_int _).symm
  have h3 := Nat.pow_le_pow_right (n := 2) (by omega) h30
  have h5 : lgN n = 0 ∨ 2 ^ lgN n = 2 * 2 ^ (lgN n - 1) := by
    by_cases hz : lgN n = 0
    · exact .inl hz
    · right
      rw [← Nat.pow_succ']
      congr 1
      omega
  refine ⟨hf, ?_⟩
  rw [hcl]
  rcases h5 with h5 | h5
  · rw [h5] at a ⊢
    simp at a ⊢
    omega
  · rcases b with b | b
    · rw [b] at a ⊢
      simp at a ⊢
      omega
    · generalize 2 ^ (lgN n - 1) = Q at b h5
      generalize 2 ^ lgN n = P at *
      omega
/-- The least power of two that is at least n; 0 of 0. -/
def up2 (n : Int) : Int := if n = 0 then 0 else cl n

set_option maxHeartbeats 400000 in
theorem ceil_any (n : Int) (w : World) (h0 : 0 ≤ n) (h1 : n ≤ 65536) : Calls Try.prog 42 #[.int .i64 n] w fun e w' => e = .returned (.tuple #[.int .i64 (up2 n), .int .i64 0]) ∧ w' = w := by
  unfold up2
  by_cases hz : n = 0
  · subst hz
    rw [if_pos rfl]
    go_enter Try.func42, Try.ntmps42
    go_wp2
    go_ret2
    exact ⟨rfl, rfl⟩
  · rw [if_neg hz]
    obtain ⟨hc, _, _, _, _, h30⟩ := cl_facts n (by omega) (by omega)
    have HC : Hid (wrap64 (2 ^ lgN n) = cl n) := hc
    have C1 := log2_any n w (by omega)
    rw [lg_pos n (by omega)] at C1
    clear hc
    go_enter Try.func42, Try.ntmps42
    go_wp2_with (go_at_call 43; refine C1.mono ?_; rintro e w' ⟨rfl, rfl⟩)
    go_ret2
    exact ⟨ret2 HC.out rfl, rfl⟩

/-! ### the reference's Slice -/
/-! ### Count -/
def cnt (l : List Int) (i : Nat) : Int := (l.countP (fun x => decide (lg x = i)) : Nat)
def cntL (l : List Int) : List Int := (List.range 17).map (cnt l)
theorem cntL_len (l : List Int) : (cntL l).length = 17 := by simp [cntL]
theorem cntL_get (l : List Int) (i : Nat) (h : i < 17) : (cntL l).getD i 0 = cnt l i := by simp [cntL, List.getD, h]
theorem cnt_bound (l : List Int) (i : Nat) : 0 ≤ cnt l i ∧ cnt l i ≤ l.length := by
  have := List.countP_le_length (p := fun x => decide (lg x = i)) (l := l)
  unfold cnt
  omega
theorem take_snoc (l : List Int) (k : Nat) (h : k < l.length) : l.take (k + 1) = l.take k ++ [l.getD k 0] := by
  rw [List.take_add_one, List.getD, List.getElem?_eq_getElem h]; rfl
theorem cnt_succ (l : List Int) (k i : Nat) (h : k < l.length) : cnt (l.take (k + 1)) i = cnt (l.take k) i + (if lg (l.getD k 0) = i then 1 else 0) := by
  rw [take_snoc l k h]
  unfold cnt
  rw [List.countP_append, List.countP_singleton]
  by_cases hq : lg (l.getD k 0) = i
  · rw [if_pos hq, if_pos (by simpa using hq)]; rfl
  · rw [if_neg hq, if_neg (by simpa using hq)]; rfl
def Fit (l : List Int) : Prop := ∀ i, i < l.length → -9223372036854775808 ≤ l.getD i 0 ∧ l.getD i 0 ≤ 9223372036854775807
theorem Fit.take {l : List Int} (h : Fit l) (n : Nat) : Fit (l.take n) := by
  intro i hi
  simp only [List.length_take] at hi
  have := h i (by omega)
  simpa [List.getD, List.getElem?_take, show i < n by omega] using this

theorem info3 : (Try.prog.info? 3).map (fun i => (i.zero, i.size, i.bytes)) = some (some (.int .i64 0), 1, 8) := by kernel_rfl
theorem cell_of_row {w : World} {g : Nat} {cs : Array Value} {t : TypeId} (h : w.heap[g]? = some (.cells cs t)) (i : Nat) : w.cell? ⟨g, i, none⟩ = cs[i]? := by
  unfold World.cell?
  rw [h]
  simp
theorem made_cell (w : World) (n i : Nat) (h : i < n) : (w.alloc (.cells (madeCells (Value.int .i64 0).cells (n * 1)) 3)).cell? ⟨w.heap.size, i, none⟩ = some (.int .i64 0) := by
  rw [cell_of_row (MapKept.heap_alloc w _).1]
  simp [madeCells, Value.cells, h, Nat.mod_one]
theorem new_free (w : World) (cs : Array Value) (t : TypeId) (i : Nat) : (w.alloc (.cells cs t)).frozen? ⟨w.heap.size, i, none⟩ = false := by
  unfold World.frozen?
  rw [(MapKept.heap_alloc w _).1]
  simp
theorem make_int (m : Nat) (hm : m ≤ 1000000) (W : World) : (Instr.makeSlice 22 (.int .i64 m) (.int .i64 m)).run Try.prog W = .ok (.slice (some ⟨W.heap.size, 0, none⟩) m m) (W.alloc (.cells (madeCells (Value.int .i64 0).cells (m * 1)) 3)) := by
  obtain ⟨i0, hi, hz0, hz1, hz2⟩ := info_parts info3
  have h := run_make (P := Try.prog) W 22 3 i0 (.int .i64 0) Try.underlying22 hi hz0 .i64 .i64 m m (by omega) (Int.le_refl _) (by rw [hz2]; omega) (by omega)
  rw [hz1] at h
  simpa using h

/-- A list of the call's own, in the block G: 17 numbers that may be written. -/
def Own17 (G : Nat) (w : World) (f : Nat → Int) : Prop :=
  (∀ j, j < 17 → w.cell? ⟨G, j, none⟩ = some (.int .i64 (f j))) ∧ (∀ j, j < 17 → w.frozen? ⟨G, j, none⟩ = false) ∧ G < w.heap.size
theorem Own17.upd {G : Nat} {w : World} {f f' : Nat → Int} (h : Own17 G w f) (j : Nat) (hj : j < 17) (x : Int) (hx : f' j = x) (ho : ∀ i, i ≠ j → f' i = f i) : Own17 G (w.setCell ⟨G, j, none⟩ (.int .i64 x)) f' := by
  obtain ⟨h1, h2, h3⟩ := h
  refine ⟨fun i hi => ?_, fun i hi => ?_, by simpa using h3⟩
  · by_cases hij : i = j
    · subst hij
      rw [World.cell?_setCell_same _ _ _ (h1 i hi), hx]
    · rw [World.cell?_setCell_other _ _ _ _ (fun q => by injection q with _ q2; omega), h1 i hi, ho i hij]
  · rw [World.frozen?_setCell]; exact h2 i hi
theorem Own17.ints {G : Nat} {w : World} {l : List Int} (h : Own17 G w (fun j => l.getD j 0)) (hl : l.length = 17) : Ints w.heap.size w (.slice (some ⟨G, 0, none⟩) 17 17) l :=
  ⟨_, 17, by rw [hl], by omega, fun _ => ⟨G, 0, rfl, h.2.2, fun i hi => by rw [Nat.zero_add]; exact h.1 i (by omega)⟩⟩

set_option maxRecDepth 20000 in
set_option maxHeartbeats 1000000 in
theorem count_any (l : List Int) (v : Value) (w : World) (h : Ints w.heap.size w v l) (hf : Fit l) (hlen : l.length ≤ 1000000) :
    Calls Try.prog 11 #[v] w fun e w' => e = .returned (.slice (some ⟨w.heap.size, 0, none⟩) 17 17) ∧ Own17 w.heap.size w' (cnt l) ∧ Below w.heap.size w w' := by
  obtain ⟨a, cap, rfl, hcap, h⟩ := h
  have HC : Hid _ := h
  have HF : Hid _ := hf
  have HL : Hid (l ≠ [] ↔ 0 < l.length) := by
    show _ ↔ _
    cases l <;> simp
  have HS : Hid (∀ k i, k < l.length → cnt (l.take (k + 1)) i = cnt (l.take k) i + (if lg (l.getD k 0) = i then 1 else 0)) := fun k i hk => cnt_succ l k i hk
  have HB : Hid (∀ k i, k ≤ l.length → 0 ≤ cnt (l.take k) i ∧ cnt (l.take k) i ≤ 1000000) := fun k i hk => by
    have := cnt_bound (l.take k) i
    rw [List.length_take] at this
    omega
  have HE : Hid (l.take l.length = l) := List.take_length
  clear h hf hcap
  have hmk : (Instr.makeSlice 22 (.int .i64 17) (.int .i64 17)).run Try.prog w = _ := make_int 17 (by omega) w
  have M : Own17 w.heap.size (w.alloc (.cells (madeCells (Value.int .i64 0).cells (17 * 1)) 3)) (cnt (l.take 0)) :=
    ⟨fun j hj => by rw [made_cell w 17 j hj]; simp [cnt], fun j hj => new_free w _ _ j, by simp⟩
  have m3 : Below w.heap.size w (w.alloc (.cells (madeCells (Value.int .i64 0).cells (17 * 1)) 3)) := (Below.refl _ _).alloc (Nat.le_refl _) _
  obtain ⟨W1, hW1⟩ : ∃ W1, W1 = (w.alloc (.cells (madeCells (Value.int .i64 0).cells (17 * 1)) 3)) := ⟨_, rfl⟩
  rw [← hW1] at hmk M m3
  clear hW1
  have HM : Hid _ := M
  clear M
  obtain ⟨L, hL⟩ : ∃ L, l.length = L := ⟨_, rfl⟩
  rw [hL] at HC HL HS HB HE hlen ⊢
  obtain ⟨G, hG⟩ : ∃ G, w.heap.size = G := ⟨_, rfl⟩
  rw [hG] at hmk HM m3 HC ⊢
  have C1 : ∀ k, k < L → ∀ W, Calls Try.prog 34 #[.int .i64 (l.getD k 0)] W fun e w' => e = .returned (.int .i64 (lg (l.getD k 0))) ∧ w' = W := fun k hk W => slice_any _ W (HF.out k (by omega)).2
  clear HF hL
  go_enter Try.func11, Try.ntmps11
  go_wp2_with fail
  go_loopw [10] (fun i wr => ∃ k : Nat, i = .int .i64 k ∧ k ≤ L ∧ Hid (Own17 G wr (cnt (l.take k))) ∧ Below G w wr) (fun i _ => L - (intOf i).toNat)
  case atStart => exact ⟨0, rfl, by omega, HM, m3⟩
  case round =>
    obtain ⟨k, rfl, hk, HO, hb⟩ := hrel
    by_cases hlt : k < L
    · have hlt' : (k : Int) < (L : Int) := by omega
      obtain ⟨g, off, rfl, hg, hc⟩ := HC.out (HL.out.2 (by omega))
      have c1 : wr.cell? ⟨g, off + k, none⟩ = some (.int .i64 (l.getD k 0)) := by rw [hb.cell (by exact hg)]; exact hc k hlt
      have C2 := C1 k hlt
      have HS2 : Hid (∀ i, cnt (l.take (k + 1)) i = cnt (l.take k) i + (if lg (l.getD k 0) = i then 1 else 0)) := fun i => HS.out k i hlt
      have HB2 : Hid (∀ i, 0 ≤ cnt (l.take k) i ∧ cnt (l.take k) i ≤ 1000000) := fun i => HB.out k i hk
      clear hc C1 HB HS HC
      generalize l.getD k 0 = x at *
      generalize lg x = s at *
      by_cases hs : 0 ≤ s ∧ s < 17
      · obtain ⟨j, rfl⟩ : ∃ j : Nat, s = j := ⟨s.toNat, by omega⟩
        have hj : j < 17 := by omega
        have hj' : (j : Int) < 17 := by omega
        have c2 := HO.out.1 j hj
        have f2 := HO.out.2.1 j hj
        have hcb := HB2.out j
        have HO2 : Hid (∀ c, c = cnt (l.take k) j → Own17 G (wr.setCell ⟨G, j, none⟩ (.int .i64 (c + 1))) (cnt (l.take (k + 1)))) := by
          intro c hc
          refine HO.out.upd j hj _ ?_ fun i hi => ?_
          · rw [HS2.out j, if_pos rfl, hc]
          · rw [HS2.out i, if_neg (by omega)]; omega
        obtain ⟨c, hc⟩ : ∃ c, c = cnt (l.take k) j := ⟨_, rfl⟩
        have HO3 : Hid _ := HO2.out c hc
        rw [← hc] at c2 hcb
        clear hc HO2 HB2 HS2 HO hs
        go_wp2_with (go_at_call 34; refine (C2 _).mono ?_; rintro e w2 ⟨rfl, rfl⟩)
        go_roundw
        case rel => exact ⟨k + 1, by go_num, by omega, HO3, hb.setCell (by simp) _⟩
        case measure => simp [intOf]; omega
      · have HO3 : Hid (Own17 G wr (cnt (l.take (k + 1)))) := by
          have e : ∀ i, i < 17 → cnt (l.take (k + 1)) i = cnt (l.take k) i := fun i hi => by rw [HS2.out i, if_neg (by omega)]; omega
          exact ⟨fun j hj => by rw [e j hj]; exact HO.out.1 j hj, HO.out.2⟩
        clear HO HB2 HS2
        by_cases hs0 : 0 ≤ s
        · have hs1 : ¬ s < 17 := by omega
          clear hs
          go_wp2_with (go_at_call 34; refine (C2 _).mono ?_; rintro e w2 ⟨rfl, rfl⟩)
          go_roundw
          case rel => exact ⟨k + 1, by go_num, by omega, HO3, hb⟩
          case measure => simp [intOf]; omega
        · clear hs
          go_wp2_with (go_at_call 34; refine (C2 _).mono ?_; rintro e w2 ⟨rfl, rfl⟩)
          go_roundw
          case rel => exact ⟨k + 1, by go_num, by omega, HO3, hb⟩
          case measure => simp [intOf]; omega
    · obtain rfl : k = L := by omega
      rw [HE.out] at HO
      go_wp2
      go_ret
      exact ⟨rfl, HO.out, hb⟩

end Go.Proofs.Yteknjkofmkigoab
