/- The walks of Row, the program's and the reference's. -/
import Derived.Test.YtimmoecjfkacpabInts
import Derived.MapKept
namespace Go.Proofs.Ytimmoecjfkacpab
open Go.RowKit

/-- The place of the number i from the first one on. -/
def rv (first z : Int) (i : Nat) : Int := (first + i) % 18446744073709551616 % dm z
def rowL (first z : Int) (n : Nat) : List Int := (List.range n).map (rv first z)
theorem rowL_len (first z : Int) (n : Nat) : (rowL first z n).length = n := by simp [rowL]
theorem rowL_get (first z : Int) (n i : Nat) (h : i < n) : (rowL first z n).getD i 0 = rv first z i := by simp [rowL, List.getD, h]
theorem info3 : (Try.prog.info? 3).map (fun i => (i.zero, i.size, i.bytes)) = some (some (.int .i64 0), 1, 8) := by kernel_rfl

theorem cell_of_row {w : World} {g : Nat} {cs : Array Value} {t : TypeId} (h : w.heap[g]? = some (.cells cs t)) (i : Nat) : w.cell? ⟨g, i, none⟩ = cs[i]? := by
  unfold World.cell?
  rw [h]
  simp
theorem new_cell (W : World) (cs : Array Value) (t : TypeId) (b i : Nat) (h : W.heap.size = b) : (W.alloc (.cells cs t)).cell? ⟨b, i, none⟩ = cs[i]? := by
  subst h
  exact cell_of_row (MapKept.heap_alloc W _).1 i
theorem made_cell (w : World) (n i : Nat) (h : i < n) : (w.alloc (.cells (madeCells (Value.int .i64 0).cells (n * 1)) 3)).cell? ⟨w.heap.size, i, none⟩ = some (.int .i64 0) := by
  rw [cell_of_row (MapKept.heap_alloc w _).1]
  simp [madeCells, Value.cells, h, Nat.mod_one]
theorem new_free (w : World) (cs : Array Value) (t : TypeId) (i : Nat) : (w.alloc (.cells cs t)).frozen? ⟨w.heap.size, i, none⟩ = false := by
  unfold World.frozen?
  rw [(MapKept.heap_alloc w _).1]
  simp

set_option maxHeartbeats 1000000 in
theorem row_ok (first z : Int) (n : Nat) (w : World) (hn : n ≤ 1000) (hp : pw z = true) :
    Calls Try.prog 13 #[.int .i64 first, .int .i64 n, .int .i64 z] w fun e w' => e = .returned (.tuple #[.slice (some ⟨w.heap.size, 0, none⟩) n n, .int .i64 0]) ∧
      (∀ i, i < n → w'.cell? ⟨w.heap.size, i, none⟩ = some (.int .i64 (rv first z i))) ∧ (∀ i, i < n → w'.frozen? ⟨w.heap.size, i, none⟩ = false) ∧ Below w.heap.size w w' ∧ w.heap.size < w'.heap.size := by
  obtain ⟨i0, hi, hz0, hz1, hz2⟩ := info_parts info3
  have hmk : ∀ W, (Instr.makeSlice 31 (.int .i64 n) (.int .i64 n)).run Try.prog W = .ok (.slice (some ⟨W.heap.size, 0, none⟩) n n) (W.alloc (.cells (madeCells (Value.int .i64 0).cells (n * 1)) 3)) := by
    intro W
    have h := run_make (P := Try.prog) W 31 3 i0 (.int .i64 0) Try.underlying31 hi hz0 .i64 .i64 n n (by omega) (Int.le_refl _) (by rw [hz2]; omega) (by omega)
    rw [hz1] at h
    simpa using h
  have m1 := made_cell w n
  have m2 := new_free w (madeCells (Value.int .i64 0).cells (n * 1)) 3
  obtain ⟨W1, hW1⟩ : ∃ W1, W1 = (w.alloc (.cells (madeCells (Value.int .i64 0).cells (n * 1)) 3)) := ⟨_, rfl⟩
  have m3 : Below w.heap.size w W1 := by rw [hW1]; exact (Below.refl _ _).alloc (Nat.le_refl _) _
  have m4 : w.heap.size < W1.heap.size := by rw [hW1]; simp
  have hmk1 := hmk w
  rw [← hW1] at m1 m2 hmk1
  clear hmk hW1 hi hz0 hz1 hz2
  have C2 := isSize_any z
  rw [hp] at C2
  obtain ⟨hz0, hz1⟩ := pw_bounds z hp
  have C3 := fun x w h1 h2 => spread_any x z w h1 h2 hz0 hz1
  rw [show (if z = 1 then (1 : Int) else z - 1) = dm z from rfl] at C3
  have M1 : Hid _ := m1
  have M2 : Hid _ := m2
  clear m1 m2 hp
  have hn1 : ¬ (n : Int) < 0 := by omega
  have hn2 : ¬ (1000 : Int) < n := by omega
  obtain ⟨G, hG⟩ : ∃ G, w.heap.size = G := ⟨_, rfl⟩
  rw [hG] at hmk1 M1 M2 m3 m4 ⊢
  go_enter Try.func13, Try.ntmps13
  go_wp2_with (go_at_call 19; refine (C2 _).mono ?_; rintro e w ⟨rfl, rfl⟩)
  go_loopw [25] (fun i wr => ∃ k : Nat, i = .int .i64 k ∧ k ≤ n ∧ Hid (∀ j, j < n → wr.cell? ⟨G, j, none⟩ = some (.int .i64 (if j < k then rv first z j else 0))) ∧ Hid (∀ j, j < n → wr.frozen? ⟨G, j, none⟩ = false) ∧ Below G w wr ∧ G < wr.heap.size) (fun i _ => n - (intOf i).toNat)
  case atStart => exact ⟨0, rfl, by omega, fun j hj => by rw [M1.out j hj]; simp, fun j hj => M2.out j, m3, m4⟩
  case round =>
    obtain ⟨k, rfl, hk, HC, HF, hb, hs⟩ := hrel
    by_cases hlt : k < n
    · have hlt' : (k : Int) < (n : Int) := by omega
      have c1 := HC.out k hlt
      rw [if_neg (by omega)] at c1
      have f1 := HF.out k hlt
      have C4 : ∀ W, Calls Try.prog 20 #[.int .u64 (IntKind.u64.wrap (wrap64 (first + (k : Int)))), .int .i64 z] W fun e w' => e = .returned (.int .i64 (rv first z k)) ∧ w' = W := by
        intro W
        have e1 : IntKind.u64.wrap (wrap64 (first + k)) = (first + (k : Int)) % 18446744073709551616 := by rw [IntKind.wrap_u64]; unfold wrap64; omega
        have := C3 ((first + (k : Int)) % 18446744073709551616) W (by omega) (by omega)
        rw [e1]
        exact this
      go_wp2_with (go_at_call 20; refine (C4 _).mono ?_; rintro e w2 ⟨rfl, rfl⟩)
      go_roundw
      case rel =>
        refine ⟨k + 1, by go_num, by omega, fun j hj => ?_, fun j hj => ?_, hb.setCell (by simp) _, by simpa using hs⟩
        · by_cases hjk : j = k
          · subst hjk
            rw [World.cell?_setCell_same _ _ _ c1, if_pos (by omega)]
          · rw [World.cell?_setCell_other _ _ _ _ (fun q => by injection q with _ q2; omega), HC.out j hj]
            by_cases hjl : j < k
            · rw [if_pos hjl, if_pos (by omega)]
            · rw [if_neg hjl, if_neg (by omega)]
        · rw [World.frozen?_setCell]; exact HF.out j hj
      case measure => simp [intOf]; omega
    · go_wp2
      go_ret2
      refine ⟨rfl, fun i hi => ?_, HF.out, hb, hs⟩
      rw [HC.out i hi, if_pos (by omega)]

set_option maxHeartbeats 600000 in
theorem row_bad (first n z : Int) (w : World) (h : n < 0 ∨ 1000 < n ∨ pw z = false) :
    Calls Try.prog 13 #[.int .i64 first, .int .i64 n, .int .i64 z] w fun e w' => e = .returned (.tuple #[.slice none 0 0, .int .i64 1]) ∧ w' = w := by
  have C2 := isSize_any z
  by_cases h1 : n < 0
  · go_enter Try.func13, Try.ntmps13
    go_wp2
    go_ret2
    exact ⟨rfl, rfl⟩
  · by_cases h2 : 1000 < n
    · go_enter Try.func13, Try.ntmps13
      go_wp2
      go_ret2
      exact ⟨rfl, rfl⟩
    · have h3 : pw z = false := by rcases h with h | h | h; exact absurd h h1; exact absurd h h2; exact h
      rw [h3] at C2
      clear h
      go_enter Try.func13, Try.ntmps13
      go_wp2_with (go_at_call 19; refine (C2 _).mono ?_; rintro e w ⟨rfl, rfl⟩)
      go_ret2
      exact ⟨rfl, rfl⟩

set_option maxHeartbeats 600000 in
theorem rrow_bad (first n z : Int) (w : World) (h : n < 0 ∨ 1000 < n ∨ pw z = false) :
    Calls Try.prog 14 #[.int .i64 first, .int .i64 n, .int .i64 z] w fun e w' => e = .returned (.tuple #[.slice none 0 0, .int .i64 1]) ∧ w' = w := by
  have C2 := power_any z
  by_cases h1 : n < 0
  · go_enter Try.func14, Try.ntmps14
    go_wp2
    go_ret2
    exact ⟨rfl, rfl⟩
  · by_cases h2 : 1000 < n
    · go_enter Try.func14, Try.ntmps14
      go_wp2
      go_ret2
      exact ⟨rfl, rfl⟩
    · have h3 : pw z = false := by rcases h with h | h | h; exact absurd h h1; exact absurd h h2; exact h
      rw [h3] at C2
      clear h
      go_enter Try.func14, Try.ntmps14
      go_wp2_with (go_at_call 22; refine (C2 _).mono ?_; rintro e w ⟨rfl, rfl⟩)
      go_ret2
      exact ⟨rfl, rfl⟩

def intV (x : Int) : Value := .int .i64 x
theorem rowL_succ (first z : Int) (k : Nat) : rowL first z (k + 1) = rowL first z k ++ [rv first z k] := by simp [rowL, List.range_succ]
theorem slice_shape {w : World} {base : Nat} {e : TypeId} {size : Nat} {v : Value} {n : Nat} {xs : List Value} (h : w.ownsRow base e size v n xs) : ∃ a c, v = .slice a n c := by
  rcases h.2 with ⟨rfl, rfl⟩ | ⟨g, cap, cur, rfl, _⟩
  · exact ⟨_, _, rfl⟩
  · exact ⟨_, _, rfl⟩

set_option maxHeartbeats 1000000 in
theorem rrow_ok (first z : Int) (n : Nat) (w : World) (hn : n ≤ 1000) (hp : pw z = true) :
    Calls Try.prog 14 #[.int .i64 first, .int .i64 n, .int .i64 z] w fun e w' => ∃ v, e = .returned (.tuple #[v, .int .i64 0]) ∧
      w'.ownsRow w.heap.size 3 1 v n ((rowL first z n).map intV) ∧ Below w.heap.size w w' := by
  obtain ⟨i0, hi, hz0, hz1, hz2⟩ := info_parts info3
  have C2 := power_any z
  rw [hp] at C2
  have HP : Hid _ := hp
  clear hp
  have hn1 : ¬ (n : Int) < 0 := by omega
  have hn2 : ¬ (1000 : Int) < n := by omega
  go_enter Try.func14, Try.ntmps14
  go_wp2_with (go_at_call 22; refine (C2 _).mono ?_; rintro e w ⟨rfl, rfl⟩)
  go_loopw [8, 9] (fun v i wr => ∃ k : Nat, i = .int .i64 k ∧ k ≤ n ∧ wr.ownsRow w.heap.size 3 1 v k ((rowL first z k).map intV) ∧ Below w.heap.size w wr) (fun _ i _ => n - (intOf i).toNat)
  case atStart => exact ⟨0, rfl, by omega, World.ownsRow_nil _ _ _ _, Below.refl _ _⟩
  case round =>
    obtain ⟨k, rfl, hk, hown, hb⟩ := hrel
    obtain ⟨a0, c0, rfl⟩ := slice_shape hown
    by_cases hlt : k < n
    · have hlt' : (k : Int) < (n : Int) := by omega
      have C5 : ∀ W, _ := mkI (wrap64 (first + (k : Int)))
      have HR : Hid (rv first z k = mp 2 (wrap64 (first + (k : Int))) ⟨#[]⟩ z) := by
        show _ = _
        unfold rv mp
        simp only [show ¬ ((2 : Int) = 1) by omega, if_false, if_true]
        congr 1; unfold wrap64; omega
      have C6 := fun W => rplace_any 2 (wrap64 (first + (k : Int))) ⟨#[]⟩ z W (by unfold wrap64; omega) (by unfold wrap64; omega) (by unfold inF; simp) HP.out (by omega)
      rw [← HR.out] at C6
      clear HR
      unfold vl vb at C5 C6
      obtain ⟨x, hx⟩ : ∃ x, rv first z k = x := ⟨_, rfl⟩
      have HX : Hid (rowL first z (k + 1) = rowL first z k ++ [x]) := by rw [← hx]; exact rowL_succ first z k
      rw [hx] at C6
      clear hx
      go_wp2_with (first | (go_at_call 16; refine (C5 _).mono ?_; rintro e w2 ⟨rfl, rfl⟩) | (go_at_call 23; refine (C6 _).mono ?_; rintro e w2 ⟨rfl, rfl⟩) | (at_builtin; refine wpList_append_own _ rfl _ _ 31 rfl w.heap.size 3 i0 (.int .i64 0) 1 8 Try.underlying31 hi hz0 hz1 hz2 rfl (by decide) _ _ _ rfl (((hown.alloc _).alloc _).alloc _) _ 1 1 [intV x] rfl rfl ?c1 ?c2 ?c3 ?c4 ?c5 ?_))
      case c1 =>
        intro j y hj
        match j, hj with
        | 0, hj => simp at hj; subst hj; show _ = some (Value.int .i64 x); simp [Addr.add]; rw [new_cell _ _ _ _ _ (by simp)]; rfl
      case c2 => intro y hy; simp at hy; subst hy; rfl
      case c3 => unfold maxLen; omega
      case c4 => omega
      case c5 => have := hb.size; simp; omega
      intro v' w1 hown' hgrow _
      have hbw1 : Below w.heap.size w w1 := (((hb.alloc hb.size _).alloc (by have := hb.size; simp; omega) _).alloc (by have := hb.size; simp; omega) _).grown hgrow (by have := hb.size; simp; omega) (fun k hk => (hown.lt k hk).1)
      clear hown hgrow hb
      go_wp2
      go_roundw
      case rel => exact ⟨k + 1, by go_num, by omega, by rw [HX.out]; simpa using hown', hbw1⟩
      case measure => simp [intOf]; omega
    · have hkn : k = n := by omega
      subst hkn
      go_wp2
      go_ret2
      exact ⟨_, rfl, hown, hb⟩

theorem ints_row (first z : Int) (n : Nat) (w w' : World) (hc : ∀ i, i < n → w'.cell? ⟨w.heap.size, i, none⟩ = some (.int .i64 (rv first z i))) (hs : w.heap.size < w'.heap.size) :
    Ints w.heap.size w'.heap.size w' (.slice (some ⟨w.heap.size, 0, none⟩) n n) (rowL first z n) := by
  refine ⟨_, n, by rw [rowL_len], fun _ => ⟨_, rfl, ⟨Nat.le_refl _, hs⟩, fun i hi => ?_⟩⟩
  rw [rowL_len] at hi
  rw [hc i hi, rowL_get _ _ _ _ hi]
theorem ints_own {B : Nat} {w : World} {v : Value} {l : List Int} (h : w.ownsRow B 3 1 v l.length (l.map intV)) : Ints B w.heap.size w v l := by
  have hcs := fun g => h.cells (g := g)
  rcases h.2 with ⟨rfl, hz⟩ | ⟨g, cap, cur, rfl, h2, h3, h4, h5, h6, h7⟩
  · exact ⟨none, 0, by rw [hz], fun hl => absurd (List.eq_nil_of_length_eq_zero hz) hl⟩
  · refine ⟨_, cap, rfl, fun _ => ⟨g, rfl, ⟨h2, ?_⟩, fun i hi => ?_⟩⟩
    · have := Array.getElem?_eq_some_iff.1 h3; exact this.1
    · have := hcs g rfl i (intV (l.getD i 0)) (by simp [List.getD, List.getElem?_eq_getElem hi])
      by_cases hp0 : i = 0
      · subst hp0; simpa [Addr.add, intV] using this
      · simpa [Addr.add, hp0, intV] using this
theorem ints_nil (B : Nat) (w : World) : Ints B w.heap.size w (.slice none 0 0) [] := ⟨none, 0, rfl, fun h => absurd rfl h⟩

/-- What Row answers. -/
def rL (first n z : Int) : List Int := if n < 0 ∨ 1000 < n ∨ pw z = false then [] else rowL first z n.toNat
def rE (n z : Int) : Int := if n < 0 ∨ 1000 < n ∨ pw z = false then 1 else 0
theorem rL_len (first n z : Int) : (rL first n z).length ≤ 1000 := by
  unfold rL
  split
  · simp
  · rw [rowL_len]; omega

/-- A list of the call's own: the block in which it lies is new, and may be written. -/
theorem row_any (first n z : Int) (w : World) :
    Calls Try.prog 13 #[.int .i64 first, .int .i64 n, .int .i64 z] w fun e w' => ∃ v, e = .returned (.tuple #[v, .int .i64 (rE n z)]) ∧ Ints w.heap.size w'.heap.size w' v (rL first n z) ∧ Below w.heap.size w w' ∧
      (rL first n z ≠ [] → v = .slice (some ⟨w.heap.size, 0, none⟩) (rL first n z).length (rL first n z).length ∧ ∀ i, i < (rL first n z).length → w'.frozen? ⟨w.heap.size, i, none⟩ = false) := by
  by_cases h : n < 0 ∨ 1000 < n ∨ pw z = false
  · have e1 : rL first n z = [] := by unfold rL; rw [if_pos h]
    have e2 : rE n z = 1 := by unfold rE; rw [if_pos h]
    rw [e1, e2]
    exact (row_bad first n z w h).mono fun e w' ⟨he, hw⟩ => ⟨_, he, ints_nil _ w', hw ▸ Below.refl _ _, fun h => absurd rfl h⟩
  · have e1 : rL first n z = rowL first z n.toNat := by unfold rL; rw [if_neg h]
    have e2 : rE n z = 0 := by unfold rE; rw [if_neg h]
    have hp : pw z = true := by cases hz : pw z; exact absurd (Or.inr (Or.inr hz)) h; rfl
    obtain ⟨m, rfl⟩ : ∃ m : Nat, n = m := ⟨n.toNat, by omega⟩
    rw [e1, e2, Int.toNat_natCast]
    refine (row_ok first z m w (by omega) hp).mono fun e w' ⟨he, hc, hf, hb, hs⟩ => ⟨_, he, ints_row first z m w w' hc hs, hb, fun _ => ⟨by rw [rowL_len], fun i hi => hf i (by rw [rowL_len] at hi; exact hi)⟩⟩
theorem rrow_any (first n z : Int) (w : World) :
    Calls Try.prog 14 #[.int .i64 first, .int .i64 n, .int .i64 z] w fun e w' => ∃ v, e = .returned (.tuple #[v, .int .i64 (rE n z)]) ∧ Ints w.heap.size w'.heap.size w' v (rL first n z) ∧ Below w.heap.size w w' := by
  by_cases h : n < 0 ∨ 1000 < n ∨ pw z = false
  · have e1 : rL first n z = [] := by unfold rL; rw [if_pos h]
    have e2 : rE n z = 1 := by unfold rE; rw [if_pos h]
    rw [e1, e2]
    exact (rrow_bad first n z w h).mono fun e w' ⟨he, hw⟩ => ⟨_, he, ints_nil _ w', hw ▸ Below.refl _ _⟩
  · have e1 : rL first n z = rowL first z n.toNat := by unfold rL; rw [if_neg h]
    have e2 : rE n z = 0 := by unfold rE; rw [if_neg h]
    have hp : pw z = true := by cases hz : pw z; exact absurd (Or.inr (Or.inr hz)) h; rfl
    obtain ⟨m, rfl⟩ : ∃ m : Nat, n = m := ⟨n.toNat, by omega⟩
    rw [e1, e2, Int.toNat_natCast]
    refine (rrow_ok first z m w (by omega) hp).mono fun e w' ⟨v, he, ho, hb⟩ => ⟨v, he, ints_own (B := w.heap.size) (by rw [rowL_len]; exact ho), hb⟩

end Go.Proofs.Ytimmoecjfkacpab
