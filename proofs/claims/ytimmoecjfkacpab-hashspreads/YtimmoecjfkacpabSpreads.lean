/- The walk of the law HashSpreads. -/
import Derived.Test.YtimmoecjfkacpabRowsW
namespace Go.Proofs.Ytimmoecjfkacpab
open Go.RowKit

/-- Is the position j among those of the first k numbers from F on? -/
def sn (F d k j : Nat) : Bool := (List.range k).any fun i => (F + i) % d == j
theorem sn_succ (F d k j : Nat) : sn F d (k + 1) j = (sn F d k j || (F + k) % d == j) := by simp [sn, List.range_succ]
theorem sn_new (F d k : Nat) (h : k < d) : sn F d k ((F + k) % d) = false := by
  rw [sn, List.any_eq_false]
  intro i hi
  rw [List.mem_range] at hi
  simp only [beq_iff_eq]
  intro he
  have := Nat.sub_mod_eq_zero_of_mod_eq he.symm
  rw [show F + k - (F + i) = k - i by omega, Nat.mod_eq_of_lt (by omega)] at this
  omega
theorem sn_old (F d : Nat) (h : 1 ≤ d) : sn F d d ((F + d) % d) = true := by
  rw [sn, List.any_eq_true]
  exact ⟨0, List.mem_range.2 (by omega), by simp⟩
theorem rv_row (f : Int) (m k : Nat) (hm : 2 ≤ m) (hk : k < m) (hf : (0 ≤ f ∧ f ≤ 9223372036854775807 - m) ∨ (f ≤ -(m : Int) ∧ -9223372036854775808 ≤ f)) :
    rv f m k = (((f % 18446744073709551616).toNat + k) % (m - 1) : Nat) := by
  have hd : dm (m : Int) = ((m - 1 : Nat) : Int) := by unfold dm; rw [if_neg (by omega)]; omega
  unfold rv
  rw [hd]
  have e : (f + (k : Int)) % 18446744073709551616 = (((f % 18446744073709551616).toNat + k : Nat) : Int) := by omega
  rw [e]
  simp
theorem info4 : (Try.prog.info? 4).map (fun i => (i.zero, i.size, i.bytes)) = some (some (.bool false), 1, 1) := by kernel_rfl
theorem made_bool (w : World) (n i : Nat) (h : i < n) : (w.alloc (.cells (madeCells (Value.bool false).cells (n * 1)) 4)).cell? ⟨w.heap.size, i, none⟩ = some (.bool false) := by
  rw [cell_of_row (MapKept.heap_alloc w _).1]
  simp [madeCells, Value.cells, h, Nat.mod_one]
theorem make_bool (m : Nat) (hm : m ≤ 1000) (W : World) : (Instr.makeSlice 36 (.int .i64 m) (.int .i64 m)).run Try.prog W = .ok (.slice (some ⟨W.heap.size, 0, none⟩) m m) (W.alloc (.cells (madeCells (Value.bool false).cells (m * 1)) 4)) := by
  obtain ⟨i0, hi, hz0, hz1, hz2⟩ := info_parts info4
  have h := run_make (P := Try.prog) W 36 4 i0 (.bool false) Try.underlying36 hi hz0 .i64 .i64 m m (by omega) (Int.le_refl _) (by rw [hz2]; omega) (by omega)
  rw [hz1] at h
  simpa using h

theorem sp_step {wr : World} {R S F m t x : Nat} (hRS : R < S) (HC : ∀ i, i < m → wr.cell? ⟨R, i, none⟩ = some (.int .i64 (((F + i) % (m - 1) : Nat) : Int)))
    (HS : ∀ y, y < m → wr.cell? ⟨S, y, none⟩ = some (.bool (sn F (m - 1) t y))) (HF : ∀ y, wr.frozen? ⟨S, y, none⟩ = false) (hx : x < m) (hs : ∀ y, sn F (m - 1) (t + 1) y = (sn F (m - 1) t y || x == y)) :
    (∀ i, i < m → (wr.setCell ⟨S, x, none⟩ (.bool true)).cell? ⟨R, i, none⟩ = some (.int .i64 (((F + i) % (m - 1) : Nat) : Int))) ∧
    (∀ y, y < m → (wr.setCell ⟨S, x, none⟩ (.bool true)).cell? ⟨S, y, none⟩ = some (.bool (sn F (m - 1) (t + 1) y))) ∧ (∀ y, (wr.setCell ⟨S, x, none⟩ (.bool true)).frozen? ⟨S, y, none⟩ = false) := by
  refine ⟨fun i hi => ?_, fun y hy => ?_, fun y => ?_⟩
  · rw [World.cell?_setCell_other _ _ _ _ (fun q => by injection q with q1 _; omega)]; exact HC i hi
  · by_cases hxy : y = x
    · subst hxy
      rw [World.cell?_setCell_same _ _ _ (HS y hy), hs y]; simp
    · rw [World.cell?_setCell_other _ _ _ _ (fun q => by injection q with _ q2; omega), HS y hy, hs y]
      have : (x == y) = false := by simp; omega
      rw [this, Bool.or_false]
  · rw [World.frozen?_setCell]; exact HF y

set_option maxHeartbeats 2000000 in
theorem spreads_walk (first k : Int) (w : World) (hf0 : -9223372036854775808 ≤ first) (hf1 : first ≤ 9223372036854775807) :
    Calls Try.prog 6 #[.int .i64 first, .int .i64 k] w fun e w' => e = .returned (.bool true) ∧ Below w.heap.size w w' := by
  go_enter Try.func6, Try.ntmps6
  go_wp2_with fail
  refine (fixed_any w).mono ?_
  rintro e w0 ⟨rfl, b0⟩
  go_wp2_with fail
  go_loop [5, 6] (fun z i => ∃ j : Nat, (1 ≤ j ∧ j ≤ 9) ∧ i = .int .i64 ((j - 1 : Nat) : Int) ∧ ∃ m : Nat, z = .int .i64 (m : Nat) ∧ Hid (m = 2 ^ j)) (fun z _ => 2000 - (intOf z).toNat)
  case atStart => exact ⟨1, by omega, rfl, 2, rfl, rfl⟩
  case round =>
    obtain ⟨j, ⟨hj1, hj2⟩, rfl, m, rfl, HM⟩ := hrel
    obtain ⟨q1, q2, q3⟩ := pow_at j (by omega)
    rw [← HM.out] at q1 q2 q3
    have Q1 : Hid _ := q1
    have hm2 : 2 ≤ m := by rw [HM.out]; have := Nat.pow_le_pow_right (show 0 < 2 by omega) hj1; omega
    have hm3 : m ≤ 512 := by rw [HM.out]; have := Nat.pow_le_pow_right (show 0 < 2 by omega) hj2; omega
    clear q1 q2 q3
    by_cases hgo : ((j - 1 : Nat) : Int) < k ∧ m < 512
    · obtain ⟨g1, g2⟩ := hgo
      have g2' : (m : Int) < 512 := by omega
      have g3 : j ≠ 9 := by intro h; rw [h] at HM; have := HM.out; omega
      go_wp2_with fail
      go_round
      case rel => exact ⟨j + 1, by omega, by simp; omega, m * 2, by simp, by (show _ = _; rw [HM.out, Nat.pow_succ])⟩
      case measure => simp [intOf]; omega
    · have hd1 : 1 ≤ m - 1 := by omega
      have hparts : ((first < 0 ∧ -(m : Int) < first) ∨ (¬ first < 0 ∧ 9223372036854775807 - (m : Int) < first)) ∨ ((first < 0 ∧ ¬ -(m : Int) < first) ∨ (¬ first < 0 ∧ ¬ 9223372036854775807 - (m : Int) < first)) := by omega
      have hexit : (¬ ((j - 1 : Nat) : Int) < k) ∨ (((j - 1 : Nat) : Int) < k ∧ ¬ (m : Int) < 512) := by omega
      obtain ⟨f, HF, hcase⟩ : ∃ f : Int, Hid ((0 ≤ f ∧ f ≤ 9223372036854775807 - m) ∨ (f ≤ -(m : Int) ∧ -9223372036854775808 ≤ f)) ∧
          ((f = 0 ∧ ((first < 0 ∧ -(m : Int) < first) ∨ (¬ first < 0 ∧ 9223372036854775807 - (m : Int) < first))) ∨ (f = first ∧ ((first < 0 ∧ ¬ -(m : Int) < first ∧ ¬ 9223372036854775807 - (m : Int) < first) ∨ (¬ first < 0 ∧ ¬ 9223372036854775807 - (m : Int) < first)))) := by
        rcases hparts with h | h
        · exact ⟨0, Or.inl ⟨by omega, by omega⟩, Or.inl ⟨rfl, h⟩⟩
        · refine ⟨first, ?_, Or.inr ⟨rfl, by omega⟩⟩
          rcases h with h | h
          · exact Or.inr ⟨by omega, hf0⟩
          · exact Or.inl ⟨by omega, by omega⟩
      have CR := fun W => row_ok f m m W (by omega) Q1.out
      clear hparts hgo HM hf0 hf1
      rcases hexit with g1 | ⟨g1, g2⟩ <;> rcases hcase with ⟨rfl, ⟨h1, h2⟩ | ⟨h1, h2⟩⟩ | ⟨rfl, ⟨h1, h2, h3⟩ | ⟨h1, h2⟩⟩
      all_goals
        go_wp2_with fail
        refine (CR w0).mono ?_
        rintro e w1 ⟨rfl, hc, hf, b1, hs1⟩
        obtain ⟨F, HC⟩ : ∃ F : Nat, Hid (∀ i, i < m → w1.cell? ⟨w0.heap.size, i, none⟩ = some (.int .i64 (((F + i) % (m - 1) : Nat) : Int))) := ⟨_, fun i hi => by rw [hc i hi, rv_row _ m i hm2 hi HF.out]⟩
        clear hc hf HF CR
        have hmk := make_bool m (by omega) w1
        have b2 : Below w1.heap.size w1 (w1.alloc (.cells (madeCells (Value.bool false).cells (m * 1)) 4)) := (Below.refl _ _).alloc (Nat.le_refl _) _
        have m1 : Hid _ := made_bool w1 m
        have m2 : Hid _ := new_free w1 (madeCells (Value.bool false).cells (m * 1)) 4
        obtain ⟨w2, hw2⟩ : ∃ w2, w2 = (w1.alloc (.cells (madeCells (Value.bool false).cells (m * 1)) 4)) := ⟨_, rfl⟩
        have hs2 : w2.heap.size = w1.heap.size + 1 := by rw [hw2]; simp
        rw [← hw2] at hmk b2 m1 m2
        clear hw2
        obtain ⟨S, hS⟩ : ∃ S, w1.heap.size = S := ⟨_, rfl⟩
        obtain ⟨R, hR⟩ : ∃ R, w0.heap.size = R := ⟨_, rfl⟩
        have HC2 : Hid (∀ i, i < m → w2.cell? ⟨R, i, none⟩ = some (.int .i64 (((F + i) % (m - 1) : Nat) : Int))) := fun i hi => by rw [b2.cell (show R < w1.heap.size by omega), ← hR]; exact HC.out i hi
        have bw : Below w.heap.size w w2 := bthen (bthen b0 b0.size b1) (Nat.le_trans b0.size b1.size) b2
        have hRS : R < S := by omega
        have hwS : w.heap.size ≤ S := by have := b0.size; omega
        rw [hS] at hmk m1 m2
        rw [hR]
        clear HC b0 b1 b2 hs1 hs2
        go_wp2_with fail
        go_loopw [10, 11] (fun n i wr => ∃ t : Nat, i = .int .i64 t ∧ t ≤ m ∧ ∃ c : Nat, n = .int .i64 (c : Nat) ∧ Hid (c = min t (m - 1)) ∧ Hid (∀ i, i < m → wr.cell? ⟨R, i, none⟩ = some (.int .i64 (((F + i) % (m - 1) : Nat) : Int))) ∧ Hid (∀ x, x < m → wr.cell? ⟨S, x, none⟩ = some (.bool (sn F (m - 1) t x))) ∧ Hid (∀ x, wr.frozen? ⟨S, x, none⟩ = false) ∧ Below w.heap.size w wr) (fun _ i _ => m - (intOf i).toNat)
        case atStart => exact ⟨0, rfl, by omega, 0, rfl, by (show _ = _; omega), HC2, fun x hx => m1.out x hx, m2, bw⟩
        case round =>
          clear HC2 bw m1 m2 hmk
          obtain ⟨t, rfl, ht, c, rfl, Hc, HC, HS, HF, hb⟩ := hrel
          by_cases hlt : t < m
          · have hlt' : (t : Int) < (m : Int) := by omega
            have c1 := HC.out t hlt
            obtain ⟨x, hx⟩ : ∃ x, (F + t) % (m - 1) = x := ⟨_, rfl⟩
            have hxm : x < m := by have := Nat.mod_lt (F + t) (show 0 < m - 1 by omega); omega
            have HSx : Hid ((t < m - 1 → sn F (m - 1) t x = false) ∧ (t = m - 1 → sn F (m - 1) t x = true) ∧ ∀ y, sn F (m - 1) (t + 1) y = (sn F (m - 1) t y || x == y)) := by
              refine ⟨fun h => ?_, fun h => ?_, fun y => ?_⟩
              · rw [← hx]; exact sn_new F (m - 1) t h
              · rw [← hx]; have := sn_old F (m - 1) (by omega); rw [← h] at this; rw [← h]; exact this
              · rw [sn_succ, hx]
            rw [hx] at c1
            have c2 := HS.out x hxm
            have f2 := HF.out x
            have hxm' : (x : Int) < (m : Int) := by omega
            clear hx
            by_cases hd : t < m - 1
            · rw [HSx.out.1 hd] at c2
              go_wp2_with fail
              go_roundw
              case rel =>
                obtain ⟨r1, r2, r3⟩ := sp_step hRS HC.out HS.out HF.out hxm HSx.out.2.2
                exact ⟨t + 1, by go_num, by omega, c + 1, congrArg (Value.int .i64) (by have := Hc.out; unfold wrap64; omega), by (show _ = _; have := Hc.out; omega), r1, r2, r3, hb.setCell (by exact hwS) _⟩
              case measure => simp [intOf]; omega
            · rw [HSx.out.2.1 (by omega)] at c2
              go_wp2_with fail
              go_roundw
              case rel =>
                obtain ⟨r1, r2, r3⟩ := sp_step hRS HC.out HS.out HF.out hxm HSx.out.2.2
                exact ⟨t + 1, by go_num, by omega, c, rfl, by (show _ = _; have := Hc.out; omega), r1, r2, r3, hb.setCell (by exact hwS) _⟩
              case measure => simp [intOf]; omega
          · have hc : c = m - 1 := by rw [Hc.out]; omega
            go_wp2_with fail
            go_ret
            exact ⟨ret_bool (decide_eq_true (by omega)), hb⟩

end Go.Proofs.Ytimmoecjfkacpab
