/- The walk of the law BoxOne. -/
import Derived.Test.YtimmoecjfkacpaaDoorAs
namespace Go.Proofs.YtimmoecjfkacpaaDoor
open Go.RowKit

theorem At.cells {w : World} {g : Nat} {k n : Int} {s : ByteArray} (h : At w g k n s) : w.cell? ⟨g, 0, none⟩ = some (.int .i64 k) ∧ w.cell? ⟨g, 1, none⟩ = some (.int .i64 n) ∧ w.cell? ⟨g, 2, none⟩ = some (.string s) := ⟨h.k, h.n, h.s⟩

set_option maxRecDepth 20000 in
set_option maxHeartbeats 1000000 in
theorem one_bad (k n : Int) (s : ByteArray) (h : inF k n s = false) (w : World) (htab : Tab w) : Calls Tryd.prog 8 #[vl k n s] w fun e w' => e = .returned (.bool true) ∧ Below w.heap.size w w' := by
  have D1 := fun q => as_bad k n s q h
  have D2 := check_any k n s
  have hc : chk k n s = 2 := by simp [chk, h]
  rw [hc] at D2
  have HT := tab_keep htab (b1 w (vb k n s))
  have HT2 : Hid _ := HT
  clear h hc htab HT
  have A := At.new w k n s
  have B := b1 w (vb k n s)
  unfold vl vb at *
  go_enter Tryd.func8, Tryd.ntmps8
  go_wp2_with fail
  refine (fixed_any _ HT2.out).mono ?_; rintro e w1 ⟨rfl, hb⟩
  replace A := A.below hb
  replace B := bthen B (by simp) hb
  clear hb HT2
  obtain ⟨V, hV⟩ : ∃ V, w.heap.size = V := ⟨_, rfl⟩
  rw [hV] at A B ⊢
  go_wp2_with fail
  go_loopw [3, 4] (fun c i wr => ∃ q : Nat, i = .int .i64 q ∧ q ≤ 7 ∧ c = .int .i64 0 ∧ Hid (At wr V k n s) ∧ Hid (Below V w wr)) (fun _ i _ => 7 - (intOf i).toNat)
  case atStart => exact ⟨0, rfl, by omega, rfl, A, B⟩
  case round =>
    clear A B
    obtain ⟨q, rfl, hq, rfl, A, B⟩ := hrel
    obtain ⟨a0, a1, a2⟩ := A.out.cells
    by_cases hlt : q ≤ 6
    · have hlt' : (q : Int) ≤ 6 := by omega
      go_wp2_with fail
      refine (D1 _ _).mono ?_; rintro e w2 ⟨rfl, hb⟩
      have A2 : Hid (∀ o, At (w2.alloc o) V k n s) := fun o => (A.out.below hb).alloc o
      have B2 : Hid (Below V w w2) := bthen B.out (Nat.le_of_lt A.out.lt) hb
      have hl : V < w2.heap.size := (A.out.below hb).lt
      have c0 := fun o => (A2.out o).k
      have c1 := fun o => (A2.out o).n
      have c2 := fun o => (A2.out o).s
      clear a0 a1 a2 hb A B
      go_wp2_with fail
      refine (D2 _).mono ?_; rintro e w3 ⟨rfl, rfl⟩
      go_wp2_with fail
      go_roundw
      case rel => exact ⟨q + 1, by go_num, by omega, rfl, (A2.out _).alloc _, (B2.out.alloc (Nat.le_of_lt hl) _).alloc (by simp; omega) _⟩
      case measure => simp [intOf]; omega
    · have hlt' : ¬ (q : Int) ≤ 6 := by omega
      have hl : V < wr.heap.size := A.out.lt
      go_wp2_with fail
      refine (D2 _).mono ?_; rintro e w3 ⟨rfl, rfl⟩
      go_wp2_with fail
      go_ret
      exact ⟨rfl, hV.symm ▸ B.out.alloc (Nat.le_of_lt hl) _⟩

set_option maxRecDepth 20000 in
set_option maxHeartbeats 1000000 in
theorem one_ok (b : Bx) (hb : b.ok) (w : World) (htab : Tab w) : Calls Tryd.prog 8 #[b.val] w fun e w' => e = .returned (.bool true) ∧ Below w.heap.size w w' := by
  obtain ⟨kr0, kr1⟩ := kind_range b
  have D1 := as_yes b hb (kind_range b)
  have D0 := fun q h1 h2 => as_no b hb q h1 h2
  have D2 := check_any b.kind b.num b.txt
  have D3 := Must_hit b hb
  have hc : chk b.kind b.num b.txt = 0 := by simp [chk, ok_form b hb]
  rw [hc] at D2
  unfold Bx.val at *
  generalize b.kind = k at *
  generalize b.num = n at *
  generalize b.txt = s at *
  clear hb hc b
  obtain ⟨K, rfl⟩ : ∃ K : Nat, k = K := ⟨k.toNat, by omega⟩
  have HT := tab_keep htab (b1 w (vb K n s))
  have HT2 : Hid _ := HT
  clear htab HT
  have A := At.new w K n s
  have B := b1 w (vb K n s)
  unfold vl vb at *
  go_enter Tryd.func8, Tryd.ntmps8
  go_wp2_with fail
  refine (fixed_any _ HT2.out).mono ?_; rintro e w1 ⟨rfl, hb⟩
  replace A := A.below hb
  replace B := bthen B (by simp) hb
  clear hb HT2
  obtain ⟨V, hV⟩ : ∃ V, w.heap.size = V := ⟨_, rfl⟩
  rw [hV] at A B ⊢
  go_wp2_with fail
  go_loopw [3, 4] (fun c i wr => ∃ q : Nat, i = .int .i64 q ∧ q ≤ 7 ∧ ∃ m : Nat, c = .int .i64 m ∧ Hid (m = if K < q then 1 else 0) ∧ Hid (At wr V K n s) ∧ Hid (Below V w wr)) (fun _ i _ => 7 - (intOf i).toNat)
  case atStart => exact ⟨0, rfl, by omega, 0, rfl, by (show _ = _; simp), A, B⟩
  case round =>
    clear A B
    obtain ⟨q, rfl, hq, m, rfl, HM, A, B⟩ := hrel
    obtain ⟨a0, a1, a2⟩ := A.out.cells
    by_cases hlt : q ≤ 6
    · have hlt' : (q : Int) ≤ 6 := by omega
      by_cases hK : q = K
      · subst hK
        have hm : m = 0 := by rw [HM.out, if_neg (by omega)]
        subst hm
        clear HM
        go_wp2_with fail
        refine (D1 _).mono ?_; rintro e w2 ⟨rfl, hb⟩
        have A2 : Hid (At w2 V q n s) := A.out.below hb
        have B2 : Hid (Below V w w2) := bthen B.out (Nat.le_of_lt A.out.lt) hb
        have hl : V < w2.heap.size := A2.out.lt
        clear a0 a1 a2 hb A B
        obtain ⟨X, F, F1, F2⟩ := class_of (w2.alloc (.cells #[.int .i64 q, .int .i64 n, .string s] 23))
        have Z := At.new w2 q n s
        unfold vb at Z
        have A3 : Hid (∀ x, At (F x) V q n s) := fun x => (A2.out.alloc _).below (F1 x)
        have Z3 : Hid (∀ x, At (F x) w2.heap.size q n s) := fun x => Z.below (F1 x)
        have d0 := fun x => (A3.out x).k
        have d1 := fun x => (A3.out x).n
        have d2 := fun x => (A3.out x).s
        have e0 := fun x => (Z3.out x).k
        have e1 := fun x => (Z3.out x).n
        have e2 := fun x => (Z3.out x).s
        have hS : ∀ x, Calls Tryd.prog 23 #[.agg #[.int .i64 q, .int .i64 n, .string s], .int .i64 q] (F x) fun e w'' => e = .returned (.agg #[.int .i64 q, .int .i64 n, .string s]) ∧ ∃ y, w'' = F y := fun x =>
          (D3 (F x)).mono fun e w' ⟨he, hw⟩ => ⟨he, F2 w' (bthen (F1 x) (F1 x).size hw)⟩
        have HC : Hid (∃ x, (w2.alloc (.cells #[.int .i64 q, .int .i64 n, .string s] 23)).drew = F x) := F2 _ (Below.refl _ _).drew
        have HB : Hid (∀ x, Below V w (F x)) := fun x => bthen (B2.out.alloc (Nat.le_of_lt hl) _) (by simp; omega) (F1 x)
        clear F1 F2 Z D0 D1 D3
        go_wp2_with fail
        haveI : Nonempty X := HC.out.elim fun x _ => ⟨x⟩
        refine wp_class (F := F) (by kernel_rfl) (by kernel_rfl) HC.out ?_
        repeat (go_big_quiet_step (exact hS _))
        refine wpQuiet_nil ?_
        intro _ hw'
        obtain ⟨x, rfl⟩ := hw'
        go_wp2_with fail
        refine (D2 _).mono ?_; rintro e w3 ⟨rfl, rfl⟩
        go_wp2_with fail
        go_roundw
        case rel => exact ⟨q + 1, by go_num, by omega, 1, rfl, by (show _ = _; rw [if_pos (by omega)]), (A3.out x).alloc _, (HB.out x).alloc (Nat.le_of_lt (A3.out x).lt) _⟩
        case measure => simp [intOf]; omega
      · have D4 := D0 (q : Int) ⟨by omega, by omega⟩ (by omega)
        have hKK : Hid (¬ q = K) := hK
        clear hK D0 D1
        go_wp2_with fail
        refine (D4 _).mono ?_; rintro e w2 ⟨rfl, hb⟩
        have A2 : Hid (∀ o, At (w2.alloc o) V K n s) := fun o => (A.out.below hb).alloc o
        have B2 : Hid (Below V w w2) := bthen B.out (Nat.le_of_lt A.out.lt) hb
        have hl : V < w2.heap.size := (A.out.below hb).lt
        have c0 := fun o => (A2.out o).k
        have c1 := fun o => (A2.out o).n
        have c2 := fun o => (A2.out o).s
        clear a0 a1 a2 hb A B
        go_wp2_with fail
        refine (D2 _).mono ?_; rintro e w3 ⟨rfl, rfl⟩
        go_wp2_with fail
        go_roundw
        case rel =>
          refine ⟨q + 1, by go_num, by omega, m, rfl, ?_, (A2.out _).alloc _, (B2.out.alloc (Nat.le_of_lt hl) _).alloc (by simp; omega) _⟩
          show _ = _
          rw [HM.out]
          have := hKK.out
          by_cases h1 : K < q
          · rw [if_pos h1, if_pos (by omega)]
          · rw [if_neg h1, if_neg (by omega)]
        case measure => simp [intOf]; omega
    · have hlt' : ¬ (q : Int) ≤ 6 := by omega
      have hm : m = 1 := by rw [HM.out, if_pos (by omega)]
      subst hm
      have hl : V < wr.heap.size := A.out.lt
      go_wp2_with fail
      refine (D2 _).mono ?_; rintro e w3 ⟨rfl, rfl⟩
      go_wp2_with fail
      go_ret
      exact ⟨rfl, hV.symm ▸ B.out.alloc (Nat.le_of_lt hl) _⟩

theorem one_walk (k n : Int) (s : ByteArray) (w : World) (h0 : -9223372036854775808 ≤ n) (h1 : n ≤ 9223372036854775807) (htab : Tab w) : Calls Tryd.prog 8 #[vl k n s] w fun e w' => e = .returned (.bool true) ∧ Below w.heap.size w w' := by
  cases hf : inF k n s
  · exact one_bad k n s hf w htab
  · obtain ⟨b, hb, rfl, rfl, rfl⟩ := form_of k n s h0 h1 hf
    exact one_ok b hb w htab

end Go.Proofs.YtimmoecjfkacpaaDoor
