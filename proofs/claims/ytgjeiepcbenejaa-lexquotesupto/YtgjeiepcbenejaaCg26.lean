/- The walk of the reference's Quote. -/
import Derived.Test.YtgjeiepcbenejaaCg25
import Derived.Test.YtgjeiepcbenejaaCg13
namespace Go.Proofs.Ytgjeiepcbenejaa
open Go.RowKit

set_option maxHeartbeats 400000 in
theorem rhex_any (n : Nat) (w : World) (h : n < 16) : Calls Try.prog 28 #[.int .u8 n] w fun e w' => e = .returned (.int .u8 (hxd n).toNat) ∧ w' = w := by
  have : n = 0 ∨ n = 1 ∨ n = 2 ∨ n = 3 ∨ n = 4 ∨ n = 5 ∨ n = 6 ∨ n = 7 ∨ n = 8 ∨ n = 9 ∨ n = 10 ∨ n = 11 ∨ n = 12 ∨ n = 13 ∨ n = 14 ∨ n = 15 := by omega
  have h0 : (0 : Int) ≤ (n : Int) := Int.natCast_nonneg _
  have h1 : (n : Int) < 16 := by omega
  by_cases hn : n < 10
  · have h2 : (n : Int) < 10 := by omega
    have e1 : ((hxd n).toNat : Int) = 48 + (n : Int) := by
      unfold hxd; rw [if_pos hn]; simp; omega
    go_enter Try.func28, Try.ntmps28
    go_wp2
    go_ret
    exact ⟨congrArg (fun x => Ending.returned (.int .u8 x)) e1.symm, rfl⟩
  · have h2 : (10 : Int) ≤ (n : Int) := by omega
    have e1 : ((hxd n).toNat : Int) = 97 + (n : Int) - 10 := by
      unfold hxd; rw [if_neg hn]; simp; omega
    go_enter Try.func28, Try.ntmps28
    go_wp2
    go_ret
    exact ⟨congrArg (fun x => Ending.returned (.int .u8 x)) e1.symm, rfl⟩

theorem bc_app {w : World} {base n : Nat} {v : Value} {acc l : List UInt8} {xs : List Value} (h : w.ownsRow base 5 1 v n (Lib.byteCells acc ++ xs)) (hx : xs = Lib.byteCells l) (hn : n = acc.length + l.length) : w.ownsRow base 5 1 v (acc ++ l).length (Lib.byteCells (acc ++ l)) := by
  subst hx; rw [hn] at h
  rw [List.length_append, Lib.byteCells_append]; exact h

set_option maxRecDepth 20000 in
set_option maxHeartbeats 8000000 in
theorem rQuote_any (s : ByteArray) (w : World) (hs : s.size ≤ 1048576) :
    Calls Try.prog 14 #[.string s] w fun e w' => e = .returned (.string ⟨(quoQ s.data.toList).toArray⟩) ∧ Below w.heap.size w w' := by
  obtain ⟨i5, hi5, hy0, hy1, hy2⟩ := info_parts W.Try.info5
  have hr0 := row_one w 34
  obtain ⟨W1, hW1⟩ : ∃ W1, w.alloc (.cells #[.int .u8 34] 5) = W1 := ⟨_, rfl⟩
  have hr0' : W1.ownsRow w.heap.size 5 1 (.slice (some ⟨w.heap.size, 0, none⟩) 1 1) [(34 : UInt8)].length (Lib.byteCells [34]) := by rw [← hW1]; exact hr0
  have z1 : W1.heap.size = w.heap.size + 1 := by rw [← hW1]; simp
  have hB1 : Below w.heap.size w W1 := by rw [← hW1]; exact (Below.refl _ _).alloc (Nat.le_refl _) _
  clear hr0
  go_enter Try.func14, Try.ntmps14
  go_wp2
  go_loopg [3, 4] (s.size + 1) (fun gf v3 v4 wx => ∃ (pos : Nat) (acc : List UInt8), pos ≤ s.size ∧ v4 = .int .i64 pos ∧ wx.ownsRow w.heap.size 5 1 v3 acc.length (Lib.byteCells acc) ∧ Below w.heap.size w wx ∧ acc.length ≤ 4 * pos + 1 ∧ Hid (acc ++ quo (LD s pos) = 34 :: quo s.data.toList) ∧ s.size < pos + gf)
  case atStart => exact ⟨0, [34], Nat.zero_le _, by go_num, hr0', hB1, by simp, by show _ = _; simp [LD], by omega⟩
  case round =>
    obtain ⟨pos, acc, hple, rfl, hown, hB, hacc, hI, hfu⟩ := hrel
    have hzB := hB.size
    obtain ⟨av, cv, rfl⟩ := slice_shape hown
    have p0 : (0 : Int) ≤ (pos : Int) := Int.natCast_nonneg _
    by_cases hps : pos < s.size
    · obtain ⟨g', rfl⟩ : ∃ g', gk = g' + 1 := ⟨gk - 1, by omega⟩
      have p1 : (pos : Int) < (s.size : Int) := by omega
      have hwl := wd_le s pos hps
      have hwp := wd_pos s pos
      have hrl := rn_le s pos
      have hql := qr_len (LD s pos)
      have hW' : wd s pos = wdL (LD s pos) := wd_drop s pos
      have hR' : rn s pos = rnL (LD s pos) := rn_drop s pos
      rw [← hW'] at hql
      have HN : Hid ((acc ++ qr (LD s pos)) ++ quo (LD s (pos + wd s pos)) = 34 :: quo s.data.toList) := by
        show _ = _
        rw [← hI.out, quo_step (LD s pos) (LD_ne s pos hps), ← hW', LD_drop, List.append_assoc]
      have CA := fun w => rat_any s pos w hps hs
      unfold RAt at CA
      obtain ⟨c, hc⟩ := LD_cons s pos hps
      have hcs : s[pos] = c := by
        have := LD_hd s pos hps
        rw [hc] at this; exact this.symm
      have hext : s.extract pos (pos + wd s pos) = ⟨((LD s pos).take (wd s pos)).toArray⟩ := by
        apply ByteArray.ext; apply Array.toList_inj.1
        unfold LD; simp
      have hex2 : ∀ (h : c.toNat < 128), rn s pos = c.toNat ∧ wd s pos = 1 := fun h => by rw [hR', hW', hc]; exact asc c _ h
      have hcn : s[pos].toNat = c.toNat := by rw [hcs]
      obtain ⟨n, hn⟩ : ∃ n, wd s pos = n := ⟨_, rfl⟩
      obtain ⟨r, hr⟩ : ∃ r, rn s pos = r := ⟨_, rfl⟩
      obtain ⟨cn, hcc⟩ : ∃ cn, c.toNat = cn := ⟨_, rfl⟩
      have c0 : (0 : Int) ≤ (cn : Int) := Int.natCast_nonneg _
      have c1 : (cn : Int) < 256 := by have := c.toNat_lt; omega
      have HC : Hid (c = UInt8.ofNat cn) := by show _ = _; rw [← hcc]; simp
      rw [hn] at hwl hwp hW' hql HN CA hext hex2
      rw [hr] at hrl hR' CA hex2
      rw [hcc] at hcn hex2
      rw [hc] at HN hql hR' hW' hext
      clear hI hn hr hc hcs
      by_cases h1 : cn = 92 ∨ cn = 34
      · rw [qr1 c _ (by omega)] at HN hql
        rcases h1 with h1 | h1
        · subst h1
          have HN' : Hid ((acc ++ [92, 92]) ++ quo (LD s (pos + n)) = 34 :: quo s.data.toList) := by have := HN.out; rw [HC.out] at this; exact this
          clear HN HC hext hex2 hR' hW' hcc hql
          go_wp2_with (first
            | (go_at_call 17; refine (CA _).mono ?_; rintro e w1 ⟨rfl, hb1⟩; have hown1 := own_below hown hb1; have hB2 := hB.trans (hb1.mono hzB); have hz1 := hb1.size; obtain ⟨W2, hW2⟩ : ∃ W2, w1.alloc (.cells #[.int .i64 pos, .int .i64 n, .int .i64 r] 41) = W2 := ⟨_, rfl⟩; have k1 : W2.cell? ⟨w1.heap.size, 1, none⟩ = some (.int .i64 n) := (by rw [← hW2]; simp [go_sem]); have k2 : W2.cell? ⟨w1.heap.size, 2, none⟩ = some (.int .i64 r) := (by rw [← hW2]; simp [go_sem]); have z2 : W2.heap.size = w1.heap.size + 1 := (by rw [← hW2]; simp); have hown2 : W2.ownsRow w.heap.size 5 1 (.slice av acc.length cv) acc.length (Lib.byteCells acc) := (by rw [← hW2]; exact hown1.alloc _); have hB3 : Below w.heap.size w W2 := (by rw [← hW2]; exact hB2.alloc (by omega) _))
            | (at_builtin; refine wpList_append_own _ rfl _ _ 55 rfl w.heap.size 5 i5 (.int .u8 0) 1 1 Try.underlying55 hi5 hy0 hy1 hy2 rfl (by decide) (.slice av acc.length cv) acc.length (Lib.byteCells acc) rfl (World.ownsRow.alloc hown2 _) ⟨w1.heap.size + 1, 0, none⟩ 2 2 [.int .u8 92, .int .u8 92] rfl rfl ?_ ?_ ?_ ?_ ?_ ?_))
          all_goals try (first
            | rfl
            | (unfold maxLen; omega)
            | omega
            | (simp; omega)
            | (intro u hu; simp at hu; rcases hu with rfl | rfl <;> rfl)
            | (intro j u hj; match j, hj with | 0, hj => (simp at hj; subst hj; have hq := (new_cell W2 [.int .u8 92, .int .u8 92] 5 0 _ rfl).1; rw [z2] at hq; exact hq) | 1, hj => (simp at hj; subst hj; have hq := (new_cell W2 [.int .u8 92, .int .u8 92] 5 1 _ rfl).1; rw [z2] at hq; exact hq)))
          intro v5 w5 ho5 hg5 _
          have ho6 := bc_app (l := [92, 92]) ho5 (by simp [Lib.byteCells]) rfl
          have hB5 : Below w.heap.size w w5 := (hB3.alloc (by omega) _).grown hg5 (by simp; omega) (fun k hk => (hown2.lt k hk).1)
          have k1' : w5.cell? ⟨w1.heap.size, 1, none⟩ = some (.int .i64 n) := (World.cell?_of_block (hg5.block w1.heap.size (by simp; omega) (fun e => by have := (hown1.lt _ e.symm).2; omega))).trans ((((Below.refl _ W2).alloc (Nat.le_refl _) _).cell (p := ⟨w1.heap.size, 1, none⟩) (by show w1.heap.size < W2.heap.size; omega)).trans k1)
          clear ho5 hg5
          go_wp2
          go_roundg g'
          case measure => omega
          case rel => exact ⟨pos + n, acc ++ [92, 92], by omega, by go_num, ho6, hB5, by (rw [List.length_append]; simp only [List.length_cons, List.length_nil]; omega), HN', by omega⟩
        · subst h1
          have HN' : Hid ((acc ++ [92, 34]) ++ quo (LD s (pos + n)) = 34 :: quo s.data.toList) := by have := HN.out; rw [HC.out] at this; exact this
          clear HN HC hext hex2 hR' hW' hcc hql
          go_wp2_with (first
            | (go_at_call 17; refine (CA _).mono ?_; rintro e w1 ⟨rfl, hb1⟩; have hown1 := own_below hown hb1; have hB2 := hB.trans (hb1.mono hzB); have hz1 := hb1.size; obtain ⟨W2, hW2⟩ : ∃ W2, w1.alloc (.cells #[.int .i64 pos, .int .i64 n, .int .i64 r] 41) = W2 := ⟨_, rfl⟩; have k1 : W2.cell? ⟨w1.heap.size, 1, none⟩ = some (.int .i64 n) := (by rw [← hW2]; simp [go_sem]); have k2 : W2.cell? ⟨w1.heap.size, 2, none⟩ = some (.int .i64 r) := (by rw [← hW2]; simp [go_sem]); have z2 : W2.heap.size = w1.heap.size + 1 := (by rw [← hW2]; simp); have hown2 : W2.ownsRow w.heap.size 5 1 (.slice av acc.length cv) acc.length (Lib.byteCells acc) := (by rw [← hW2]; exact hown1.alloc _); have hB3 : Below w.heap.size w W2 := (by rw [← hW2]; exact hB2.alloc (by omega) _))
            | (at_builtin; refine wpList_append_own _ rfl _ _ 55 rfl w.heap.size 5 i5 (.int .u8 0) 1 1 Try.underlying55 hi5 hy0 hy1 hy2 rfl (by decide) (.slice av acc.length cv) acc.length (Lib.byteCells acc) rfl (World.ownsRow.alloc hown2 _) ⟨w1.heap.size + 1, 0, none⟩ 2 2 [.int .u8 92, .int .u8 34] rfl rfl ?_ ?_ ?_ ?_ ?_ ?_))
          all_goals try (first
            | rfl
            | (unfold maxLen; omega)
            | omega
            | (simp; omega)
            | (intro u hu; simp at hu; rcases hu with rfl | rfl <;> rfl)
            | (intro j u hj; match j, hj with | 0, hj => (simp at hj; subst hj; have hq := (new_cell W2 [.int .u8 92, .int .u8 34] 5 0 _ rfl).1; rw [z2] at hq; exact hq) | 1, hj => (simp at hj; subst hj; have hq := (new_cell W2 [.int .u8 92, .int .u8 34] 5 1 _ rfl).1; rw [z2] at hq; exact hq)))
          intro v5 w5 ho5 hg5 _
          have ho6 := bc_app (l := [92, 34]) ho5 (by simp [Lib.byteCells]) rfl
          have hB5 : Below w.heap.size w w5 := (hB3.alloc (by omega) _).grown hg5 (by simp; omega) (fun k hk => (hown2.lt k hk).1)
          have k1' : w5.cell? ⟨w1.heap.size, 1, none⟩ = some (.int .i64 n) := (World.cell?_of_block (hg5.block w1.heap.size (by simp; omega) (fun e => by have := (hown1.lt _ e.symm).2; omega))).trans ((((Below.refl _ W2).alloc (Nat.le_refl _) _).cell (p := ⟨w1.heap.size, 1, none⟩) (by show w1.heap.size < W2.heap.size; omega)).trans k1)
          clear ho5 hg5
          go_wp2
          go_roundg g'
          case measure => omega
          case rel => exact ⟨pos + n, acc ++ [92, 34], by omega, by go_num, ho6, hB5, by (rw [List.length_append]; simp only [List.length_cons, List.length_nil]; omega), HN', by omega⟩
      by_cases h2 : cn = 10
      · rw [qr2 c _ (by omega) (by omega)] at HN hql
        subst h2
        have HN' := HN
        clear HN HC hext hex2 hR' hW' hcc hql
        go_wp2_with (first
          | (go_at_call 17; refine (CA _).mono ?_; rintro e w1 ⟨rfl, hb1⟩; have hown1 := own_below hown hb1; have hB2 := hB.trans (hb1.mono hzB); have hz1 := hb1.size; obtain ⟨W2, hW2⟩ : ∃ W2, w1.alloc (.cells #[.int .i64 pos, .int .i64 n, .int .i64 r] 41) = W2 := ⟨_, rfl⟩; have k1 : W2.cell? ⟨w1.heap.size, 1, none⟩ = some (.int .i64 n) := (by rw [← hW2]; simp [go_sem]); have k2 : W2.cell? ⟨w1.heap.size, 2, none⟩ = some (.int .i64 r) := (by rw [← hW2]; simp [go_sem]); have z2 : W2.heap.size = w1.heap.size + 1 := (by rw [← hW2]; simp); have hown2 : W2.ownsRow w.heap.size 5 1 (.slice av acc.length cv) acc.length (Lib.byteCells acc) := (by rw [← hW2]; exact hown1.alloc _); have hB3 : Below w.heap.size w W2 := (by rw [← hW2]; exact hB2.alloc (by omega) _))
          | (at_builtin; refine wpList_append_own _ rfl _ _ 55 rfl w.heap.size 5 i5 (.int .u8 0) 1 1 Try.underlying55 hi5 hy0 hy1 hy2 rfl (by decide) (.slice av acc.length cv) acc.length (Lib.byteCells acc) rfl (World.ownsRow.alloc hown2 _) ⟨w1.heap.size + 1, 0, none⟩ 2 2 [.int .u8 92, .int .u8 110] rfl rfl ?_ ?_ ?_ ?_ ?_ ?_))
        all_goals try (first
          | rfl
          | (unfold maxLen; omega)
          | omega
          | (simp; omega)
          | (intro u hu; simp at hu; rcases hu with rfl | rfl <;> rfl)
          | (intro j u hj; match j, hj with | 0, hj => (simp at hj; subst hj; have hq := (new_cell W2 [.int .u8 92, .int .u8 110] 5 0 _ rfl).1; rw [z2] at hq; exact hq) | 1, hj => (simp at hj; subst hj; have hq := (new_cell W2 [.int .u8 92, .int .u8 110] 5 1 _ rfl).1; rw [z2] at hq; exact hq)))
        intro v5 w5 ho5 hg5 _
        have ho6 := bc_app (l := [92, 110]) ho5 (by simp [Lib.byteCells]) rfl
        have hB5 : Below w.heap.size w w5 := (hB3.alloc (by omega) _).grown hg5 (by simp; omega) (fun k hk => (hown2.lt k hk).1)
        have k1' : w5.cell? ⟨w1.heap.size, 1, none⟩ = some (.int .i64 n) := (World.cell?_of_block (hg5.block w1.heap.size (by simp; omega) (fun e => by have := (hown1.lt _ e.symm).2; omega))).trans ((((Below.refl _ W2).alloc (Nat.le_refl _) _).cell (p := ⟨w1.heap.size, 1, none⟩) (by show w1.heap.size < W2.heap.size; omega)).trans k1)
        clear ho5 hg5
        go_wp2
        go_roundg g'
        case measure => omega
        case rel => exact ⟨pos + n, acc ++ [92, 110], by omega, by go_num, ho6, hB5, by (rw [List.length_append]; simp only [List.length_cons, List.length_nil]; omega), HN', by omega⟩
      by_cases h3 : cn = 13
      · rw [qr3 c _ (by omega) (by omega) (by omega)] at HN hql
        subst h3
        have HN' := HN
        clear HN HC hext hex2 hR' hW' hcc hql
        go_wp2_with (first
          | (go_at_call 17; refine (CA _).mono ?_; rintro e w1 ⟨rfl, hb1⟩; have hown1 := own_below hown hb1; have hB2 := hB.trans (hb1.mono hzB); have hz1 := hb1.size; obtain ⟨W2, hW2⟩ : ∃ W2, w1.alloc (.cells #[.int .i64 pos, .int .i64 n, .int .i64 r] 41) = W2 := ⟨_, rfl⟩; have k1 : W2.cell? ⟨w1.heap.size, 1, none⟩ = some (.int .i64 n) := (by rw [← hW2]; simp [go_sem]); have k2 : W2.cell? ⟨w1.heap.size, 2, none⟩ = some (.int .i64 r) := (by rw [← hW2]; simp [go_sem]); have z2 : W2.heap.size = w1.heap.size + 1 := (by rw [← hW2]; simp); have hown2 : W2.ownsRow w.heap.size 5 1 (.slice av acc.length cv) acc.length (Lib.byteCells acc) := (by rw [← hW2]; exact hown1.alloc _); have hB3 : Below w.heap.size w W2 := (by rw [← hW2]; exact hB2.alloc (by omega) _))
          | (at_builtin; refine wpList_append_own _ rfl _ _ 55 rfl w.heap.size 5 i5 (.int .u8 0) 1 1 Try.underlying55 hi5 hy0 hy1 hy2 rfl (by decide) (.slice av acc.length cv) acc.length (Lib.byteCells acc) rfl (World.ownsRow.alloc hown2 _) ⟨w1.heap.size + 1, 0, none⟩ 2 2 [.int .u8 92, .int .u8 114] rfl rfl ?_ ?_ ?_ ?_ ?_ ?_))
        all_goals try (first
          | rfl
          | (unfold maxLen; omega)
          | omega
          | (simp; omega)
          | (intro u hu; simp at hu; rcases hu with rfl | rfl <;> rfl)
          | (intro j u hj; match j, hj with | 0, hj => (simp at hj; subst hj; have hq := (new_cell W2 [.int .u8 92, .int .u8 114] 5 0 _ rfl).1; rw [z2] at hq; exact hq) | 1, hj => (simp at hj; subst hj; have hq := (new_cell W2 [.int .u8 92, .int .u8 114] 5 1 _ rfl).1; rw [z2] at hq; exact hq)))
        intro v5 w5 ho5 hg5 _
        have ho6 := bc_app (l := [92, 114]) ho5 (by simp [Lib.byteCells]) rfl
        have hB5 : Below w.heap.size w w5 := (hB3.alloc (by omega) _).grown hg5 (by simp; omega) (fun k hk => (hown2.lt k hk).1)
        have k1' : w5.cell? ⟨w1.heap.size, 1, none⟩ = some (.int .i64 n) := (World.cell?_of_block (hg5.block w1.heap.size (by simp; omega) (fun e => by have := (hown1.lt _ e.symm).2; omega))).trans ((((Below.refl _ W2).alloc (Nat.le_refl _) _).cell (p := ⟨w1.heap.size, 1, none⟩) (by show w1.heap.size < W2.heap.size; omega)).trans k1)
        clear ho5 hg5
        go_wp2
        go_roundg g'
        case measure => omega
        case rel => exact ⟨pos + n, acc ++ [92, 114], by omega, by go_num, ho6, hB5, by (rw [List.length_append]; simp only [List.length_cons, List.length_nil]; omega), HN', by omega⟩
      have b1 : ((cn : Int) == 92) = false := by rw [beq_eq_false_iff_ne]; omega
      have b2 : ((cn : Int) == 34) = false := by rw [beq_eq_false_iff_ne]; omega
      have b3 : ((cn : Int) == 10) = false := by rw [beq_eq_false_iff_ne]; omega
      have b4 : ((cn : Int) == 13) = false := by rw [beq_eq_false_iff_ne]; omega
      by_cases h4 : cn < 32 ∨ cn = 127
      · rw [qr4 c _ (by omega) (by omega) (by omega) (by omega), hcc] at HN hql
        have HN' := HN
        have hx1 : 48 + (cn : Int) / 100 = ((UInt8.ofNat (48 + cn / 100)).toNat : Int) := by simp; omega
        have hx2 : 48 + (cn : Int) / 10 % 10 = ((UInt8.ofNat (48 + cn / 10 % 10)).toNat : Int) := by simp; omega
        have hx3 : 48 + (cn : Int) % 10 = ((UInt8.ofNat (48 + cn % 10)).toNat : Int) := by simp; omega
        have HX : Hid ([Value.int .u8 92, .int .u8 (48 + (cn : Int) / 100), .int .u8 (48 + (cn : Int) / 10 % 10), .int .u8 (48 + (cn : Int) % 10)] = Lib.byteCells [92, UInt8.ofNat (48 + cn / 100), UInt8.ofNat (48 + cn / 10 % 10), UInt8.ofNat (48 + cn % 10)]) := by show _ = _; rw [hx1, hx2, hx3]; rfl
        clear HN HC hext hex2 hR' hW' hcc hql hx1 hx2 hx3
        rcases h4 with h4 | h4
        · have d1 : (cn : Int) < 32 := by omega
          clear h4
          go_wp2_with (first
            | (go_at_call 17; refine (CA _).mono ?_; rintro e w1 ⟨rfl, hb1⟩; have hown1 := own_below hown hb1; have hB2 := hB.trans (hb1.mono hzB); have hz1 := hb1.size; obtain ⟨W2, hW2⟩ : ∃ W2, w1.alloc (.cells #[.int .i64 pos, .int .i64 n, .int .i64 r] 41) = W2 := ⟨_, rfl⟩; have k1 : W2.cell? ⟨w1.heap.size, 1, none⟩ = some (.int .i64 n) := (by rw [← hW2]; simp [go_sem]); have k2 : W2.cell? ⟨w1.heap.size, 2, none⟩ = some (.int .i64 r) := (by rw [← hW2]; simp [go_sem]); have z2 : W2.heap.size = w1.heap.size + 1 := (by rw [← hW2]; simp); have hown2 : W2.ownsRow w.heap.size 5 1 (.slice av acc.length cv) acc.length (Lib.byteCells acc) := (by rw [← hW2]; exact hown1.alloc _); have hB3 : Below w.heap.size w W2 := (by rw [← hW2]; exact hB2.alloc (by omega) _))
            | (at_builtin; refine wpList_append_own _ rfl _ _ 55 rfl w.heap.size 5 i5 (.int .u8 0) 1 1 Try.underlying55 hi5 hy0 hy1 hy2 rfl (by decide) (.slice av acc.length cv) acc.length (Lib.byteCells acc) rfl (World.ownsRow.alloc hown2 _) ⟨w1.heap.size + 1, 0, none⟩ 4 4 [.int .u8 92, .int .u8 (48 + (cn : Int) / 100), .int .u8 (48 + (cn : Int) / 10 % 10), .int .u8 (48 + (cn : Int) % 10)] rfl rfl ?_ ?_ ?_ ?_ ?_ ?_))
          all_goals try (first
            | rfl
            | (unfold maxLen; omega)
            | omega
            | (simp; omega)
            | (intro u hu; simp at hu; rcases hu with rfl | rfl | rfl | rfl <;> rfl)
            | (intro j u hj; match j, hj with | 0, hj => (simp at hj; subst hj; have hq := (new_cell W2 [.int .u8 92, .int .u8 (48 + (cn : Int) / 100), .int .u8 (48 + (cn : Int) / 10 % 10), .int .u8 (48 + (cn : Int) % 10)] 5 0 _ rfl).1; rw [z2] at hq; exact hq) | 1, hj => (simp at hj; subst hj; have hq := (new_cell W2 [.int .u8 92, .int .u8 (48 + (cn : Int) / 100), .int .u8 (48 + (cn : Int) / 10 % 10), .int .u8 (48 + (cn : Int) % 10)] 5 1 _ rfl).1; rw [z2] at hq; exact hq) | 2, hj => (simp at hj; subst hj; have hq := (new_cell W2 [.int .u8 92, .int .u8 (48 + (cn : Int) / 100), .int .u8 (48 + (cn : Int) / 10 % 10), .int .u8 (48 + (cn : Int) % 10)] 5 2 _ rfl).1; rw [z2] at hq; exact hq) | 3, hj => (simp at hj; subst hj; have hq := (new_cell W2 [.int .u8 92, .int .u8 (48 + (cn : Int) / 100), .int .u8 (48 + (cn : Int) / 10 % 10), .int .u8 (48 + (cn : Int) % 10)] 5 3 _ rfl).1; rw [z2] at hq; exact hq)))
          intro v5 w5 ho5 hg5 _
          have ho6 := bc_app (l := [92, UInt8.ofNat (48 + cn / 100), UInt8.ofNat (48 + cn / 10 % 10), UInt8.ofNat (48 + cn % 10)]) ho5 (HX.out) rfl
          have hB5 : Below w.heap.size w w5 := (hB3.alloc (by omega) _).grown hg5 (by simp; omega) (fun k hk => (hown2.lt k hk).1)
          have k1' : w5.cell? ⟨w1.heap.size, 1, none⟩ = some (.int .i64 n) := (World.cell?_of_block (hg5.block w1.heap.size (by simp; omega) (fun e => by have := (hown1.lt _ e.symm).2; omega))).trans ((((Below.refl _ W2).alloc (Nat.le_refl _) _).cell (p := ⟨w1.heap.size, 1, none⟩) (by show w1.heap.size < W2.heap.size; omega)).trans k1)
          clear ho5 hg5
          go_wp2
          go_roundg g'
          case measure => omega
          case rel => exact ⟨pos + n, acc ++ [92, UInt8.ofNat (48 + cn / 100), UInt8.ofNat (48 + cn / 10 % 10), UInt8.ofNat (48 + cn % 10)], by omega, by go_num, ho6, hB5, by (rw [List.length_append]; simp only [List.length_cons, List.length_nil]; omega), HN', by omega⟩
        · subst h4
          clear HX b1 b2 b3 b4
          go_wp2_with (first
            | (go_at_call 17; refine (CA _).mono ?_; rintro e w1 ⟨rfl, hb1⟩; have hown1 := own_below hown hb1; have hB2 := hB.trans (hb1.mono hzB); have hz1 := hb1.size; obtain ⟨W2, hW2⟩ : ∃ W2, w1.alloc (.cells #[.int .i64 pos, .int .i64 n, .int .i64 r] 41) = W2 := ⟨_, rfl⟩; have k1 : W2.cell? ⟨w1.heap.size, 1, none⟩ = some (.int .i64 n) := (by rw [← hW2]; simp [go_sem]); have k2 : W2.cell? ⟨w1.heap.size, 2, none⟩ = some (.int .i64 r) := (by rw [← hW2]; simp [go_sem]); have z2 : W2.heap.size = w1.heap.size + 1 := (by rw [← hW2]; simp); have hown2 : W2.ownsRow w.heap.size 5 1 (.slice av acc.length cv) acc.length (Lib.byteCells acc) := (by rw [← hW2]; exact hown1.alloc _); have hB3 : Below w.heap.size w W2 := (by rw [← hW2]; exact hB2.alloc (by omega) _))
            | (at_builtin; refine wpList_append_own _ rfl _ _ 55 rfl w.heap.size 5 i5 (.int .u8 0) 1 1 Try.underlying55 hi5 hy0 hy1 hy2 rfl (by decide) (.slice av acc.length cv) acc.length (Lib.byteCells acc) rfl (World.ownsRow.alloc hown2 _) ⟨w1.heap.size + 1, 0, none⟩ 4 4 [.int .u8 92, .int .u8 49, .int .u8 50, .int .u8 55] rfl rfl ?_ ?_ ?_ ?_ ?_ ?_))
          all_goals try (first
            | rfl
            | (unfold maxLen; omega)
            | omega
            | (simp; omega)
            | (intro u hu; simp at hu; rcases hu with rfl | rfl | rfl | rfl <;> rfl)
            | (intro j u hj; match j, hj with | 0, hj => (simp at hj; subst hj; have hq := (new_cell W2 [.int .u8 92, .int .u8 49, .int .u8 50, .int .u8 55] 5 0 _ rfl).1; rw [z2] at hq; exact hq) | 1, hj => (simp at hj; subst hj; have hq := (new_cell W2 [.int .u8 92, .int .u8 49, .int .u8 50, .int .u8 55] 5 1 _ rfl).1; rw [z2] at hq; exact hq) | 2, hj => (simp at hj; subst hj; have hq := (new_cell W2 [.int .u8 92, .int .u8 49, .int .u8 50, .int .u8 55] 5 2 _ rfl).1; rw [z2] at hq; exact hq) | 3, hj => (simp at hj; subst hj; have hq := (new_cell W2 [.int .u8 92, .int .u8 49, .int .u8 50, .int .u8 55] 5 3 _ rfl).1; rw [z2] at hq; exact hq)))
          intro v5 w5 ho5 hg5 _
          have ho6 := bc_app (l := [92, 49, 50, 55]) ho5 (rfl) rfl
          have hB5 : Below w.heap.size w w5 := (hB3.alloc (by omega) _).grown hg5 (by simp; omega) (fun k hk => (hown2.lt k hk).1)
          have k1' : w5.cell? ⟨w1.heap.size, 1, none⟩ = some (.int .i64 n) := (World.cell?_of_block (hg5.block w1.heap.size (by simp; omega) (fun e => by have := (hown1.lt _ e.symm).2; omega))).trans ((((Below.refl _ W2).alloc (Nat.le_refl _) _).cell (p := ⟨w1.heap.size, 1, none⟩) (by show w1.heap.size < W2.heap.size; omega)).trans k1)
          clear ho5 hg5
          go_wp2
          go_roundg g'
          case measure => omega
          case rel => exact ⟨pos + n, acc ++ [92, 49, 50, 55], by omega, by go_num, ho6, hB5, by (rw [List.length_append]; simp only [List.length_cons, List.length_nil]; omega), HN', by omega⟩
      have b5 : ¬ (cn : Int) < 32 := by omega
      have b6 : ((cn : Int) == 127) = false := by rw [beq_eq_false_iff_ne]; omega
      by_cases h5 : r = 65533 ∧ n = 1
      · rw [qr5 c _ (by omega) (by omega) (by omega) (by omega) (by rw [← hR', ← hW']; exact h5), hcc] at HN hql
        obtain ⟨e1, e2⟩ := h5
        have e1b : ((r : Int) == 65533) = true := by rw [beq_iff_eq]; omega
        have e2b : ((n : Int) == 1) = true := by rw [beq_iff_eq]; omega
        clear e1 e2
        have HN' := HN
        have CH1 := fun w => rhex_any (cn / 16) w (by omega)
        have CH2 := fun w => rhex_any (cn % 16) w (by omega)
        have m1 : (cn : Int) / 16 = ((cn / 16 : Nat) : Int) := by omega
        have m2 : (cn : Int) % 16 = ((cn % 16 : Nat) : Int) := by omega
        rw [← m1] at CH1
        rw [← m2] at CH2
        clear HN HC hext hex2 hR' hW' hcc hql m1 m2
        go_wp2_with (first
          | (go_at_call 17; refine (CA _).mono ?_; rintro e w1 ⟨rfl, hb1⟩; have hown1 := own_below hown hb1; have hB2 := hB.trans (hb1.mono hzB); have hz1 := hb1.size; obtain ⟨W2, hW2⟩ : ∃ W2, w1.alloc (.cells #[.int .i64 pos, .int .i64 n, .int .i64 r] 41) = W2 := ⟨_, rfl⟩; have k1 : W2.cell? ⟨w1.heap.size, 1, none⟩ = some (.int .i64 n) := (by rw [← hW2]; simp [go_sem]); have k2 : W2.cell? ⟨w1.heap.size, 2, none⟩ = some (.int .i64 r) := (by rw [← hW2]; simp [go_sem]); have z2 : W2.heap.size = w1.heap.size + 1 := (by rw [← hW2]; simp); have hown2 : W2.ownsRow w.heap.size 5 1 (.slice av acc.length cv) acc.length (Lib.byteCells acc) := (by rw [← hW2]; exact hown1.alloc _); have hB3 : Below w.heap.size w W2 := (by rw [← hW2]; exact hB2.alloc (by omega) _))
          | (go_at_call 28; first | (refine (CH1 _).mono ?_; rintro e wq ⟨rfl, hwq⟩; rw [hwq]) | (refine (CH2 _).mono ?_; rintro e wq ⟨rfl, hwq⟩; rw [hwq]))
          | (at_builtin; refine wpList_append_own _ rfl _ _ 55 rfl w.heap.size 5 i5 (.int .u8 0) 1 1 Try.underlying55 hi5 hy0 hy1 hy2 rfl (by decide) (.slice av acc.length cv) acc.length (Lib.byteCells acc) rfl (World.ownsRow.alloc hown2 _) ⟨w1.heap.size + 1, 0, none⟩ 4 4 [.int .u8 92, .int .u8 120, .int .u8 ((hxd (cn / 16)).toNat : Int), .int .u8 ((hxd (cn % 16)).toNat : Int)] rfl rfl ?_ ?_ ?_ ?_ ?_ ?_))
        all_goals try (first
          | rfl
          | (unfold maxLen; omega)
          | omega
          | (simp; omega)
          | (intro u hu; simp at hu; rcases hu with rfl | rfl | rfl | rfl <;> rfl)
          | (intro j u hj; match j, hj with | 0, hj => (simp at hj; subst hj; have hq := (new_cell W2 [.int .u8 92, .int .u8 120, .int .u8 ((hxd (cn / 16)).toNat : Int), .int .u8 ((hxd (cn % 16)).toNat : Int)] 5 0 _ rfl).1; rw [z2] at hq; exact hq) | 1, hj => (simp at hj; subst hj; have hq := (new_cell W2 [.int .u8 92, .int .u8 120, .int .u8 ((hxd (cn / 16)).toNat : Int), .int .u8 ((hxd (cn % 16)).toNat : Int)] 5 1 _ rfl).1; rw [z2] at hq; exact hq) | 2, hj => (simp at hj; subst hj; have hq := (new_cell W2 [.int .u8 92, .int .u8 120, .int .u8 ((hxd (cn / 16)).toNat : Int), .int .u8 ((hxd (cn % 16)).toNat : Int)] 5 2 _ rfl).1; rw [z2] at hq; exact hq) | 3, hj => (simp at hj; subst hj; have hq := (new_cell W2 [.int .u8 92, .int .u8 120, .int .u8 ((hxd (cn / 16)).toNat : Int), .int .u8 ((hxd (cn % 16)).toNat : Int)] 5 3 _ rfl).1; rw [z2] at hq; exact hq)))
        intro v5 w5 ho5 hg5 _
        have ho6 := bc_app (l := [92, 120, hxd (cn / 16), hxd (cn % 16)]) ho5 (rfl) rfl
        have hB5 : Below w.heap.size w w5 := (hB3.alloc (by omega) _).grown hg5 (by simp; omega) (fun k hk => (hown2.lt k hk).1)
        have k1' : w5.cell? ⟨w1.heap.size, 1, none⟩ = some (.int .i64 n) := (World.cell?_of_block (hg5.block w1.heap.size (by simp; omega) (fun e => by have := (hown1.lt _ e.symm).2; omega))).trans ((((Below.refl _ W2).alloc (Nat.le_refl _) _).cell (p := ⟨w1.heap.size, 1, none⟩) (by show w1.heap.size < W2.heap.size; omega)).trans k1)
        clear ho5 hg5
        go_wp2
        go_roundg g'
        case measure => omega
        case rel => exact ⟨pos + n, acc ++ [92, 120, hxd (cn / 16), hxd (cn % 16)], by omega, by go_num, ho6, hB5, by (rw [List.length_append]; simp only [List.length_cons, List.length_nil]; omega), HN', by omega⟩
      · rw [qr6 c _ (by omega) (by omega) (by omega) (by omega) (by rw [← hR', ← hW']; exact h5), ← hW'] at HN hql
        obtain ⟨y, hy⟩ : ∃ y, (c :: LD s (pos + 1)).take n = y := ⟨_, rfl⟩
        have hyl : y.length ≤ 4 * n := by rw [hy] at hql; exact hql
        rw [hy] at HN hext
        have n0 : (0 : Int) ≤ (n : Int) := Int.natCast_nonneg _
        have n1 : (pos : Int) + (n : Int) ≤ (s.size : Int) := by omega
        have n2 : (pos : Int) ≤ (pos : Int) + (n : Int) := by omega
        clear hex2 hR' hW' hcc hql hy HC h1 h2 h3 h4
        have HN' := HN
        have hys : (⟨y.toArray⟩ : ByteArray).size = y.length := sz_list y
        by_cases h6 : r = 65533
        · have d1 : ((r : Int) == 65533) = true := by rw [beq_iff_eq]; omega
          have d2 : ((n : Int) == 1) = false := by rw [beq_eq_false_iff_ne]; intro e; exact h5 ⟨h6, by omega⟩
          clear h5 h6
          go_wp2_with (first
            | (go_at_call 17; refine (CA _).mono ?_; rintro e w1 ⟨rfl, hb1⟩; have hown1 := own_below hown hb1; have hB2 := hB.trans (hb1.mono hzB); have hz1 := hb1.size; obtain ⟨W2, hW2⟩ : ∃ W2, w1.alloc (.cells #[.int .i64 pos, .int .i64 n, .int .i64 r] 41) = W2 := ⟨_, rfl⟩; have k1 : W2.cell? ⟨w1.heap.size, 1, none⟩ = some (.int .i64 n) := (by rw [← hW2]; simp [go_sem]); have k2 : W2.cell? ⟨w1.heap.size, 2, none⟩ = some (.int .i64 r) := (by rw [← hW2]; simp [go_sem]); have z2 : W2.heap.size = w1.heap.size + 1 := (by rw [← hW2]; simp); have hown2 : W2.ownsRow w.heap.size 5 1 (.slice av acc.length cv) acc.length (Lib.byteCells acc) := (by rw [← hW2]; exact hown1.alloc _); have hB3 : Below w.heap.size w W2 := (by rw [← hW2]; exact hB2.alloc (by omega) _))
            | (at_builtin; refine Lib.wpList_append_own_string _ rfl _ _ 55 9 rfl w.heap.size 5 i5 Try.underlying55 Try.underlying9 hi5 hy0 hy1 hy2 (.slice av acc.length cv) acc.length (Lib.byteCells acc) rfl hown2 _ rfl ?_ ?_ ?_ ?_))
          all_goals try rw [hext] at *
          all_goals try (first
            | (rw [hys]; unfold maxLen; omega)
            | (rw [hys]; omega)
            | omega)
          intro v5 w5 ho5 hg5 _
          have ho6 := own_app ho5 (by rw [hys]) rfl
          have hB5 : Below w.heap.size w w5 := hB3.grown hg5 (by omega) (fun k hk => (hown2.lt k hk).1)
          have k1' : w5.cell? ⟨w1.heap.size, 1, none⟩ = some (.int .i64 n) := (World.cell?_of_block (hg5.block w1.heap.size (by omega) (fun e => by have := (hown1.lt _ e.symm).2; omega))).trans k1
          clear ho5 hg5
          go_wp2
          go_roundg g'
          case measure => omega
          case rel => exact ⟨pos + n, acc ++ y, by omega, by go_num, by simpa using ho6, hB5, by (rw [List.length_append]; omega), HN', by omega⟩
        · have d1 : ((r : Int) == 65533) = false := by rw [beq_eq_false_iff_ne]; omega
          clear h5 h6
          go_wp2_with (first
            | (go_at_call 17; refine (CA _).mono ?_; rintro e w1 ⟨rfl, hb1⟩; have hown1 := own_below hown hb1; have hB2 := hB.trans (hb1.mono hzB); have hz1 := hb1.size; obtain ⟨W2, hW2⟩ : ∃ W2, w1.alloc (.cells #[.int .i64 pos, .int .i64 n, .int .i64 r] 41) = W2 := ⟨_, rfl⟩; have k1 : W2.cell? ⟨w1.heap.size, 1, none⟩ = some (.int .i64 n) := (by rw [← hW2]; simp [go_sem]); have k2 : W2.cell? ⟨w1.heap.size, 2, none⟩ = some (.int .i64 r) := (by rw [← hW2]; simp [go_sem]); have z2 : W2.heap.size = w1.heap.size + 1 := (by rw [← hW2]; simp); have hown2 : W2.ownsRow w.heap.size 5 1 (.slice av acc.length cv) acc.length (Lib.byteCells acc) := (by rw [← hW2]; exact hown1.alloc _); have hB3 : Below w.heap.size w W2 := (by rw [← hW2]; exact hB2.alloc (by omega) _))
            | (at_builtin; refine Lib.wpList_append_own_string _ rfl _ _ 55 9 rfl w.heap.size 5 i5 Try.underlying55 Try.underlying9 hi5 hy0 hy1 hy2 (.slice av acc.length cv) acc.length (Lib.byteCells acc) rfl hown2 _ rfl ?_ ?_ ?_ ?_))
          all_goals try rw [hext] at *
          all_goals try (first
            | (rw [hys]; unfold maxLen; omega)
            | (rw [hys]; omega)
            | omega)
          intro v5 w5 ho5 hg5 _
          have ho6 := own_app ho5 (by rw [hys]) rfl
          have hB5 : Below w.heap.size w w5 := hB3.grown hg5 (by omega) (fun k hk => (hown2.lt k hk).1)
          have k1' : w5.cell? ⟨w1.heap.size, 1, none⟩ = some (.int .i64 n) := (World.cell?_of_block (hg5.block w1.heap.size (by omega) (fun e => by have := (hown1.lt _ e.symm).2; omega))).trans k1
          clear ho5 hg5
          go_wp2
          go_roundg g'
          case measure => omega
          case rel => exact ⟨pos + n, acc ++ y, by omega, by go_num, by simpa using ho6, hB5, by (rw [List.length_append]; omega), HN', by omega⟩
    · have HF : Hid (acc = 34 :: quo s.data.toList) := by
        show _ = _
        have e : LD s pos = [] := List.drop_of_length_le (by rw [Array.length_toList]; show s.size ≤ pos; omega)
        rw [← hI.out, e, quo_nil, List.append_nil]
      have p2 : ¬ (pos : Int) < (s.size : Int) := by omega
      have hrn := new_cell wr [.int .u8 34] 5 0 _ rfl
      clear hI
      go_wp2_with (at_builtin; refine wpList_append_own _ rfl _ _ 55 rfl w.heap.size 5 i5 (.int .u8 0) 1 1 Try.underlying55 hi5 hy0 hy1 hy2 rfl (by decide) (.slice av acc.length cv) acc.length (Lib.byteCells acc) rfl (World.ownsRow.alloc hown _) ⟨wr.heap.size, 0, none⟩ 1 1 [.int .u8 34] rfl rfl ?_ ?_ ?_ ?_ ?_ ?_)
      all_goals try (first
        | rfl
        | (unfold maxLen; omega)
        | omega
        | (simp; omega)
        | (intro u hu; simp at hu; rcases hu with rfl <;> rfl)
        | (intro j u hj; match j, hj with | 0, hj => (simp at hj; subst hj; exact hrn.1)))
      intro v5 w5 ho5 hg5 _
      have ho6 := bc_app (l := [34]) ho5 (by simp [Lib.byteCells]) rfl
      have hB5 : Below w.heap.size w w5 := (hB.alloc (by exact hzB) _).grown hg5 (by simp; omega) (fun k hk => (hown.lt k hk).1)
      have hcv := conv_row ho6
      clear ho5 hg5
      go_wp2
      go_ret
      exact ⟨ret_str (by rw [HF.out]; rfl), hB5⟩

end Go.Proofs.Ytgjeiepcbenejaa
