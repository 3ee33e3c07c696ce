/- The walks of the reference's Take and Blocks. -/
import Derived.Test.YtcaaaoehipcloaaGreatCg09
namespace Go.Proofs.YtcaaaoehipcloaaGreat.H
open Go.RowKit

/-- The one of n cells that was given back last, among the first k; -1: there is none. -/
def best (l : List (Int × Int)) (n : Int) : Nat → Int
  | 0 => -1
  | k + 1 => if (l.getD k (0, 0)).1 = n ∧ 0 < (l.getD k (0, 0)).2 ∧ (best l n k < 0 ∨ (l.getD (best l n k).toNat (0, 0)).2 < (l.getD k (0, 0)).2) then (k : Int) else best l n k
theorem best_bd (l : List (Int × Int)) (n : Int) (k : Nat) : -1 ≤ best l n k ∧ best l n k < k := by
  induction k with
  | zero => simp [best]
  | succ k ih =>
    simp only [best]
    split <;> omega
def rtSt (r : Rs) (n : Int) : Rs := if rE r n ≠ 0 ∨ n = 0 then r else if best r.all n r.all.length < 0 then { r with all := r.all ++ [(n, 0)] } else { r with all := setG r.all (best r.all n r.all.length).toNat 0 }
def rtId (r : Rs) (n : Int) : Int := if rE r n ≠ 0 ∨ n = 0 then 0 else if best r.all n r.all.length < 0 then (r.all.length : Int) + 1 else best r.all n r.all.length + 1
theorem info75 : (Tryz.prog.info? 109).map (fun i => (i.zero, i.size, i.bytes)) = some (some (.agg #[.int .i64 0, .int .i64 0]), 2, 16) := by kernel_rfl

/-- What the append leaves. -/
theorem Rp.laid {No : Nat → Prop} {w w1 : World} {S c : Nat} {va v' : Value} {r : Rs} (h : Rp No w S c va r) (n : Int) (o : Obj) (hg : (w.alloc o).grownBy w1 va.ownBlock) (g cap : Nat) (hv : v' = .slice (some ⟨g, 0, none⟩) (r.all.length + 1) cap)
    (hown : w1.ownsRow 0 109 2 v' (r.all.length + 1) (rcells r.all ++ [.int .i64 n, .int .i64 0])) (hat : va.ownBlock = some g ∨ g = w.heap.size + 1) :
    Rp No (w1.setCell ⟨S, 3, none⟩ v') S (c + 1) v' { r with all := r.all ++ [(n, 0)] } ∧ Keep No w (w1.setCell ⟨S, 3, none⟩ v') := by
  obtain ⟨a2, lS⟩ := h.apart
  have hs := hg.size
  have hal : (w.alloc o).heap.size = w.heap.size + 1 := by simp
  rw [hal] at hs
  have s1 : w1.heap[S]? = some (.cells #[.int .i64 r.lim, .int .i64 r.sp, .int .i64 r.ck, va] 55 (0, 0)) :=
    (hg.block S (by omega) (fun e => a2 e.symm)).trans (((World.grownBy_alloc w o none).block S lS (by simp)).trans h.str)
  have gS : v'.ownBlock ≠ some S := fun e => by
    rcases hown.2 with ⟨e1, _⟩ | ⟨g', cap', cur, e1, _, hh, _⟩
    · rw [hv] at e1; cases e1
    · rw [e1] at e
      injection e with e
      subst e
      rw [s1] at hh
      injection hh with hh
      injection hh with _ hh _
      cases hh
  have k1 : Keep No w w1 := ((Keep.refl No w).alloc o).grown hg h.nov
  refine ⟨⟨heap_setCell_same w1 S 3 _ 55 v' s1, ?_, by have := h.len; simp; omega, h.noS, fun q e => ?_, fun q r => ?_⟩, k1.grown (gset w1 S 3 v') (fun q e => by cases e; exact h.noS)⟩
  · have e1 : (r.all ++ [(n, (0 : Int))]).length = r.all.length + 1 := by simp
    show World.ownsRow _ 0 109 2 v' (r.all ++ [(n, 0)]).length (rcells (r.all ++ [(n, 0)]))
    rw [e1, rcells_app]
    exact hown.kept (gset w1 S 3 v') (.inr gS)
  · rw [hv] at e
    injection e with e
    subst e
    rcases hat with q | q
    · exact h.nov _ q
    · intro r
      have := h.nos _ r
      simp only at this
      omega
  · have := h.nos q r
    simp
    omega

set_option maxRecDepth 20000 in
set_option maxHeartbeats 1000000 in
theorem rtake_bad {No : Nat → Prop} {w : World} {S c : Nat} {va : Value} {r : Rs} (h : Rp No w S c va r) (hc : c ≤ 1000000) (ok : Rok r) (hl0 : 0 ≤ r.lim) (hl1 : r.lim ≤ 400000) (hl2 : rlv r ≤ r.lim) (n : Int) (hn : rE r n ≠ 0 ∨ n = 0) :
    Calls Tryz.prog 30 #[.pointer (some ⟨S, 0, none⟩), .int .i64 n] w fun e w' => e = .returned (.tuple #[.int .i64 0, .int .i64 (rE r n)]) ∧ ∃ m, w' = w.drewN m := by
  have hb := rl_bd ok r.all.length (Nat.le_refl _)
  by_cases h0 : n < 0
  · have e : rE r n = 1 := by unfold rE; rw [if_pos h0]
    rw [e]
    clear h e hb hn
    go_enter Tryz.func30, Tryz.ntmps30
    go_wp2_with fail
    go_ret2
    exact ⟨rfl, 0, rfl⟩
  · have CL : ∀ m, Calls Tryz.prog 55 #[.pointer (some ⟨S, 0, none⟩)] (w.drewN m) fun e w' => e = .returned (.int .i64 (rlv r)) ∧ w' = w.drewN m := fun m => rlive_any (h.drewN m) hc ok
    have c0 := h.c0
    have hv0 : 0 ≤ rlv r := hb.1
    by_cases h1 : r.lim - rlv r < n
    · have e : rE r n = 10 := by unfold rE; rw [if_neg h0, if_pos h1]
      rw [e]
      clear h e hb ok hn
      generalize rlv r = lv at *
      go_enter Tryz.func30, Tryz.ntmps30
      go_wp2_with fail
      go_quiet (exact Calls.quiet_of_same (CL _))
      go_wp2_with fail
      go_ret2
      exact ⟨rfl, _, rfl⟩
    · have e : rE r n = 0 := by unfold rE; rw [if_neg h0, if_neg h1]
      rw [e]
      obtain rfl : n = 0 := by rcases hn with q | q; exact absurd e q; exact q
      clear h e hb ok hn
      generalize rlv r = lv at *
      go_enter Tryz.func30, Tryz.ntmps30
      go_wp2_with fail
      go_quiet (exact Calls.quiet_of_same (CL _))
      go_wp2_with fail
      go_ret2
      exact ⟨rfl, _, rfl⟩

set_option maxRecDepth 20000 in
set_option maxHeartbeats 4000000 in
theorem rtake_good {No : Nat → Prop} {w : World} {S c : Nat} {va : Value} {r : Rs} (h : Rp No w S c va r) (hc : c ≤ 1000000) (ok : Rok r) (hl0 : 0 ≤ r.lim) (hl1 : r.lim ≤ 400000) (hl2 : rlv r ≤ r.lim) (n : Int) (hn : 1 ≤ n) (hn2 : n ≤ r.lim - rlv r) :
    Calls Tryz.prog 30 #[.pointer (some ⟨S, 0, none⟩), .int .i64 n] w fun e w' => e = .returned (.tuple #[.int .i64 (rtId r n), .int .i64 0]) ∧ (∃ v', Rp No w' S (c + 1) v' (rtSt r n)) ∧ Keep No w w' := by
  have hb := rl_bd ok r.all.length (Nat.le_refl _)
  have CL : ∀ m, Calls Tryz.prog 55 #[.pointer (some ⟨S, 0, none⟩)] (w.drewN m) fun e w' => e = .returned (.int .i64 (rlv r)) ∧ w' = w.drewN m := fun m => rlive_any (h.drewN m) hc ok
  have c0 := h.c0
  have c3 := h.c3
  have f3 := h.fr 3
  have hlen := h.len
  have hv0 : 0 ≤ rlv r := hb.1
  have hE : rE r n = 0 := by unfold rE; rw [if_neg (by omega), if_neg (by omega)]
  have hnot : ¬ (rE r n ≠ 0 ∨ n = 0) := fun q => by rcases q with q | q; exact q hE; omega
  have HS : Hid (rtSt r n = if best r.all n r.all.length < 0 then { r with all := r.all ++ [(n, 0)] } else { r with all := setG r.all (best r.all n r.all.length).toNat 0 }) := by unfold rtSt; exact if_neg hnot
  have HI : Hid (rtId r n = if best r.all n r.all.length < 0 then (r.all.length : Int) + 1 else best r.all n r.all.length + 1) := by unfold rtId; exact if_neg hnot
  have HP : Hid _ := h
  have hap := h.apart
  obtain ⟨a, cap, rfl, hcap, hcl⟩ := h.cells
  have HC : Hid _ := hcl
  have HB : Hid (∀ k, best r.all n (k + 1) = if (r.all.getD k (0, 0)).1 = n ∧ 0 < (r.all.getD k (0, 0)).2 ∧ (best r.all n k < 0 ∨ (r.all.getD (best r.all n k).toNat (0, 0)).2 < (r.all.getD k (0, 0)).2) then (k : Int) else best r.all n k) := fun k => rfl
  have HD : Hid (∀ k, -1 ≤ best r.all n k ∧ best r.all n k < k) := fun k => best_bd r.all n k
  clear h hb ok hE hnot hcl
  obtain ⟨L, hL⟩ : ∃ L, r.all.length = L := ⟨_, rfl⟩
  have HLe : Hid _ := hL
  rw [hL] at HC c3 hcap hlen HI HS
  clear hL
  have hq0 : decide (n < 0) = false := by simp; omega
  have hq1 : (n == 0) = false := by simp; omega
  have hq2 : decide (r.lim - rlv r < n) = false := by simp; omega
  go_enter Tryz.func30, Tryz.ntmps30
  go_wp2_with fail
  generalize rlv r = lv at *
  go_quiet (exact Calls.quiet_of_same (CL _))
  clear CL
  go_wp2_with fail
  go_loopw [6, 7] (fun u i wr => ∃ k : Nat, i = .int .i64 k ∧ k ≤ L ∧ ∃ z : Int, u = .int .i64 z ∧ Hid (z = best r.all n k) ∧ ∃ m, wr = w.drewN m) (fun _ i _ => L - (intOf i).toNat)
  case atStart => exact ⟨0, rfl, by omega, _, rfl, rfl, _, rfl⟩
  case round =>
    obtain ⟨k, rfl, hk, z, rfl, HZ, mm, rfl⟩ := hrel
    obtain ⟨hz0, hz1⟩ := HD.out k
    rw [← HZ.out] at hz0 hz1
    by_cases hlt : k < L
    · have hlt' : (k : Int) < (L : Int) := by omega
      obtain ⟨g, rfl, hgS, d0, d1, _⟩ := HC.out k hlt
      have hs := HB.out k
      rw [← HZ.out] at hs
      have HS2 : Hid _ := hs
      have HE : Hid (0 ≤ z → w.cell? ⟨g, z.toNat * 2 + 1, none⟩ = some (.int .i64 (r.all.getD z.toNat (0, 0)).2)) := fun q => by
        obtain ⟨g', e, _, _, e1, _⟩ := HC.out z.toNat (by omega)
        injection e with e
        injection e with e _ _
        subst e
        exact e1
      clear hs HB HZ HC HP HD HS HI
      generalize (r.all.getD k (0, 0)).1 = x at *
      generalize (r.all.getD k (0, 0)).2 = y at *
      by_cases h1 : x = n
      · subst h1
        by_cases h2 : 0 < y
        · by_cases h3 : z < 0
          · rw [if_pos ⟨rfl, h2, .inl h3⟩] at HS2
            clear HE
            go_wp2_with fail
            go_quiet (fail)
            go_wp2_with fail
            go_roundw
            case rel => exact ⟨k + 1, by go_num, by omega, _, rfl, HS2.out.symm, _, rfl⟩
            case measure => simp [intOf]; omega
          · obtain ⟨b, rfl⟩ : ∃ b : Nat, z = b := ⟨z.toNat, by omega⟩
            have e1 := HE.out (by omega)
            rw [Int.toNat_natCast] at e1 HS2
            have hb1 : (b : Int) < (L : Int) := by omega
            have hd3 : decide ((b : Int) < 0) = false := by simp
            clear HE
            generalize (r.all.getD b (0, 0)).2 = yb at *
            by_cases h4 : yb < y
            · rw [if_pos ⟨rfl, h2, .inr h4⟩] at HS2
              go_wp2_with fail
              go_quiet (fail)
              go_wp2_with fail
              go_roundw
              case rel => exact ⟨k + 1, by go_num, by omega, _, rfl, HS2.out.symm, _, rfl⟩
              case measure => simp [intOf]; omega
            · rw [if_neg (fun q => by rcases q.2.2 with q | q; omega; exact h4 q)] at HS2
              go_wp2_with fail
              go_quiet (fail)
              go_wp2_with fail
              go_roundw
              case rel => exact ⟨k + 1, by go_num, by omega, _, rfl, HS2.out.symm, _, rfl⟩
              case measure => simp [intOf]; omega
        · rw [if_neg (fun q => h2 q.2.1)] at HS2
          have hd2 : decide (0 < y) = false := by simpa using h2
          clear HE
          go_wp2_with fail
          go_quiet (fail)
          go_wp2_with fail
          go_roundw
          case rel => exact ⟨k + 1, by go_num, by omega, _, rfl, HS2.out.symm, _, rfl⟩
          case measure => simp [intOf]; omega
      · rw [if_neg (fun q => h1 q.1)] at HS2
        have h1' : (x == n) = false := by simpa using h1
        clear HE
        go_wp2_with fail
        go_quiet (fail)
        go_wp2_with fail
        go_roundw
        case rel => exact ⟨k + 1, by go_num, by omega, _, rfl, HS2.out.symm, _, rfl⟩
        case measure => simp [intOf]; omega
    · obtain rfl : k = L := by omega
      have hp := Rp.drewN HP.out mm
      have hzb := HZ.out
      by_cases h3 : z < 0
      · have HS2 : Hid _ := HS.out
        have HI2 : Hid _ := HI.out
        rw [← hzb, if_pos h3] at HS2 HI2
        have HR : Hid ((w.drewN mm).ownsRow 0 109 2 (.slice a k cap) k (rcells r.all)) := by
          have := hp.row
          rw [show r.all.length = k from HLe.out] at this
          exact this
        have lS := hap.2
        have HCC : Hid (∀ w1 o i, ((w.drewN mm).alloc o).grownBy w1 (Value.slice a k cap).ownBlock → w1.cell? ⟨S, i, none⟩ = w.cell? ⟨S, i, none⟩ ∧ w1.frozen? ⟨S, i, none⟩ = w.frozen? ⟨S, i, none⟩) := fun w1 o i hg => by
          have a2 := hap.1
          rw [show r.all.length = k from HLe.out] at a2
          have hs : S < ((w.drewN mm).alloc o).heap.size := by
            have : ((w.drewN mm).alloc o).heap.size = w.heap.size + 1 := by simp
            omega
          exact ⟨(hg.cell_far ⟨S, i, none⟩ hs (fun e => a2 e.symm)).trans ((World.grownBy_alloc (w.drewN mm) o none).cell_far ⟨S, i, none⟩ lS (by simp)), (hg.frozen_far ⟨S, i, none⟩ hs (fun e => a2 e.symm)).trans ((World.grownBy_alloc (w.drewN mm) o none).frozen_far ⟨S, i, none⟩ lS (by simp))⟩
        have HL : Hid (∀ w1 o g cap2, ((w.drewN mm).alloc o).grownBy w1 (Value.slice a k cap).ownBlock → w1.ownsRow 0 109 2 (.slice (some ⟨g, 0, none⟩) (k + 1) cap2) (k + 1) (rcells r.all ++ [.int .i64 n, .int .i64 0]) → ((Value.slice a k cap).ownBlock = some g ∨ g = w.heap.size + 1) →
            Rp No (w1.setCell ⟨S, 3, none⟩ (.slice (some ⟨g, 0, none⟩) (k + 1) cap2)) S (c + 1) (.slice (some ⟨g, 0, none⟩) (k + 1) cap2) { r with all := r.all ++ [(n, 0)] } ∧ Keep No (w.drewN mm) (w1.setCell ⟨S, 3, none⟩ (.slice (some ⟨g, 0, none⟩) (k + 1) cap2))) := fun w1 o g cap2 hg ho hat => by
          have e := HLe.out
          have hp2 := hp
          rw [e] at hp2
          exact hp2.laid (v' := .slice (some ⟨g, 0, none⟩) (k + 1) cap2) n o hg g cap2 (by rw [e]) (by rw [e]; exact ho) hat
        obtain ⟨i0, hi0, hy0, hy1, hy2⟩ := info_parts info75
        clear HB HZ HC HP HD HS HI hp hzb hap
        generalize rcells r.all = bc at *
        go_wp2_with (at_builtin; refine wpList_append_lies _ rfl _ _ 53 rfl 0 109 i0 _ 2 16 Tryz.underlying53 hi0 hy0 hy1 hy2 rfl (by omega) (.slice a k cap) k bc rfl (World.ownsRow.alloc HR.out _) ⟨w.heap.size, 0, none⟩ 1 1 [.int .i64 n, .int .i64 0] rfl rfl (World.news_of_block (cs := #[.int .i64 n, .int .i64 0]) (t := 109) (fr := (0, 0)) (heap_alloc_new (w.drewN mm) _)) (by simp [Value.oneCell']) (by omega) (by unfold maxLen; omega) (by omega) (Nat.zero_le _) (w.heap.size + 1) (by simp) ?_; intro g cap2 w1 hown hgrow hat hlt1; have d3 := (HCC.out w1 _ 3 hgrow).1.trans c3; have e3 := (HCC.out w1 _ 3 hgrow).2.trans f3)
        go_ret2
        have U := HL.out w1 _ g cap2 hgrow hown hat
        refine ⟨?_, ⟨_, by rw [show rtSt r n = _ from HS2.out]; exact U.1⟩, ((Keep.refl No w).drewN mm).trans U.2⟩
        exact ret2 (by rw [show rtId r n = _ from HI2.out]) rfl
      · obtain ⟨b, rfl⟩ : ∃ b : Nat, z = b := ⟨z.toNat, by omega⟩
        have HS2 : Hid _ := HS.out
        have HI2 : Hid _ := HI.out
        rw [← hzb, if_neg h3] at HS2 HI2
        rw [Int.toNat_natCast] at HS2
        obtain ⟨g, rfl, hgS, d0, d1, fz⟩ := HC.out b (by omega)
        have fg := fz (b * 2 + 1)
        have hbk : (b : Int) < (k : Int) := by omega
        have hd3 : decide ((b : Int) < 0) = false := by simp
        have HG : Hid _ := Rp.setGiven hp b (by rw [show r.all.length = k from HLe.out]; omega) 0
        clear HB HZ HC HP HD HS HI hp hzb hap fz d0
        generalize (r.all.getD b (0, 0)).2 = yb at *
        go_wp2_with fail
        go_ret2
        refine ⟨ret2 (by rw [show rtId r n = _ from HI2.out]) rfl, ⟨_, by rw [show rtSt r n = _ from HS2.out]; exact HG.out.1.more (Nat.le_succ _)⟩, ((Keep.refl No w).drewN mm).trans HG.out.2⟩
theorem rtake_any {No : Nat → Prop} {w : World} {S c : Nat} {va : Value} {r : Rs} (h : Rp No w S c va r) (hc : c ≤ 1000000) (ok : Rok r) (hl0 : 0 ≤ r.lim) (hl1 : r.lim ≤ 400000) (hl2 : rlv r ≤ r.lim) (n : Int) :
    Calls Tryz.prog 30 #[.pointer (some ⟨S, 0, none⟩), .int .i64 n] w fun e w' => e = .returned (.tuple #[.int .i64 (rtId r n), .int .i64 (rE r n)]) ∧ (∃ v', Rp No w' S (c + 1) v' (rtSt r n)) ∧ Keep No w w' := by
  by_cases hn : rE r n ≠ 0 ∨ n = 0
  · have e1 : rtSt r n = r := by unfold rtSt; rw [if_pos hn]
    have e2 : rtId r n = 0 := by unfold rtId; rw [if_pos hn]
    rw [e1, e2]
    refine (rtake_bad h hc ok hl0 hl1 hl2 n hn).mono ?_
    rintro e w' ⟨rfl, m, rfl⟩
    exact ⟨rfl, ⟨_, (h.drewN m).more (Nat.le_succ _)⟩, (Keep.refl _ _).drewN m⟩
  · have hE : rE r n = 0 := by
      by_cases q : rE r n = 0
      · exact q
      · exact absurd (.inl q) hn
    rw [hE]
    have : 0 ≤ n ∧ n ≤ r.lim - rlv r := by
      unfold rE at hE
      by_cases q1 : n < 0
      · rw [if_pos q1] at hE; omega
      · rw [if_neg q1] at hE
        by_cases q2 : r.lim - rlv r < n
        · rw [if_pos q2] at hE; omega
        · omega
    exact rtake_good h hc ok hl0 hl1 hl2 n (by rcases Int.lt_or_le 0 n with q | q; omega; exact absurd (.inr (by omega)) hn) this.2
end Go.Proofs.YtcaaaoehipcloaaGreat.H
