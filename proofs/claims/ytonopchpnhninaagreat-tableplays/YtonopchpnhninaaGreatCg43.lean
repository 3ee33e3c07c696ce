/- The walks of both Blocks and of SameInts. The great seat's numbers. -/
import Derived.Test.YtonopchpnhninaaGreatCg11
import Derived.Test.YtonopchpnhninaaGreatCg05
import Derived.Test.YtonopchpnhninaaGreatCg17
import Derived.Test.YtonopchpnhninaaGreatCg42
import Derived.Test.YtonopchpnhninaaGreatCg34
import Derived.Deep.RegionHeld3
namespace Go.Proofs.YtonopchpnhninaaGreat.H
open Go.RowKit

set_option maxRecDepth 20000 in
set_option maxHeartbeats 2000000 in
theorem blocks_any {No : Nat → Prop} {w : World} {S b c : Nat} {vb : Value} {s : St} (h : Hp No w S b c vb s) (hc : c ≤ 1000000) :
    Calls Tryz.prog 25 #[.pointer (some ⟨S, 0, none⟩)] w fun e w' => ∃ v', e = .returned v' ∧ w'.ownsRow w.heap.size 3 1 v' (tids s.bl s.bl.length).length ((tids s.bl s.bl.length).map (Value.int .i64)) ∧ Below w.heap.size w w' := by
  have c3 := h.c3
  have hlen := h.len
  obtain ⟨i0, hi0, hz0, hz1, hz2⟩ := info_parts info3
  obtain ⟨av, cv, rfl, hcv⟩ := slice_of h.row
  have HC : Hid (∀ k, k < s.bl.length → ∃ g, av = some ⟨g, 0, none⟩ ∧ g < w.heap.size ∧ w.cell? ⟨g, k * 2, none⟩ = some (.int .i64 (s.bl.getD k (0, false)).1) ∧ w.cell? ⟨g, k * 2 + 1, none⟩ = some (.bool (s.bl.getD k (0, false)).2)) := fun k hk => by
    obtain ⟨g, cap, q⟩ := h.form (by omega)
    injection q with q1 _ q3
    subst q1 q3
    obtain ⟨d1, d0, _, _⟩ := h.cellT k hk
    rw [List.getD, List.getElem?_eq_getElem hk]
    exact ⟨g, rfl, World.block_lt_of_cell? w _ d0, d0, d1⟩
  have hm : s.bl.length ≤ 1000000 := by omega
  have HT : Hid (∀ k, tids s.bl (k + 1) = tids s.bl k ++ (if (s.bl.getD k (0, false)).2 = true then [(k : Int) + 1] else [])) := fun k => tids_succ s.bl k
  have HN : Hid (∀ k, (tids s.bl k).length ≤ k) := fun k => tids_len s.bl k
  clear h hlen
  obtain ⟨m, hm2⟩ : ∃ m, s.bl.length = m := ⟨_, rfl⟩
  rw [hm2] at c3 hcv HC hm ⊢
  clear hm2
  go_enter Tryz.func25, Tryz.ntmps25
  go_wp2_with fail
  go_loopw [3, 13] (fun u i wr => ∃ k : Nat, i = .int .i64 k ∧ k ≤ m ∧ ∃ au cu n, u = .slice au n cu ∧ n ≤ k ∧ Hid (n = (tids s.bl k).length ∧ wr.ownsRow w.heap.size 3 1 (.slice au n cu) n ((tids s.bl k).map (Value.int .i64))) ∧ Below w.heap.size w wr) (fun _ i _ => m - (intOf i).toNat)
  case atStart => exact ⟨0, rfl, by omega, none, 0, 0, rfl, by omega, ⟨rfl, World.ownsRow_nil _ _ _ _⟩, Below.refl _ _⟩
  case round =>
    obtain ⟨k, rfl, hk, au, cu, n, rfl, hnk, HO, hb⟩ := hrel
    by_cases hlt : k < m
    · have hlt' : (k : Int) < (m : Int) := by omega
      obtain ⟨g, rfl, hg, q0, q1⟩ := HC.out k hlt
      have d0 := (hb.cell (by exact hg)).trans q0
      have d1 := (hb.cell (by exact hg)).trans q1
      have hbs := hb.size
      have HT2 : Hid _ := HT.out k
      clear q0 q1 HC HT
      generalize (s.bl.getD k (0, false)).1 = x at *
      generalize (s.bl.getD k (0, false)).2 = t at *
      have lg : g < wr.heap.size := by omega
      have HR : Hid (wr.ownsRow w.heap.size 3 1 (.slice au n cu) n ((tids s.bl k).map (Value.int .i64))) := HO.out.2
      have HL : Hid (n = (tids s.bl k).length) := HO.out.1
      clear HO
      cases t with
      | false =>
        rw [if_neg (by simp), List.append_nil] at HT2
        go_wp2_with fail
        go_roundw
        case rel => exact ⟨k + 1, by go_num, by omega, au, cu, n, rfl, by omega, ⟨by rw [HT2.out]; exact HL.out, by rw [HT2.out]; exact World.ownsRow.alloc HR.out _⟩, hb.alloc hbs _⟩
        case measure => simp [intOf]; omega
      | true =>
        rw [if_pos rfl] at HT2
        go_wp2_with (at_builtin; refine wpList_append_lies _ rfl _ _ 53 rfl w.heap.size 3 i0 _ 1 8 Tryz.underlying53 hi0 hz0 hz1 hz2 rfl (by omega) (.slice au n cu) n ((tids s.bl k).map (Value.int .i64)) rfl (World.ownsRow.alloc (World.ownsRow.alloc HR.out _) _) ⟨wr.heap.size + 1, 0, none⟩ 1 1 [.int .i64 ((k : Int) + 1)] rfl rfl (news2 wr _ _) (by simp [Value.oneCell']) (by omega) (by unfold maxLen; omega) (by omega) (by simp; omega) (wr.heap.size + 2) (by simp) ?_; intro g1 c1 w2 hown1 hgrow1 hat1 hlt1)
        go_roundw
        case rel =>
          refine ⟨k + 1, by go_num, by omega, _, _, n + 1, rfl, by omega, ⟨by rw [HT2.out, List.length_append, ← show n = _ from HL.out]; rfl, by rw [HT2.out, List.map_append]; exact hown1⟩, ?_⟩
          exact ((hb.alloc hbs _).alloc (by simp; omega) _).grown hgrow1 (by simp; omega) (fun q e => (World.ownsRow.lt HR.out q e).1)
        case measure => simp [intOf]; omega
    · obtain rfl : k = m := by omega
      go_wp2_with fail
      go_ret
      have U := HO.out.1
      exact ⟨_, rfl, by rw [← U]; exact HO.out.2, hb⟩

set_option maxRecDepth 20000 in
set_option maxHeartbeats 1000000 in
theorem rblocks_any {No : Nat → Prop} {w : World} {S c : Nat} {va : Value} {r : Rs} (h : Rp No w S c va r) (hc : c ≤ 1000000) :
    Calls Tryz.prog 26 #[.pointer (some ⟨S, 0, none⟩)] w fun e w' => ∃ v', e = .returned v' ∧ w'.ownsRow w.heap.size 3 1 v' (rids r.all r.all.length).length ((rids r.all r.all.length).map (Value.int .i64)) ∧ Below w.heap.size w w' := by
  have c3 := h.c3
  have lS := h.apart.2
  have hlen := h.len
  obtain ⟨i0, hi0, hz0, hz1, hz2⟩ := info_parts info3
  obtain ⟨a, cap, rfl, hcap, hcl⟩ := h.cells
  have HC : Hid _ := hcl
  have HT : Hid (∀ k, rids r.all (k + 1) = rids r.all k ++ (if (r.all.getD k (0, 0)).2 = 0 then [(k : Int) + 1] else [])) := fun k => rfl
  clear h hcl
  obtain ⟨L, hL⟩ : ∃ L, r.all.length = L := ⟨_, rfl⟩
  rw [hL] at HC c3 hcap hlen ⊢
  clear hL
  go_enter Tryz.func26, Tryz.ntmps26
  go_wp2_with fail
  go_loopw [3, 4] (fun u i wr => ∃ k : Nat, i = .int .i64 k ∧ k ≤ L ∧ ∃ au cu n, u = .slice au n cu ∧ n ≤ k ∧ Hid (n = (rids r.all k).length ∧ wr.ownsRow w.heap.size 3 1 (.slice au n cu) n ((rids r.all k).map (Value.int .i64))) ∧ Below w.heap.size w wr) (fun _ i _ => L - (intOf i).toNat)
  case atStart => exact ⟨0, rfl, by omega, none, 0, 0, rfl, by omega, ⟨rfl, World.ownsRow_nil _ _ _ _⟩, Below.refl _ _⟩
  case round =>
    obtain ⟨k, rfl, hk, au, cu, n, rfl, hnk, HO, hb⟩ := hrel
    have cr := (hb.cell (by exact lS)).trans c3
    have hbs := hb.size
    by_cases hlt : k < L
    · have hlt' : (k : Int) < (L : Int) := by omega
      obtain ⟨g, rfl, _, q0, q1, _⟩ := HC.out k hlt
      have hg := World.block_lt_of_cell? w _ q0
      have d0 := (hb.cell (by exact hg)).trans q0
      have d1 := (hb.cell (by exact hg)).trans q1
      have HT2 : Hid _ := HT.out k
      have HR : Hid (wr.ownsRow w.heap.size 3 1 (.slice au n cu) n ((rids r.all k).map (Value.int .i64))) := HO.out.2
      have HL : Hid (n = (rids r.all k).length) := HO.out.1
      clear q0 q1 HC HT HO
      generalize (r.all.getD k (0, 0)).1 = x at *
      generalize (r.all.getD k (0, 0)).2 = y at *
      by_cases hy : y = 0
      · subst hy
        rw [if_pos rfl] at HT2
        go_wp2_with (at_builtin; refine wpList_append_lies _ rfl _ _ 53 rfl w.heap.size 3 i0 _ 1 8 Tryz.underlying53 hi0 hz0 hz1 hz2 rfl (by omega) (.slice au n cu) n ((rids r.all k).map (Value.int .i64)) rfl (World.ownsRow.alloc HR.out _) ⟨wr.heap.size, 0, none⟩ 1 1 [.int .i64 ((k : Int) + 1)] rfl rfl (World.news_of_block (cs := #[.int .i64 ((k : Int) + 1)]) (t := 3) (fr := (0, 0)) (heap_alloc_new wr _)) (by simp [Value.oneCell']) (by omega) (by unfold maxLen; omega) (by omega) (by simp; omega) (wr.heap.size + 1) (by simp) ?_; intro g1 c1 w2 hown1 hgrow1 hat1 hlt1)
        go_roundw
        case rel =>
          refine ⟨k + 1, by go_num, by omega, _, _, n + 1, rfl, by omega, ⟨by rw [HT2.out, List.length_append, ← show n = _ from HL.out]; rfl, by rw [HT2.out, List.map_append]; exact hown1⟩, ?_⟩
          exact (hb.alloc hbs _).grown hgrow1 (by simp; omega) (fun q e => (World.ownsRow.lt HR.out q e).1)
        case measure => simp [intOf]; omega
      · rw [if_neg hy, List.append_nil] at HT2
        have hy' : (y == 0) = false := by simpa using hy
        go_wp2_with fail
        go_roundw
        case rel => exact ⟨k + 1, by go_num, by omega, au, cu, n, rfl, by omega, ⟨by rw [HT2.out]; exact HL.out, by rw [HT2.out]; exact HR.out⟩, hb⟩
        case measure => simp [intOf]; omega
    · obtain rfl : k = L := by omega
      go_wp2_with fail
      go_ret
      have U := HO.out.1
      exact ⟨_, rfl, by rw [← U]; exact HO.out.2, hb⟩
end Go.Proofs.YtonopchpnhninaaGreat.H
namespace Go.Proofs.YtonopchpnhninaaGreat.C
open Go.RowKit

set_option maxHeartbeats 1000000 in
/-- The comparison of two lists of one length. -/
theorem same_walk (l m : List Int) (v v' : Value) (w : World) (h : Ints w.heap.size w v l) (h' : Ints w.heap.size w v' m) (hlen : l.length = m.length) (hbig : l.length ≤ 1000000) :
    Calls Tryz.prog 24 #[v, v'] w fun e w' => e = .returned (.bool (decide (l = m))) ∧ Below w.heap.size w w' := by
  obtain ⟨a, cap, rfl, hcap, h⟩ := h
  obtain ⟨a', cap', rfl, hcap', h'⟩ := h'
  have HC : Hid _ := h
  have HC' : Hid _ := h'
  have HE : Hid (∀ k, k ≤ l.length → l.take k = m.take k → ¬ k < l.length → decide (l = m) = true) := by
    intro k hk ht hkl
    have : k = l.length := by omega
    subst this
    rw [List.take_length, List.take_of_length_le (by omega)] at ht
    simpa using ht
  have HS : Hid (∀ k, k < l.length → l.take k = m.take k → l.getD k 0 = m.getD k 0 → l.take (k + 1) = m.take (k + 1)) := by
    intro k hk ht hx
    rw [List.take_add_one, List.take_add_one, ht]
    congr 1
    rw [List.getElem?_eq_getElem hk, List.getElem?_eq_getElem (by omega)]
    simp only [List.getD, List.getElem?_eq_getElem hk, List.getElem?_eq_getElem (show k < m.length by omega), Option.getD_some] at hx
    rw [hx]
  have HN : Hid (∀ k, k < l.length → ¬ l.getD k 0 = m.getD k 0 → decide (l = m) = false) := by
    intro k hk hx
    simp only [decide_eq_false_iff_not]
    intro e; rw [e] at hx; exact hx rfl
  have HL : Hid (l ≠ [] ↔ 0 < l.length) := by
    show _ ↔ _
    cases l <;> simp
  have HM : Hid (m ≠ [] ↔ 0 < l.length) := by
    show _ ↔ _
    rw [hlen]; cases m <;> simp
  clear h h'
  rw [← hlen] at HC' hcap' ⊢
  obtain ⟨L, hL⟩ : ∃ L, l.length = L := ⟨_, rfl⟩
  rw [hL] at HC HC' HE HS HN HL HM hbig ⊢
  clear hL hcap hcap' hlen
  go_enter Tryz.func24, Tryz.ntmps24
  go_wp2
  go_loopw [5] (fun i wr => ∃ k : Nat, i = .int .i64 k ∧ k ≤ L ∧ Hid (l.take k = m.take k) ∧ Below w.heap.size w wr) (fun i _ => L - (intOf i).toNat)
  case atStart => exact ⟨0, rfl, by omega, by rfl, Below.refl _ _⟩
  case round =>
    obtain ⟨k, rfl, hk, HT, hb⟩ := hrel
    by_cases hlt : k < L
    · have hlt' : (k : Int) < (L : Int) := by omega
      obtain ⟨g, off, rfl, hg, hc⟩ := HC.out (HL.out.2 (by omega))
      obtain ⟨g', off', rfl, hg', hc'⟩ := HC'.out (HM.out.2 (by omega))
      have c1 : wr.cell? ⟨g, off + k, none⟩ = some (.int .i64 (l.getD k 0)) := by rw [hb.cell (by exact hg)]; exact hc k hlt
      have c2 : wr.cell? ⟨g', off' + k, none⟩ = some (.int .i64 (m.getD k 0)) := by rw [hb.cell (by exact hg')]; exact hc' k hlt
      clear hc hc'
      by_cases hx : l.getD k 0 = m.getD k 0
      · have HT2 : Hid (l.take (k + 1) = m.take (k + 1)) := HS.out k hlt HT.out hx
        rw [← hx] at c2
        clear hx
        generalize l.getD k 0 = x at c1 c2
        go_wp2
        go_region
        go_wp2
        go_roundw
        case rel => exact ⟨k + 1, by go_num, by omega, HT2, hb.drew⟩
        case measure => simp [intOf]; omega
      · have HD : Hid (decide (l = m) = false) := HN.out k hlt hx
        have hx' : (l.getD k 0 == m.getD k 0) = false := by simpa using hx
        have hx'' : (l.getD k 0 != m.getD k 0) = true := by simpa using hx
        generalize l.getD k 0 = x at c1 hx hx' hx''
        generalize m.getD k 0 = y at c2 hx hx' hx''
        go_wp2
        go_region
        go_wp2
        go_ret
        exact ⟨retB HD.out, hb.drew⟩
    · have HD : Hid (decide (l = m) = true) := HE.out k hk HT.out hlt
      go_wp2
      go_ret
      exact ⟨retB HD.out, hb⟩

/-! ### few -/
end Go.Proofs.YtonopchpnhninaaGreat.C
namespace Go.Proofs.YtonopchpnhninaaGreat
open Go.RowKit
theorem rbl_any {No : Nat → Prop} {w : World} {S c : Nat} {s : H.St} (h : RH No w S c s) (hc : c ≤ 900000) :
    Calls Tryz.prog 26 #[.pointer (some ⟨S, 0, none⟩)] w fun e w' => ∃ v', e = .returned v' ∧ w'.ownsRow w.heap.size 3 1 v' (H.tids s.bl s.bl.length).length ((H.tids s.bl s.bl.length).map (Value.int .i64)) ∧ Below w.heap.size w w' := by
  obtain ⟨va, r, h1, h2, h3⟩ := h
  rw [← h2.ids]
  exact H.rblocks_any h1 (by omega)
end Go.Proofs.YtonopchpnhninaaGreat

/- Both tables in one memory, on: each call's contract. The great seat's numbers. -/
namespace Go.Proofs.YtonopchpnhninaaGreat
open Go.RowKit

/-- What Pair answers. -/
def prP (p : Pa) (m : Int) : V × V :=
  if m < 1 then (nil, nil) else if m ≤ (p.n : Int) then (kn m, p.F (m - 1).toNat) else if m ≤ ((p.n + p.z : Nat) : Int) then (p.g.K (m - 1 - p.n).toNat, p.g.X (m - 1 - p.n).toNat) else (nil, nil)
theorem tpair_all {w : World} {T A b a S : Nat} {t : TS} (h : Tm w T A b a S t) (ti : TI t.p) (m : Int) (hm : m ≤ 9223372036854775807) :
    Calls Tryz.prog 30 #[tp T, .int .i64 m] w fun e w' => e = .returned (.tuple #[vv (prP t.p m).1, vv (prP t.p m).2]) ∧ Below w.heap.size w w' := by
  have hn := ti.le
  have hz := ti.rt.le
  unfold prP
  by_cases q1 : m < 1
  · rw [if_pos q1]; exact pair_neg m q1 w
  · rw [if_neg q1]
    by_cases q2 : m ≤ (t.p.n : Int)
    · rw [if_pos q2]
      have C := pair_in h hn (m - 1).toNat (by omega)
      rwa [show ((m - 1).toNat : Int) + 1 = m by omega] at C
    · rw [if_neg q2]
      by_cases q3 : m ≤ ((t.p.n + t.p.z : Nat) : Int)
      · rw [if_pos q3]
        have C := pair_out h hn hz (m - 1 - t.p.n).toNat (by omega)
        rwa [show (t.p.n : Int) + 1 + ((m - 1 - t.p.n).toNat : Int) = m by omega] at C
      · rw [if_neg q3]
        have C := pair_far h hn hz (m - 1 - t.p.n).toNat (by omega) (by omega)
        rwa [show (t.p.n : Int) + 1 + ((m - 1 - t.p.n).toNat : Int) = m by omega] at C
theorem rpair_all {w : World} {RT A P ka va ca : Nat} {cb : Nat → Nat} {G : Nat} {t : TS} (h : Rb w RT A P ka va ca cb G t) (ti : TI t.p) (m : Int) :
    Calls Tryz.prog 45 #[tp RT, .int .i64 m] w fun e w' => e = .returned (.tuple #[vv (prP t.p m).1, vv (prP t.p m).2]) ∧ Below w.heap.size w w' := by
  unfold prP
  by_cases q1 : m < 1
  · rw [if_pos q1]; exact rpair_far h ti m (.inl q1)
  · rw [if_neg q1]
    by_cases q2 : m ≤ (t.p.n : Int)
    · rw [if_pos q2]
      have C := rpair_in h ti (m - 1).toNat (by omega)
      rwa [show ((m - 1).toNat : Int) + 1 = m by omega] at C
    · rw [if_neg q2]
      by_cases q3 : m ≤ ((t.p.n + t.p.z : Nat) : Int)
      · rw [if_pos q3]
        have C := rpair_out h ti (m - 1 - t.p.n).toNat (by omega)
        rwa [show (t.p.n : Int) + 1 + ((m - 1 - t.p.n).toNat : Int) = m by omega] at C
      · rw [if_neg q3]; exact rpair_far h ti m (.inr (by omega))
section
variable {Q : Nat → Prop} {w w' : World} {T S hb RT G c : Nat} {t u : TS} {s s' : H.St}
theorem Bz.pair (h : Bz Q w T S hb RT G c t s u s') (m : Int) (hm : m ≤ 9223372036854775807) : Calls Tryz.prog 30 #[tp T, .int .i64 m] w fun e w' => e = .returned (.tuple #[vv (prP t.p m).1, vv (prP t.p m).2]) ∧ Below w.heap.size w w' := by
  obtain ⟨N1, N2, ⟨A, b, a, h1⟩, _⟩ := h.tt
  exact tpair_all h1.tm h1.ti m hm
theorem Bz.rpair (h : Bz Q w T S hb RT G c t s u s') (m : Int) : Calls Tryz.prog 45 #[tp RT, .int .i64 m] w fun e w' => e = .returned (.tuple #[vv (prP u.p m).1, vv (prP u.p m).2]) ∧ Below w.heap.size w w' := by
  obtain ⟨N1, N2, _, ⟨A', P, ka, va, ca, cb, h2⟩, _⟩ := h.tt
  exact rpair_all h2.rb h2.ti m
theorem Bz.rstats (h : Bz Q w T S hb RT G c t s u s') : Calls Tryz.prog 17 #[tp RT] w fun e w' => e = .returned (ts u) ∧ Below w.heap.size w w' := by
  obtain ⟨N1, N2, _, ⟨A', P, ka, va, ca, cb, h2⟩, _⟩ := h.tt
  exact rstats_any h2.rb
theorem Bz.places (h : Bz Q w T S hb RT G c t s u s') : Calls Tryz.prog 12 #[tp T] w fun e w' => e = .returned (.int .i64 ((t.p.n + t.p.z : Nat) : Int)) ∧ Below w.heap.size w w' := by
  obtain ⟨N1, N2, ⟨A, b, a, h1⟩, _⟩ := h.tt
  exact places_any h1.tm h1.ti.le h1.ti.rt.le
theorem Bz.rplaces (h : Bz Q w T S hb RT G c t s u s') : Calls Tryz.prog 18 #[tp RT] w fun e w' => e = .returned (.int .i64 ((u.p.n + u.p.z : Nat) : Int)) ∧ Below w.heap.size w w' := by
  obtain ⟨N1, N2, _, ⟨A', P, ka, va, ca, cb, h2⟩, _⟩ := h.tt
  exact rplaces_any h2.rb h2.ti
theorem Bz.live (h : Bz Q w T S hb RT G c t s u s') : (Calls Tryz.prog 19 #[tp S] w fun e w' => e = .returned (.int .i64 s.live) ∧ w' = w) ∧ Calls Tryz.prog 21 #[tp S] w fun e w' => e = .returned (.int .i64 s.laid) ∧ w' = w := by
  obtain ⟨N1, N2, ⟨A, b, a, h1⟩, _⟩ := h.tt
  obtain ⟨v, hp⟩ := h1.hp
  exact ⟨H.live_any _ S _ hp.c1, H.laid_any _ S _ hp.c2⟩
theorem Bz.rlive (h : Bz Q w T S hb RT G c t s u s') (hc : c ≤ 700000) : (Calls Tryz.prog 20 #[tp G] w fun e w' => e = .returned (.int .i64 s'.live) ∧ w' = w) ∧ Calls Tryz.prog 22 #[tp G] w fun e w' => e = .returned (.int .i64 s'.laid) ∧ w' = w := by
  obtain ⟨N1, N2, _, ⟨A', P, ka, va, ca, cb, h2⟩, _⟩ := h.tt
  exact ⟨rlv_any h2.rh (by omega) h2.iv, rld_any h2.rh (by omega) h2.iv⟩
theorem Bz.cells (h : Bz Q w T S hb RT G c t s u s') : w.cell? ⟨RT, 5, none⟩ = some (.int .i64 u.pr) ∧ w.cell? ⟨RT, 6, none⟩ = some (.pointer (some ⟨G, 0, none⟩)) := by
  obtain ⟨N1, N2, _, ⟨A', P, ka, va, ca, cb, h2⟩, _⟩ := h.tt
  exact ⟨h2.rb.c5, h2.rb.c6⟩
theorem Bz.blocks (h : Bz Q w T S hb RT G c t s u s') (hc : c ≤ 700000) : Calls Tryz.prog 25 #[tp S] w fun e w' => ∃ v', e = .returned v' ∧ w'.ownsRow w.heap.size 3 1 v' (H.tids s.bl s.bl.length).length ((H.tids s.bl s.bl.length).map (Value.int .i64)) ∧ Below w.heap.size w w' := by
  obtain ⟨N1, N2, ⟨A, b, a, h1⟩, _⟩ := h.tt
  obtain ⟨v, hp⟩ := h1.hp
  exact H.blocks_any hp (by omega)
theorem Bz.rblocks (h : Bz Q w T S hb RT G c t s u s') (hc : c ≤ 700000) : Calls Tryz.prog 26 #[tp G] w fun e w' => ∃ v', e = .returned v' ∧ w'.ownsRow w.heap.size 3 1 v' (H.tids s'.bl s'.bl.length).length ((H.tids s'.bl s'.bl.length).map (Value.int .i64)) ∧ Below w.heap.size w w' := by
  obtain ⟨N1, N2, _, ⟨A', P, ka, va, ca, cb, h2⟩, _⟩ := h.tt
  exact rbl_any h2.rh (by omega)
theorem Bz.blen (h : Bz Q w T S hb RT G c t s u s') : (H.tids s.bl s.bl.length).length ≤ c := by
  obtain ⟨N1, N2, ⟨A, b, a, h1⟩, _⟩ := h.tt
  obtain ⟨v, hp⟩ := h1.hp
  exact Nat.le_trans (H.tids_len _ _) hp.len
theorem Bz.place (h : Bz Q w T S hb RT G c t s u s') (hc : c ≤ 700000) (k : V) (hr : Rng k) :
    Calls Tryz.prog 13 #[tp T, vv k] w fun e w' => e = .returned (.int .i64 (plc t.p k)) ∧ Bz Q w' T S hb RT G (c + 1) { t with pr := t.pr + (prd t.p k : Nat) } s u s' ∧ Keep Q w w' := by
  obtain ⟨N1, N2, ⟨A, b, a, h1⟩, h2, h3, h4⟩ := h.tt
  refine (place_any h1 (by omega) k hr).mono ?_
  rintro e w' ⟨rfl, h', kk⟩
  obtain ⟨A', P, ka, va, ca, cb, h2⟩ := h2
  have f2 := h2.frame (w' := w') ⟨kk.os, kk.tape, kk.output, kk.size, fun g hg hn => kk.block g hg ((h3 g hg).resolve_right hn)⟩
  refine ⟨rfl, ⟨⟨N1, _, ⟨A, b, a, h'⟩, ⟨A', P, ka, va, ca, cb, f2.more (by omega)⟩, fun g q => ?_, fun g q => ⟨(h4 g q).1, .inl (h4 g q).2⟩⟩⟩, kk.sub (fun g q => (h4 g q).1)⟩
  by_cases hg : g < w.heap.size
  · rcases h3 g hg with r | r
    · exact .inl r
    · exact .inr (.inl r)
  · exact .inr (.inr ⟨by omega, q⟩)
theorem Bz.hint (h : Bz Q w T S hb RT G c t s u s') (n : Int) :
    Calls Tryz.prog 46 #[tp T, .int .i64 n] w fun e w' => e = .returned (.tuple #[]) ∧ Bz Q w' T S hb RT G (c + 1) (tHint t n) s u s' ∧ Keep Q w w' := by
  obtain ⟨N1, N2, ⟨A, b, a, h1⟩, h2, h3, h4⟩ := h.tt
  refine (hint_any h1 n).mono ?_
  rintro e w' ⟨rfl, h', kk⟩
  obtain ⟨A', P, ka, va, ca, cb, h2⟩ := h2
  have f2 := h2.frame (w' := w') ⟨kk.os, kk.tape, kk.output, kk.size, fun g hg hn => kk.block g hg ((h3 g hg).resolve_right hn)⟩
  refine ⟨rfl, ⟨⟨N1, _, ⟨A, b, a, h'⟩, ⟨A', P, ka, va, ca, cb, f2.more (by omega)⟩, fun g q => ?_, fun g q => ⟨(h4 g q).1, .inl (h4 g q).2⟩⟩⟩, kk.sub (fun g q => (h4 g q).1)⟩
  by_cases hg : g < w.heap.size
  · rcases h3 g hg with r | r
    · exact .inl r
    · exact .inr (.inl r)
  · exact .inr (.inr ⟨by omega, q⟩)
/-- A call of the reference's that leaves its blocks where they are. -/
theorem Bz.rcall (h : Bz Q w T S hb RT G c t s u s') {f : Nat} {args : Array Value} {v : Value} {u' : TS} (hh : ∀ N2 A P ka va ca cb, RQ N2 w RT A P ka va ca cb G c u s' → Calls Tryz.prog f args w fun e w' => e = .returned v ∧ RQ N2 w' RT A P ka va ca cb G (c + 1) u' s' ∧ Keep N2 w w') :
    Calls Tryz.prog f args w fun e w' => e = .returned v ∧ Bz Q w' T S hb RT G (c + 1) t s u' s' ∧ Keep Q w w' := by
  obtain ⟨N1, N2, ⟨A, b, a, h1⟩, ⟨A', P, ka, va, ca, cb, h2⟩, h3, h4⟩ := h.tt
  refine (hh _ _ _ _ _ _ _ h2).mono ?_
  rintro e w' ⟨rfl, h', kk⟩
  have f1 := h1.frame2 (w' := w') kk.os kk.tape kk.output kk.size (fun g hg hn => kk.block g hg ((h3 g hg).resolve_left hn))
  refine ⟨rfl, ⟨⟨_, N2, ⟨A, b, a, f1.more (by omega)⟩, ⟨A', P, ka, va, ca, cb, h'⟩, fun g q => ?_, fun g q => ⟨.inl (h4 g q).1, (h4 g q).2⟩⟩⟩, kk.sub (fun g q => (h4 g q).2)⟩
  by_cases hg : g < w.heap.size
  · rcases h3 g hg with r | r
    · exact .inl (.inl r)
    · exact .inr r
  · exact .inl (.inr ⟨by omega, q⟩)
theorem Bz.rget (h : Bz Q w T S hb RT G c t s u s') (hc : c ≤ 700000) (k : V) (hr : Rng k) :
    Calls Tryz.prog 43 #[tp RT, vv k] w fun e w' => e = .returned (vv (pget u.p k)) ∧ Bz Q w' T S hb RT G (c + 1) t s { u with pr := u.pr + (prd u.p k : Nat) } s' ∧ Keep Q w w' :=
  h.rcall fun _ _ _ _ _ _ _ h2 => rtget_any h2 hc k hr
theorem Bz.rplace (h : Bz Q w T S hb RT G c t s u s') (hc : c ≤ 700000) (k : V) (hr : Rng k) :
    Calls Tryz.prog 44 #[tp RT, vv k] w fun e w' => e = .returned (.int .i64 (plc u.p k)) ∧ Bz Q w' T S hb RT G (c + 1) t s { u with pr := u.pr + (prd u.p k : Nat) } s' ∧ Keep Q w w' :=
  h.rcall fun _ _ _ _ _ _ _ h2 => rplace8 h2 hc k hr
theorem Bz.rhint (h : Bz Q w T S hb RT G c t s u s') (n : Int) :
    Calls Tryz.prog 47 #[tp RT, .int .i64 n] w fun e w' => e = .returned (.tuple #[]) ∧ Bz Q w' T S hb RT G (c + 1) t s (tHint u n) s' ∧ Keep Q w w' :=
  h.rcall fun _ _ _ _ _ _ _ h2 => (rhint_any h2 n).mono fun _ _ q => ⟨q.1, q.2.1.more (by omega), q.2.2⟩
end
end Go.Proofs.YtonopchpnhninaaGreat

/- The walk of step: one call of both tables. The great seat's numbers. -/
namespace Go.Proofs.YtonopchpnhninaaGreat
open Go.RowKit

/-- An operation in a box. -/
structure O8 (w : World) (N : Nat) (d : Int) (k v : V) (m : Int) : Prop where
  c0 : w.cell? ⟨N, 0, none⟩ = some (.int .i64 d)
  c1 : w.cell? ⟨N, 1, none⟩ = some (.int .i64 k.1)
  c2 : w.cell? ⟨N, 2, none⟩ = some (.int .i64 k.2.1)
  c3 : w.cell? ⟨N, 3, none⟩ = some (.string k.2.2)
  c4 : w.cell? ⟨N, 4, none⟩ = some (.int .i64 v.1)
  c5 : w.cell? ⟨N, 5, none⟩ = some (.int .i64 v.2.1)
  c6 : w.cell? ⟨N, 6, none⟩ = some (.string v.2.2)
  c7 : w.cell? ⟨N, 7, none⟩ = some (.int .i64 m)
  lt : N < w.heap.size
theorem O8.kept {No : Nat → Prop} {w w' : World} {N : Nat} {d : Int} {k v : V} {m : Int} (h : O8 w N d k v m) (q : Keep No w w') (hn : No N) : O8 w' N d k v m := by
  have e := q.block N h.lt hn
  exact ⟨by rw [World.cell?_of_block (w := w) e]; exact h.c0, by rw [World.cell?_of_block (w := w) e]; exact h.c1, by rw [World.cell?_of_block (w := w) e]; exact h.c2, by rw [World.cell?_of_block (w := w) e]; exact h.c3, by rw [World.cell?_of_block (w := w) e]; exact h.c4, by rw [World.cell?_of_block (w := w) e]; exact h.c5, by rw [World.cell?_of_block (w := w) e]; exact h.c6, by rw [World.cell?_of_block (w := w) e]; exact h.c7, Nat.lt_of_lt_of_le h.lt q.size⟩
theorem O8.made (w : World) (d : Int) (k v : V) (m : Int) : O8 (w.alloc (.cells #[.int .i64 d, .int .i64 k.1, .int .i64 k.2.1, .string k.2.2, .int .i64 v.1, .int .i64 v.2.1, .string v.2.2, .int .i64 m] 45)) w.heap.size d k v m := by
  have e := (MapKept.heap_alloc w (.cells #[.int .i64 d, .int .i64 k.1, .int .i64 k.2.1, .string k.2.2, .int .i64 v.1, .int .i64 v.2.1, .string v.2.2, .int .i64 m] 45)).1
  exact ⟨by rw [cell_of_row e]; rfl, by rw [cell_of_row e]; rfl, by rw [cell_of_row e]; rfl, by rw [cell_of_row e]; rfl, by rw [cell_of_row e]; rfl, by rw [cell_of_row e]; rfl, by rw [cell_of_row e]; rfl, by rw [cell_of_row e]; rfl, by simp⟩
abbrev ov (d : Int) (k v : V) (m : Int) : Value := .agg #[.int .i64 d, .int .i64 k.1, .int .i64 k.2.1, .string k.2.2, .int .i64 v.1, .int .i64 v.2.1, .string v.2.2, .int .i64 m]
theorem beq_same (x : Int) : (x == x) = true := by simp

set_option maxRecDepth 100000 in
set_option maxHeartbeats 8000000 in
theorem step_any {Q : Nat → Prop} {w : World} {T S hb RT G c : Nat} {t : TS} {s : H.St} (h : Bz Q w T S hb RT G c t s t s) (hc : c ≤ 600000) (d : Int) (k v : V) (m : Int) (hr : Rng k) (hm : m ≤ 9223372036854775807) :
    Calls Tryz.prog 16 #[tp T, tp RT, ov d k v m] w fun e w' => e = .returned (.bool true) ∧ (∃ t' s', Bz Q w' T S hb RT G (c + 14) t' s' t' s') ∧ Keep Q w w' := by
  have B0 := b1 w (.cells #[.int .i64 d, .int .i64 k.1, .int .i64 k.2.1, .string k.2.2, .int .i64 v.1, .int .i64 v.2.1, .string v.2.2, .int .i64 m] 45)
  have O0 := O8.made w d k v m
  obtain ⟨W0, hW0⟩ : ∃ W0, w.alloc (.cells #[.int .i64 d, .int .i64 k.1, .int .i64 k.2.1, .string k.2.2, .int .i64 v.1, .int .i64 v.2.1, .string v.2.2, .int .i64 m] 45) = W0 := ⟨_, rfl⟩
  rw [hW0] at B0 O0
  have h1 := h.news B0
  have hlt := O0.lt
  obtain ⟨Q1, hQ1⟩ : ∃ Q1, (fun g => Q g ∨ (w.heap.size ≤ g ∧ g < W0.heap.size)) = Q1 := ⟨_, rfl⟩
  have HQ1 : Hid ((∀ g, Q g → Q1 g) ∧ Q1 w.heap.size) := by rw [← hQ1]; exact ⟨fun g q => .inl q, .inr ⟨Nat.le_refl _, hlt⟩⟩
  rw [hQ1] at h1
  have HB0 : Hid (Keep Q w W0) := Keep.of B0
  have HO0 : Hid (O8 W0 w.heap.size d k v m) := O0
  have HM0 : Hid (Bz Q1 W0 T S hb RT G c t s t s) := h1
  have HEnd : Hid (∀ w' t' s' c', c' ≤ c + 14 → Bz Q1 w' T S hb RT G c' t' s' t' s' → Keep Q1 W0 w' → (∃ t' s', Bz Q w' T S hb RT G (c + 14) t' s' t' s') ∧ Keep Q w w') := fun w' t' s' c' hc' hb kk => ⟨⟨t', s', (hb.sub HQ1.out.1).more hc'⟩, HB0.out.trans (kk.sub HQ1.out.1)⟩
  have HOx : Hid (∀ w', Keep Q1 W0 w' → O8 w' w.heap.size d k v m) := fun w' kk => HO0.out.kept kk HQ1.out.2
  have d0 := O0.c0
  have HG0 : Hid (Keep Q1 W0 W0.drew) := Keep.of (bdrew1 W0)
  have HSk : Hid (∀ w', Keep Q1 W0 w' → w'.cell? ⟨w.heap.size, 1, none⟩ = some (.int .i64 k.1) ∧ w'.cell? ⟨w.heap.size, 2, none⟩ = some (.int .i64 k.2.1) ∧ w'.cell? ⟨w.heap.size, 3, none⟩ = some (.string k.2.2) ∧ w'.cell? ⟨w.heap.size, 4, none⟩ = some (.int .i64 v.1) ∧ w'.cell? ⟨w.heap.size, 5, none⟩ = some (.int .i64 v.2.1) ∧ w'.cell? ⟨w.heap.size, 6, none⟩ = some (.string v.2.2)) := fun w' kk => by
    have o := HOx.out w' kk
    exact ⟨o.c1, o.c2, o.c3, o.c4, o.c5, o.c6⟩
  clear h B0 O0 hQ1 h1 hlt
  unfold ov tp
  generalize hsz : w.heap.size = N at *
  by_cases e1 : d = 1
  · have g1 : (d == 1) = true := by simp [e1]
    have CS := (HM0.out.below (bdrew1 W0)).set (by omega) k v hr
    unfold vv vl tp at CS
    obtain ⟨r, hrr⟩ : ∃ r, tset t s k v = r := ⟨_, rfl⟩
    have HRr : Hid (tset t s k v = r) := hrr
    rw [hrr] at CS
    have hbs := beq_same r.2.2
    clear e1 hrr
    go_enter Tryz.func16, Tryz.ntmps16
    go_wp2_with fail
    go_region_held3 (fun w' => w'.cell? ⟨N, 1, none⟩ = some (.int .i64 k.1) ∧ w'.cell? ⟨N, 2, none⟩ = some (.int .i64 k.2.1) ∧ w'.cell? ⟨N, 3, none⟩ = some (.string k.2.2) ∧ w'.cell? ⟨N, 4, none⟩ = some (.int .i64 v.1) ∧ w'.cell? ⟨N, 5, none⟩ = some (.int .i64 v.2.1) ∧ w'.cell? ⟨N, 6, none⟩ = some (.string v.2.2)) (exact HSk.out _ (by first | exact HG0.out | exact HG1.out | exact HG2.out)) (first
      | (go_at_call 9; refine CS.mono ?_; rintro e w5 ⟨rfl, h5, k5⟩; have HG1 : Hid (Keep Q1 W0 w5) := HG0.out.trans k5; have CR := h5.rset (by omega) k v hr; unfold vv vl tp at CR; rw [HRr.out] at CR; clear h5 k5)
      | (go_at_call 27; refine CR.mono ?_; rintro e w6 ⟨rfl, h6, k6⟩; have HG2 : Hid (Keep Q1 W0 w6) := HG1.out.trans k6; have HM6 : Hid (Bz Q1 w6 T S hb RT G (c + 7 + 7) r.1 r.2.1 r.1 r.2.1) := h6; clear h6 k6))
    all_goals
      go_wp2_with fail
      go_ret
      exact ⟨rfl, HEnd.out _ _ _ _ (by omega) HM6.out HG2.out⟩
  · have g1 : (d == 1) = false := by simpa using e1
    clear e1
    by_cases e2 : d = 2
    · have g2 : (d == 2) = true := by simp [e2]
      have CS := (HM0.out.below (bdrew1 W0)).get (by omega) k hr
      have N1 := eql32 (pget t.p k).1 (pget t.p k).2.1 (pget t.p k).1 (pget t.p k).2.1 (pget t.p k).2.2 (pget t.p k).2.2
      simp only [decide_true] at N1
      unfold vl at N1
      have gd := guard32
      unfold vv vl tp at CS
      clear e2
      go_enter Tryz.func16, Tryz.ntmps16
      go_wp2_with fail
      go_region_held3 (fun w' => w'.cell? ⟨N, 1, none⟩ = some (.int .i64 k.1) ∧ w'.cell? ⟨N, 2, none⟩ = some (.int .i64 k.2.1) ∧ w'.cell? ⟨N, 3, none⟩ = some (.string k.2.2) ∧ w'.cell? ⟨N, 4, none⟩ = some (.int .i64 v.1) ∧ w'.cell? ⟨N, 5, none⟩ = some (.int .i64 v.2.1) ∧ w'.cell? ⟨N, 6, none⟩ = some (.string v.2.2)) (exact HSk.out _ (by first | exact HG0.out | exact HG1.out | exact HG2.out)) (first
        | (go_at_call 11; refine CS.mono ?_; rintro e w5 ⟨rfl, h5, k5⟩; have HG1 : Hid (Keep Q1 W0 w5) := HG0.out.trans k5; have CR := h5.rget (by omega) k hr; unfold vv vl tp at CR; clear h5 k5)
        | (go_at_call 43; refine CR.mono ?_; rintro e w6 ⟨rfl, h6, k6⟩; have HG2 : Hid (Keep Q1 W0 w6) := HG1.out.trans k6; have HM6 : Hid (Bz Q1 w6 T S hb RT G (c + 1 + 1) { t with pr := t.pr + (prd t.p k : Nat) } s { t with pr := t.pr + (prd t.p k : Nat) } s) := h6; clear h6 k6))
      all_goals
        go_wp2_with fail
        go_ret
        exact ⟨rfl, HEnd.out _ _ _ _ (by omega) HM6.out HG2.out⟩
    · have g2 : (d == 2) = false := by simpa using e2
      clear e2
      by_cases e3 : d = 3
      · have g3 : (d == 3) = true := by simp [e3]
        have CS := (HM0.out.below (bdrew1 W0)).place (by omega) k hr
        have hbs := beq_same (plc t.p k)
        unfold vv vl tp at CS
        clear e3
        go_enter Tryz.func16, Tryz.ntmps16
        go_wp2_with fail
        go_region_held3 (fun w' => w'.cell? ⟨N, 1, none⟩ = some (.int .i64 k.1) ∧ w'.cell? ⟨N, 2, none⟩ = some (.int .i64 k.2.1) ∧ w'.cell? ⟨N, 3, none⟩ = some (.string k.2.2) ∧ w'.cell? ⟨N, 4, none⟩ = some (.int .i64 v.1) ∧ w'.cell? ⟨N, 5, none⟩ = some (.int .i64 v.2.1) ∧ w'.cell? ⟨N, 6, none⟩ = some (.string v.2.2)) (exact HSk.out _ (by first | exact HG0.out | exact HG1.out | exact HG2.out)) (first
          | (go_at_call 13; refine CS.mono ?_; rintro e w5 ⟨rfl, h5, k5⟩; have HG1 : Hid (Keep Q1 W0 w5) := HG0.out.trans k5; have CR := h5.rplace (by omega) k hr; unfold vv vl tp at CR; clear h5 k5)
          | (go_at_call 44; refine CR.mono ?_; rintro e w6 ⟨rfl, h6, k6⟩; have HG2 : Hid (Keep Q1 W0 w6) := HG1.out.trans k6; have HM6 : Hid (Bz Q1 w6 T S hb RT G (c + 1 + 1) { t with pr := t.pr + (prd t.p k : Nat) } s { t with pr := t.pr + (prd t.p k : Nat) } s) := h6; clear h6 k6))
        all_goals
          go_wp2_with fail
          go_ret
          exact ⟨rfl, HEnd.out _ _ _ _ (by omega) HM6.out HG2.out⟩
      · have g3 : (d == 3) = false := by simpa using e3
        clear e3 HG0 HSk
        by_cases e4 : d = 4
        · have g4 : (d == 4) = true := by simp [e4]
          have d7 := HO0.out.c7
          have CP := HM0.out.pair m hm
          obtain ⟨px, hpx⟩ : ∃ px, prP t.p m = px := ⟨_, rfl⟩
          have HPx : Hid (prP t.p m = px) := hpx
          rw [hpx] at CP
          have N1 := eql32 px.1.1 px.1.2.1 px.1.1 px.1.2.1 px.1.2.2 px.1.2.2
          have N2 := eql32 px.2.1 px.2.2.1 px.2.1 px.2.2.1 px.2.2.2 px.2.2.2
          simp only [decide_true] at N1 N2
          unfold vl at N1 N2
          have gd := guard32
          unfold vv vl tp at CP
          clear e4 hpx
          go_enter Tryz.func16, Tryz.ntmps16
          go_wp2_with fail
          refine CP.mono ?_; rintro e w5 ⟨rfl, hb5⟩
          have hb6 := b2 w5 (.cells #[.int .i64 px.1.1, .int .i64 px.1.2.1, .string px.1.2.2] 35) (.cells #[.int .i64 px.2.1, .int .i64 px.2.2.1, .string px.2.2.2] 35)
          have x6 : Bx ((w5.alloc (.cells #[.int .i64 px.1.1, .int .i64 px.1.2.1, .string px.1.2.2] 35)).alloc (.cells #[.int .i64 px.2.1, .int .i64 px.2.2.1, .string px.2.2.2] 35)) w5.heap.size px.1 := (Bx.made w5 px.1).below (b1 _ _)
          have y6 : Bx ((w5.alloc (.cells #[.int .i64 px.1.1, .int .i64 px.1.2.1, .string px.1.2.2] 35)).alloc (.cells #[.int .i64 px.2.1, .int .i64 px.2.2.1, .string px.2.2.2] 35)) (w5.heap.size + 1) px.2 := by
            have q := Bx.made (w5.alloc (.cells #[.int .i64 px.1.1, .int .i64 px.1.2.1, .string px.1.2.2] 35)) px.2
            rwa [show (w5.alloc (.cells #[.int .i64 px.1.1, .int .i64 px.1.2.1, .string px.1.2.2] 35)).heap.size = w5.heap.size + 1 by simp] at q
          obtain ⟨W6, hW6⟩ : ∃ W6, (w5.alloc (.cells #[.int .i64 px.1.1, .int .i64 px.1.2.1, .string px.1.2.2] 35)).alloc (.cells #[.int .i64 px.2.1, .int .i64 px.2.2.1, .string px.2.2.2] 35) = W6 := ⟨_, rfl⟩
          rw [hW6] at hb6 x6 y6
          have hb06 : Below W0.heap.size W0 W6 := bthen hb5 hb5.size hb6
          have c7 := (HOx.out W6 (Keep.of hb06)).c7
          have CR := (HM0.out.below hb06).rpair m
          rw [HPx.out] at CR
          unfold vv vl tp at CR
          have HB6 : Hid (Below W0.heap.size W0 W6) := hb06
          have HX6 : Hid (Bx W6 w5.heap.size px.1 ∧ Bx W6 (w5.heap.size + 1) px.2) := ⟨x6, y6⟩
          have e5 : (w5.alloc (.cells #[.int .i64 px.1.1, .int .i64 px.1.2.1, .string px.1.2.2] 35)).heap.size = w5.heap.size + 1 := by simp
          generalize hn5 : w5.heap.size = n5 at *
          clear hb5 hb6 x6 y6 hb06 CP
          go_wp2_with fail
          refine CR.mono ?_; rintro e w7 ⟨rfl, hb7⟩
          have hb8 := b2 w7 (.cells #[.int .i64 px.1.1, .int .i64 px.1.2.1, .string px.1.2.2] 35) (.cells #[.int .i64 px.2.1, .int .i64 px.2.2.1, .string px.2.2.2] 35)
          have hb68 := bthen hb7 hb7.size hb8
          have x8 : Bx ((w7.alloc (.cells #[.int .i64 px.1.1, .int .i64 px.1.2.1, .string px.1.2.2] 35)).alloc (.cells #[.int .i64 px.2.1, .int .i64 px.2.2.1, .string px.2.2.2] 35)) w7.heap.size px.1 := (Bx.made w7 px.1).below (b1 _ _)
          have y8 : Bx ((w7.alloc (.cells #[.int .i64 px.1.1, .int .i64 px.1.2.1, .string px.1.2.2] 35)).alloc (.cells #[.int .i64 px.2.1, .int .i64 px.2.2.1, .string px.2.2.2] 35)) (w7.heap.size + 1) px.2 := by
            have q := Bx.made (w7.alloc (.cells #[.int .i64 px.1.1, .int .i64 px.1.2.1, .string px.1.2.2] 35)) px.2
            rwa [show (w7.alloc (.cells #[.int .i64 px.1.1, .int .i64 px.1.2.1, .string px.1.2.2] 35)).heap.size = w7.heap.size + 1 by simp] at q
          have e7 : (w7.alloc (.cells #[.int .i64 px.1.1, .int .i64 px.1.2.1, .string px.1.2.2] 35)).heap.size = w7.heap.size + 1 := by simp
          obtain ⟨W8, hW8⟩ : ∃ W8, (w7.alloc (.cells #[.int .i64 px.1.1, .int .i64 px.1.2.1, .string px.1.2.2] 35)).alloc (.cells #[.int .i64 px.2.1, .int .i64 px.2.2.1, .string px.2.2.2] 35) = W8 := ⟨_, rfl⟩
          rw [hW8] at hb8 hb68 x8 y8
          have x9 := HX6.out.1.below hb68
          have y9 := HX6.out.2.below hb68
          have HE : Hid _ := HEnd.out W8 _ _ _ (by omega) (HM0.out.below (bthen HB6.out HB6.out.size hb68)) (Keep.of (bthen HB6.out HB6.out.size hb68))
          generalize hn7 : w7.heap.size = n7 at *
          have u0 := x8.c0
          have u1 := x8.c1
          have u2 := x8.c2
          have u3 := y8.c0
          have u4 := y8.c1
          have u5 := y8.c2
          have z0 := x9.c0
          have z1 := x9.c1
          have z2 := x9.c2
          have z3 := y9.c0
          have z4 := y9.c1
          have z5 := y9.c2
          clear x8 y8 x9 y9 hb7 hb8 hb68 CR
          go_wp2_with fail
          go_ret
          exact ⟨rfl, HE.out⟩
        · have g4 : (d == 4) = false := by simpa using e4
          clear e4
          by_cases e5 : d = 5
          · have g5 : (d == 5) = true := by simp [e5]
            have d7 := HO0.out.c7
            have CH := HM0.out.hint m
            unfold tp at CH
            clear e5
            go_enter Tryz.func16, Tryz.ntmps16
            go_wp2_with fail
            refine CH.mono ?_; rintro e w5 ⟨rfl, h5, k5⟩
            have HG1 : Hid (Keep Q1 W0 w5) := k5
            have d7 := (HOx.out w5 k5).c7
            have CR := h5.rhint m
            unfold tp at CR
            clear h5 k5 CH
            go_wp2_with fail
            refine CR.mono ?_; rintro e w6 ⟨rfl, h6, k6⟩
            have HE : Hid _ := HEnd.out w6 _ _ _ (by omega) h6 (HG1.out.trans k6)
            clear h6 k6 CR
            go_wp2_with fail
            go_ret
            exact ⟨rfl, HE.out⟩
          · have g5 : (d == 5) = false := by simpa using e5
            have CD := HM0.out.dumps rfl
            unfold tp at CD
            clear e5
            go_enter Tryz.func16, Tryz.ntmps16
            go_wp2_with fail
            refine CD.mono ?_; rintro e w5 ⟨rfl, hb5⟩
            have HE : Hid _ := HEnd.out w5 _ _ _ (by omega) (HM0.out.below hb5) (Keep.of hb5)
            clear hb5 CD
            go_wp2_with fail
            go_ret
            exact ⟨rfl, HE.out⟩
end Go.Proofs.YtonopchpnhninaaGreat
