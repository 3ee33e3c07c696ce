/- The reference's twice: its 256 lists, and the walk. -/
import Derived.Test.YtcaaaoehipcloaaGreatCg37
import Derived.Test.YtcaaaoehipcloaaGreatCg05
import Derived.Deep.RegionLaw
import Derived.Deep.AppendLies
import Derived.Test.YtcaaaoehipcloaaGreatCg06
namespace Go.Proofs.YtcaaaoehipcloaaGreat.C
open Go.RowKit

/-- In which of the lists a number is put. -/
def hs (x : Int) : Nat := ((x % 18446744073709551616) % 251).toNat
theorem hs_lt (x : Int) : hs x < 251 := by unfold hs; omega
theorem hs_wrap (x : Int) : wrap64 ((IntKind.u64.wrap x).tmod 251) = (hs x : Int) := by
  unfold hs
  rw [IntKind.wrap_u64]
  have q0 : 0 ≤ x % 18446744073709551616 := by omega
  rw [Int.tmod_eq_emod_of_nonneg q0, wrap64_id _ (by omega) (by omega)]
  omega
/-- What the list number j holds. -/
def bk (l : List Int) (j : Nat) : List Int := l.filter (fun x => decide (hs x = j))
theorem bk_len (l : List Int) (j : Nat) : (bk l j).length ≤ l.length := List.length_filter_le _ _
theorem bk_succ (l : List Int) (k : Nat) (h : k < l.length) (j : Nat) : bk (l.take (k + 1)) j = bk (l.take k) j ++ (if hs (l.getD k 0) = j then [l.getD k 0] else []) := by
  unfold bk
  rw [take_snoc l k h, List.filter_append]
  congr 1
  by_cases hq : hs (l.getD k 0) = j
  · rw [if_pos hq]; simpa using hq
  · rw [if_neg hq]; simpa using hq
theorem take_getD (l : List Int) (k : Nat) (h : k < l.length) : l.getD k 0 ∈ l := by
  rw [getD_eq l k h]; exact List.getElem_mem h
theorem bk_dup (l : List Int) (k : Nat) (h : k < l.length) (u : Nat) (hu : u < (bk (l.take k) (hs (l.getD k 0))).length) (he : (bk (l.take k) (hs (l.getD k 0))).getD u 0 = l.getD k 0) : ¬ l.Nodup := by
  intro hn
  have hm : l.getD k 0 ∈ l.take k := by
    have h1 := List.getElem_mem (l := bk (l.take k) (hs (l.getD k 0))) hu
    rw [getD_eq _ u hu] at he
    rw [he] at h1
    exact (List.mem_filter.1 h1).1
  have h2 : (l.take (k + 1)).Nodup := hn.sublist (List.take_sublist _ _)
  rw [take_snoc l k h, List.nodup_append] at h2
  exact h2.2.2 _ hm _ (by simp) rfl
theorem bk_new (l : List Int) (k : Nat) (h : k < l.length) (hn : (l.take k).Nodup) (hu : ∀ u, u < (bk (l.take k) (hs (l.getD k 0))).length → ¬ (bk (l.take k) (hs (l.getD k 0))).getD u 0 = l.getD k 0) : (l.take (k + 1)).Nodup := by
  rw [take_snoc l k h, List.nodup_append]
  refine ⟨hn, by simp, fun a ha b hb e => ?_⟩
  simp at hb
  have hm : l.getD k 0 ∈ bk (l.take k) (hs (l.getD k 0)) := by
    refine List.mem_filter.2 ⟨?_, by simp⟩
    have : a = l.getD k 0 := by rw [e, hb]; rfl
    rw [← this]; exact ha
  obtain ⟨u, hlt, he⟩ := List.getElem_of_mem hm
  exact hu u hlt (by rw [getD_eq _ u hlt]; exact he)

/-- The block G holds 256 lists, each in a row of its own behind it. -/
structure Bks (G : Nat) (w : World) (vs : Nat → Value) (b : Nat → List Int) : Prop where
  cell : ∀ j, j < 256 → w.cell? ⟨G, j, none⟩ = some (vs j)
  free : ∀ j, j < 256 → w.frozen? ⟨G, j, none⟩ = false
  own : ∀ j, j < 256 → w.ownsRow (G + 1) 3 1 (vs j) (b j).length ((b j).map (Value.int .i64))
  apart : ∀ i j, i < 256 → j < 256 → i ≠ j → (vs i).ownBlock = none ∨ (vs i).ownBlock ≠ (vs j).ownBlock
  lt : G < w.heap.size

theorem Bks.drew {G : Nat} {w : World} {vs : Nat → Value} {b : Nat → List Int} (h : Bks G w vs b) : Bks G w.drew vs b := ⟨h.cell, h.free, h.own, h.apart, h.lt⟩
theorem Bks.at {G : Nat} {w : World} {vs : Nat → Value} {b : Nat → List Int} (h : Bks G w vs b) (j : Nat) (hj : j < 256) :
    ∃ a cap, vs j = .slice a (b j).length cap ∧ ∀ w', Bks G w' vs b → b j ≠ [] → ∃ g off, a = some ⟨g, off, none⟩ ∧ ∀ i, i < (b j).length → w'.cell? ⟨g, off + i, none⟩ = some (.int .i64 ((b j).getD i 0)) := by
  obtain ⟨a, cap, e, _, _⟩ := ints_own (h.own j hj)
  refine ⟨a, cap, e, fun w' h' hne => ?_⟩
  obtain ⟨a', cap', e', _, hc⟩ := ints_own (h'.own j hj)
  rw [e] at e'
  injection e' with e1 _ _
  subst e1
  obtain ⟨g, off, q1, _, q2⟩ := hc hne
  exact ⟨g, off, q1, q2⟩
theorem gset (w : World) (b i : Nat) (v : Value) : w.grownBy (w.setCell ⟨b, i, none⟩ v) (some b) :=
  ⟨rfl, rfl, rfl, by simp [World.setCell], fun k _ hk => Below.heap_setCell _ _ _ _ (fun e => hk (by simp [e]))⟩

theorem Bks.upd {G : Nat} {w w1 : World} {vs : Nat → Value} {b b' : Nat → List Int} (h : Bks G w vs b) (j : Nat) (hj : j < 256) (v' : Value) (x : Int) (hg : w.grownBy w1 (vs j).ownBlock)
    (hown : w1.ownsRow (G + 1) 3 1 v' ((b j).length + 1) ((b j).map (Value.int .i64) ++ [.int .i64 x])) (hloc : (vs j).ownBlock = v'.ownBlock ∨ ∃ g, v'.ownBlock = some g ∧ w.heap.size ≤ g)
    (hb : b' j = b j ++ [x]) (ho : ∀ i, i ≠ j → b' i = b i) : Bks G (w1.setCell ⟨G, j, none⟩ v') (fun i => if i = j then v' else vs i) b' := by
  have hG : ∀ i, i < 256 → some G ≠ (vs i).ownBlock := fun i hi e => by
    have := ((h.own i hi).lt G e.symm).1
    omega
  have hG' : some G ≠ v'.ownBlock := fun e => by
    have := (hown.lt G e.symm).1
    omega
  have hc : ∀ i, i < 256 → w1.cell? ⟨G, i, none⟩ = some (vs i) := fun i hi => by rw [hg.cell_far _ h.lt (hG j hj)]; exact h.cell i hi
  have hap : ∀ i, i < 256 → i ≠ j → (vs i).ownBlock = none ∨ (vs i).ownBlock ≠ v'.ownBlock := fun i hi hij => by
    rcases hloc with e | ⟨g, e, hge⟩
    · rw [← e]; exact h.apart i j hi hj hij
    · rw [e]
      cases q : (vs i).ownBlock with
      | none => exact .inl rfl
      | some y =>
        have := ((h.own i hi).lt y q).2
        exact .inr (fun q2 => by injection q2 with q2; omega)
  have hgs := gset w1 G j v'
  refine ⟨fun i hi => ?_, fun i hi => ?_, fun i hi => ?_, fun i k hi hk hik => ?_, by have := hg.size; have := h.lt; simp; omega⟩
  · by_cases hij : i = j
    · subst hij
      rw [if_pos rfl]
      exact World.cell?_setCell_same _ _ _ (hc i hi)
    · rw [if_neg hij, World.cell?_setCell_other _ _ _ _ (fun q => by injection q with _ q2; omega)]
      exact hc i hi
  · rw [World.frozen?_setCell, hg.frozen_far _ h.lt (hG j hj)]; exact h.free i hi
  · by_cases hij : i = j
    · subst hij
      rw [if_pos rfl, hb]
      refine World.ownsRow.kept ?_ hgs (.inr (Ne.symm hG'))
      simpa using hown
    · rw [if_neg hij, ho i hij]
      exact ((h.own i hi).kept hg (h.apart i j hi hj hij)).kept hgs (.inr (Ne.symm (hG i hi)))
  · by_cases hij : i = j
    · subst hij
      rw [if_pos rfl, if_neg (Ne.symm hik)]
      rcases hap k hk (Ne.symm hik) with q | q
      · rw [q]
        cases v'.ownBlock with
        | none => exact .inl rfl
        | some y => exact .inr (by simp)
      · exact .inr (Ne.symm q)
    · rw [if_neg hij]
      by_cases hkj : k = j
      · rw [if_pos hkj]; exact hap i hi hij
      · rw [if_neg hkj]; exact h.apart i k hi hk hik

theorem balloc' (w : World) (o : Obj) : Below w.heap.size w (w.alloc o) := (Below.refl _ _).alloc (Nat.le_refl _) o

theorem info22 : (Tryz.prog.info? 37).map (fun i => (i.zero, i.size, i.bytes)) = some (some (.slice none 0 0), 1, 24) := by kernel_rfl
theorem make_lists (W : World) : (Instr.makeSlice 110 (.int .i64 256) (.int .i64 256)).run Tryz.prog W = .ok (.slice (some ⟨W.heap.size, 0, none⟩) 256 256) (W.alloc (.cells (madeCells (Value.slice none 0 0).cells (256 * 1)) 37)) := by
  obtain ⟨i0, hi, hz0, hz1, hz2⟩ := info_parts info22
  have h := run_make (P := Tryz.prog) W 110 37 i0 (.slice none 0 0) Tryz.underlying110 hi hz0 .i64 .i64 256 256 (by omega) (Int.le_refl _) (by rw [hz2]; omega) (by omega)
  rw [hz1] at h
  simpa using h
theorem bks_made (W : World) : Bks W.heap.size (W.alloc (.cells (madeCells (Value.slice none 0 0).cells (256 * 1)) 37)) (fun _ => .slice none 0 0) (fun _ => []) := by
  refine ⟨fun j hj => ?_, fun j hj => new_free W _ _ j, fun j hj => World.ownsRow_nil _ _ _ _, fun i j hi hj hij => .inl rfl, by simp⟩
  rw [cell_of_row (MapKept.heap_alloc W _).1]
  simp [madeCells, Value.cells, hj, Nat.mod_one]

set_option maxRecDepth 20000 in
set_option maxHeartbeats 2000000 in
theorem rtwice_any (l : List Int) (v : Value) (w : World) (h : Ints w.heap.size w v l) (hlen : l.length ≤ 1000000) :
    Calls Tryz.prog 90 #[v] w fun e w' => e = .returned (.bool (decide (¬ l.Nodup))) ∧ Below w.heap.size w w' := by
  obtain ⟨a, cap, rfl, hcap, h⟩ := h
  have HC : Hid _ := h
  have HL : Hid (l ≠ [] ↔ 0 < l.length) := by
    show _ ↔ _
    cases l <;> simp
  have HD : Hid (∀ k, k < l.length → ∀ u, u < (bk (l.take k) (hs (l.getD k 0))).length → (bk (l.take k) (hs (l.getD k 0))).getD u 0 = l.getD k 0 → decide (¬ l.Nodup) = true) := fun k hk u hu he => by
    simpa using bk_dup l k hk u hu he
  have HN : Hid (∀ k, k < l.length → (l.take k).Nodup → (∀ u, u < (bk (l.take k) (hs (l.getD k 0))).length → ¬ (bk (l.take k) (hs (l.getD k 0))).getD u 0 = l.getD k 0) → (l.take (k + 1)).Nodup) := fun k hk hn hu => bk_new l k hk hn hu
  have HS : Hid (∀ k, k < l.length → ∀ j, bk (l.take (k + 1)) j = bk (l.take k) j ++ (if hs (l.getD k 0) = j then [l.getD k 0] else [])) := fun k hk j => bk_succ l k hk j
  have HE : Hid ((l.take l.length).Nodup → decide (¬ l.Nodup) = false) := fun q => by
    rw [List.take_length] at q
    simpa using q
  have HB : Hid (∀ k j, k ≤ l.length → (bk (l.take k) j).length ≤ 1000000) := fun k j hk => by
    have := bk_len (l.take k) j
    rw [List.length_take] at this
    omega
  clear h hcap
  have hmk := make_lists w
  have M : Bks w.heap.size (w.alloc (.cells (madeCells (Value.slice none 0 0).cells (256 * 1)) 37)) (fun _ => .slice none 0 0) (bk (l.take 0)) := bks_made w
  have m3 : Below w.heap.size w (w.alloc (.cells (madeCells (Value.slice none 0 0).cells (256 * 1)) 37)) := (Below.refl _ _).alloc (Nat.le_refl _) _
  obtain ⟨W1, hW1⟩ : ∃ W1, W1 = (w.alloc (.cells (madeCells (Value.slice none 0 0).cells (256 * 1)) 37)) := ⟨_, rfl⟩
  rw [← hW1] at hmk M m3
  clear hW1
  have HM : Hid _ := M
  clear M
  obtain ⟨L, hL⟩ : ∃ L, l.length = L := ⟨_, rfl⟩
  rw [hL] at HC HL HS HB HD HN HE hlen ⊢
  obtain ⟨G, hG⟩ : ∃ G, w.heap.size = G := ⟨_, rfl⟩
  rw [hG] at hmk HM m3 HC ⊢
  clear hL
  go_enter Tryz.func90, Tryz.ntmps90
  go_wp2_with fail
  go_loopw [4] (fun i wr => ∃ k : Nat, i = .int .i64 k ∧ k ≤ L ∧ Hid ((l.take k).Nodup ∧ ∃ vs, Bks G wr vs (bk (l.take k))) ∧ Below G w wr) (fun i _ => L - (intOf i).toNat)
  case atStart => exact ⟨0, rfl, by omega, ⟨by simp, _, HM.out⟩, m3⟩
  case round =>
    obtain ⟨k, rfl, hk, HR, hb⟩ := hrel
    by_cases hlt : k < L
    · have hlt' : (k : Int) < (L : Int) := by omega
      obtain ⟨g, off, rfl, hg, hc⟩ := HC.out (HL.out.2 (by omega))
      have c1 : ∀ wr, Below G w wr → wr.cell? ⟨g, off + k, none⟩ = some (.int .i64 (l.getD k 0)) := fun wr hb => by rw [hb.cell (by exact hg)]; exact hc k hlt
      have c1r := c1 wr hb
      obtain ⟨hnd, vs, hbk⟩ := HR.out
      have HD2 : Hid _ := HD.out k hlt
      have HN2 : Hid _ := HN.out k hlt hnd
      have HS2 : Hid _ := HS.out k hlt
      have hB2 := HB.out k (hs (l.getD k 0)) hk
      have hh := hs_wrap (l.getD k 0)
      have hj := hs_lt (l.getD k 0)
      have HK : Hid _ := hbk
      obtain ⟨ab, capb, eb, hat⟩ := hbk.at (hs (l.getD k 0)) (by omega)
      have HA : Hid _ := hat
      have EB : Hid _ := eb
      clear hc HC HR HD HN HS HB hnd hat eb HM hmk m3 HE HL
      generalize bk (l.take k) = B at *
      generalize l.getD k 0 = x at *
      generalize hs x = j at *
      have hj' : (j : Int) < 256 := by omega
      obtain ⟨n, hn⟩ : ∃ n, (B j).length = n := ⟨_, rfl⟩
      have HLn : Hid _ := hn
      rw [hn] at hB2 HA EB HD2 HN2
      clear hn
      go_wp2_with fail
      go_loopw [6] (fun q wr => ∃ t : Nat, q = .int .i64 t ∧ t ≤ n ∧ Hid (∀ u, u < t → ¬ (B j).getD u 0 = x) ∧ Hid (Bks G wr vs B) ∧ Below G w wr) (fun q _ => n - (intOf q).toNat)
      case atStart => exact ⟨0, rfl, by omega, fun u hu => absurd hu (by omega), HK, hb⟩
      case round =>
        obtain ⟨t, rfl, ht, HT, HK2, hb2⟩ := hrel
        have d1 := HK2.out.cell j (by omega)
        rw [show vs j = _ from EB.out] at d1
        have c1t := c1 _ hb2
        by_cases htn : t < n
        · have htn' : (t : Int) < (n : Int) := by omega
          obtain ⟨gb, ob, rfl, hcb⟩ := HA.out _ HK2.out (fun q => by have := HLn.out; rw [q] at this; simp at this; omega)
          have d2 := hcb t (by have := HLn.out; omega)
          have HD3 : Hid _ := HD2.out t htn
          have HT2 : Hid (¬ (B j).getD t 0 = x → ∀ u, u < t + 1 → ¬ (B j).getD u 0 = x) := by
            intro q u hu
            by_cases hut : u = t
            · subst hut; exact q
            · exact HT.out u (by omega)
          clear hcb c1 HA HT
          generalize (B j).getD t 0 = y at *
          by_cases hxy : y = x
          · have HF : Hid _ := HD3.out hxy
            subst hxy
            clear HD3 HT2 HN2 HS2
            go_wp2_with fail
            go_region
            go_wp2_with fail
            go_ret
            exact ⟨retB HF.out, hb2.drew⟩
          · have HT3 : Hid _ := HT2.out hxy
            have hxy' : (y == x) = false := by simpa using hxy
            clear HD3 HT2 HN2 HS2
            go_wp2_with fail
            go_region
            go_wp2_with fail
            go_roundw
            case rel => exact ⟨t + 1, by go_num, by omega, HT3, HK2.out.drew, hb2.drew⟩
            case measure => simp [intOf]; omega
        · obtain rfl : t = n := by omega
          have HT3 : Hid _ := HN2.out HT.out
          have f1 := HK2.out.free j (by omega)
          have o1 := HK2.out.own j (by omega)
          rw [show (B j).length = t from HLn.out, show vs j = _ from EB.out] at o1
          have hGs := HK2.out.lt
          clear HN2 HD2 HT
          obtain ⟨i0, hi0, hz0, hz1, hz2⟩ := info_parts info3
          have lg : g < G := hg
          have neG : some G ≠ (Value.slice ab t capb).ownBlock := fun e => by have := (o1.lt G e.symm).1; omega
          have neg : some g ≠ (Value.slice ab t capb).ownBlock := fun e => by have := (o1.lt g e.symm).1; omega
          have hUp : Hid (∀ gg cap2 w1, (wr.drew.grownBy w1 (Value.slice ab t capb).ownBlock) → w1.ownsRow (G + 1) 3 1 (.slice (some ⟨gg, 0, none⟩) (t + 1) cap2) (t + 1) ((B j).map (Value.int .i64) ++ [.int .i64 x]) →
              ((Value.slice ab t capb).ownBlock = some gg ∨ gg = wr.heap.size + 1) → (∃ vs, Bks G (w1.setCell ⟨G, j, none⟩ (.slice (some ⟨gg, 0, none⟩) (t + 1) cap2)) vs (bk (l.take (k + 1)))) ∧ Below G w (w1.setCell ⟨G, j, none⟩ (.slice (some ⟨gg, 0, none⟩) (t + 1) cap2))) := by
            intro gg cap2 w1 hgr hown hloc
            refine ⟨⟨_, HK2.out.drew.upd j (by omega) _ x (by rw [show vs j = _ from EB.out]; exact hgr) (by rw [show (B j).length = t from HLn.out]; exact hown) ?_ ?_ ?_⟩, ?_⟩
            · rw [show vs j = _ from EB.out]
              rcases hloc with q | q
              · exact .inl q
              · exact .inr ⟨gg, rfl, by rw [q]; exact Nat.le_succ _⟩
            · rw [HS2.out j, if_pos rfl]
            · intro i hi
              rw [HS2.out i, if_neg (fun q => hi q.symm), List.append_nil]
            · exact (hb2.drew.grown hgr (by exact Nat.le_of_lt hGs) (fun y hy => by have := (o1.lt y hy).1; omega)).setCell (by simp) _
          clear HK HK2 HA HS2 EB
          go_wp2_with fail
          have d1a : (wr.alloc (.cells #[.int .i64 x] 3)).cell? ⟨G, j, none⟩ = some (.slice ab t capb) := ((balloc' wr _).cell (by exact hGs)).trans d1
          have f1a : (wr.alloc (.cells #[.int .i64 x] 3)).frozen? ⟨G, j, none⟩ = false := ((balloc' wr _).frozen (by exact hGs)).trans f1
          go_region_law ((refine step_append_lies _ (by rfl) _ _ _ (by rfl) (G + 1) 3 i0 _ 1 8 Tryz.underlying37 hi0 hz0 hz1 hz2 rfl (by omega) (.slice ab t capb) t ((B j).map (Value.int .i64)) (by rfl) ((o1.alloc _).drew) ⟨wr.heap.size, 0, none⟩ 1 1 [.int .i64 x] (by rfl) (by rfl) (World.news_of_block (cs := #[.int .i64 x]) (t := 3) (fr := (0, 0)) (heap_alloc_new wr _)) (by simp [Value.oneCell']) (by omega) (by unfold maxLen; omega) (by omega) (by simp; omega) (wr.heap.size + 1) (by simp) ?_; intro gg cap2 w1 hown1 hgrow hat hlt; have d1w := (hgrow.cell_far ⟨G, j, none⟩ (by simp; omega) neG).trans d1a; have f1w := (hgrow.frozen_far ⟨G, j, none⟩ (by simp; omega) neG).trans f1a))
          all_goals
            go_wp2_with fail
            go_roundw
            case rel =>
              have U := hUp.out gg cap2 w1 ((World.grownBy_alloc wr.drew _ _).trans hgrow) hown1 hat
              exact ⟨k + 1, by go_num, by omega, ⟨HT3.out, U.1⟩, U.2⟩
            case measure => simp [intOf]; omega
    · obtain rfl : k = L := by omega
      have HF : Hid _ := HE.out HR.out.1
      go_wp2
      go_ret
      exact ⟨retB HF.out, hb⟩
end Go.Proofs.YtcaaaoehipcloaaGreat.C

/- The walk of the reference's Sizes. -/
namespace Go.Proofs.YtcaaaoehipcloaaGreat.C
open Go.RowKit

theorem up2_unique (n : Int) (k : Nat) (h0 : 1 ≤ n) (h1 : n ≤ 65536) (ha : n ≤ 2 ^ k) (hb : k = 0 ∨ 2 ^ (k - 1) < n.toNat) : (2 : Int) ^ k = up2 n := by
  unfold up2 cl
  rw [if_neg (by omega), ← lgN_unique n k h0 (by omega) (by have := pow_int k; omega) hb]

set_option maxRecDepth 20000 in
set_option maxHeartbeats 2000000 in
theorem rsizes_any (l : List Int) (o : Int) (v : Value) (w : World) (h : Ints w.heap.size w v l) (hf : Fit l) (hlen : l.length ≤ 1000000) :
    Calls Tryz.prog 79 #[v, .int .i64 o] w fun e w' => e = .returned (.tuple #[.int .i64 (szA l o), .int .i64 (szH l o), .int .i64 (szE l o)]) ∧ Below w.heap.size w w' := by
  by_cases h0 : o < 0
  · have e1 : szE l o = 1 := by unfold szE; rw [if_pos h0]
    have e2 : szA l o = 0 := by unfold szA; rw [e1, if_neg (by omega)]
    have e3 : szH l o = 0 := by unfold szH; rw [e1, if_neg (by omega)]
    rw [e1, e2, e3]
    obtain ⟨a, cap, rfl, hcap, h⟩ := h
    clear h hf e1 e2 e3
    generalize l.length = L at *
    go_enter Tryz.func79, Tryz.ntmps79
    go_wp2
    go_ret3
    exact ⟨rfl, Below.refl _ _⟩
  have C1 := rtwice_any l v w h hlen
  by_cases hn : l.Nodup
  · have hd : decide (¬ l.Nodup) = false := by simpa using hn
    rw [hd] at C1
    have hok := okC_cnt l hlen
    have hN := chN_le l
    have C2 := fun w1 (hb : Below w.heap.size w w1) => rcount_any l v w1 (h.go hb) hf hlen
    have C3 : ∀ w2 G, Own17 G w2 (cnt l) → Calls Tryz.prog 91 #[.slice (some ⟨G, 0, none⟩) 17 17] w2 fun e w' => e = .returned (.tuple #[.int .i64 (chA (cntL l) 17), .int .i64 (chN (cntL l) 17), .int .i64 0]) ∧ w' = w2 := fun w2 G q => rchoose_ok (cntL l) _ w2 q.ints' hok
    have e1 : szE l o = if 65536 < o ∨ 65536 < o + rest l then 14 else 0 := by unfold szE; rw [if_neg h0, if_neg (by simpa using hn)]
    unfold szA szH
    rw [e1]
    unfold rest
    obtain ⟨a, cap, rfl, hcap, h⟩ := h
    clear h hf hcap hn hok hd e1
    generalize l.length = L at *
    generalize chN (cntL l) 17 = N at *
    generalize chA (cntL l) 17 = A at *
    obtain ⟨hN0, hN1⟩ := hN
    by_cases hb1 : 65536 < o
    · have e : (if 65536 < o ∨ 65536 < o + ((L : Int) - N) then (14 : Int) else 0) = 14 := if_pos (.inl hb1)
      rw [e, if_neg (by omega), if_neg (by omega)]
      clear e
      go_enter Tryz.func79, Tryz.ntmps79
      go_wp2_with fail
      refine C1.mono ?_
      rintro e w1 ⟨rfl, hb⟩
      go_wp2_with fail
      refine (C2 w1 hb).mono ?_
      rintro e w2 ⟨rfl, ho, hb2⟩
      go_wp2_with fail
      refine (C3 _ _ ho).mono ?_
      rintro e w3 ⟨rfl, rfl⟩
      clear ho C1 C2 C3
      go_wp2_with fail
      go_ret3
      exact ⟨rfl, bthen hb hb.size hb2⟩
    · by_cases hb2 : 65536 < o + (L - N)
      · have e : (if 65536 < o ∨ 65536 < o + ((L : Int) - N) then (14 : Int) else 0) = 14 := if_pos (.inr hb2)
        rw [e, if_neg (by omega), if_neg (by omega)]
        clear e
        go_enter Tryz.func79, Tryz.ntmps79
        go_wp2_with fail
        refine C1.mono ?_
        rintro e w1 ⟨rfl, hb⟩
        go_wp2_with fail
        refine (C2 w1 hb).mono ?_
        rintro e w2 ⟨rfl, ho, hb2⟩
        go_wp2_with fail
        refine (C3 _ _ ho).mono ?_
        rintro e w3 ⟨rfl, rfl⟩
        clear ho C1 C2 C3
        go_wp2_with fail
        go_ret3
        exact ⟨rfl, bthen hb hb.size hb2⟩
      · have e : (if 65536 < o ∨ 65536 < o + ((L : Int) - N) then (14 : Int) else 0) = 0 := if_neg (by omega)
        rw [e, if_pos rfl, if_pos rfl]
        clear e
        have HU : Hid (∀ k : Nat, 1 ≤ (L : Int) - N + o → (L : Int) - N + o ≤ 2 ^ k → (k = 0 ∨ 2 ^ (k - 1) < ((L : Int) - N + o).toNat) → (2 : Int) ^ k = up2 (o + (L - N))) := fun k h1 h2 h3 => by
          rw [show o + ((L : Int) - N) = (L : Int) - N + o by omega]
          exact up2_unique _ k h1 (by omega) h2 h3
        by_cases hz : (L : Int) - N + o = 0
        · have hz' : up2 (o + (L - N)) = 0 := by unfold up2; rw [if_pos (by omega)]
          rw [hz']
          clear HU hz'
          go_enter Tryz.func79, Tryz.ntmps79
          go_wp2_with fail
          refine C1.mono ?_
          rintro e w1 ⟨rfl, hb⟩
          go_wp2_with fail
          refine (C2 w1 hb).mono ?_
          rintro e w2 ⟨rfl, ho, hb2⟩
          go_wp2_with fail
          refine (C3 _ _ ho).mono ?_
          rintro e w3 ⟨rfl, rfl⟩
          clear ho C1 C2 C3
          go_wp2_with fail
          go_ret3
          exact ⟨rfl, bthen hb hb.size hb2⟩
        · have hz' : ((L : Int) - N + o == 0) = false := by simpa using hz
          have hM0 : 1 ≤ (L : Int) - N + o := by omega
          have hM1 : (L : Int) - N + o ≤ 65536 := by omega
          generalize up2 (o + (L - N)) = H at *
          go_enter Tryz.func79, Tryz.ntmps79
          go_wp2_with fail
          refine C1.mono ?_
          rintro e w1 ⟨rfl, hb⟩
          go_wp2_with fail
          refine (C2 w1 hb).mono ?_
          rintro e w2 ⟨rfl, ho, hb2⟩
          go_wp2_with fail
          refine (C3 _ _ ho).mono ?_
          rintro e w3 ⟨rfl, rfl⟩
          clear ho C1 C2 C3
          go_wp2_with fail
          generalize (L : Int) - N + o = M at *
          go_loop [12] (fun p => ∃ k : Nat, p = .int .i64 (2 ^ k) ∧ k ≤ 16 ∧ Hid (k = 0 ∨ 2 ^ (k - 1) < M.toNat)) (fun p => (65537 - intOf p).toNat)
          case atStart => exact ⟨0, rfl, by omega, .inl rfl⟩
          case round =>
            obtain ⟨k, rfl, hk, HT⟩ := hrel
            obtain ⟨hp0, hp1⟩ := pow16 k hk
            have hpi := pow_int k
            have HS : Hid (∀ P, (2 : Int) ^ k = P → P * 2 = 2 ^ (k + 1)) := fun P hP => by rw [Int.pow_succ, hP]
            have HQ : Hid ((2 : Int) ^ k < M → k ≤ 15 ∧ 2 ^ (k + 1 - 1) < M.toNat) := fun q => by
              refine ⟨?_, by rw [Nat.add_sub_cancel]; omega⟩
              by_cases h16 : k = 16
              · subst h16; omega
              · omega
            have HF : Hid (¬ (2 : Int) ^ k < M → (2 : Int) ^ k = H) := fun q => HU.out k hM0 (by omega) HT.out
            obtain ⟨P, hP⟩ : ∃ P, (2 : Int) ^ k = P := ⟨_, rfl⟩
            have HS2 : Hid _ := HS.out P hP
            rw [hP] at hp0 hp1 HQ HF ⊢
            clear hP HS hpi HT HU
            by_cases hq : P < M
            · have HQ2 : Hid _ := HQ.out hq
              clear HQ HF
              go_wp2_with fail
              go_round
              case rel => exact ⟨k + 1, congrArg (Value.int .i64) HS2.out, by have := HQ2.out.1; omega, .inr HQ2.out.2⟩
              case measure => simp [intOf]; omega
            · have HF2 : Hid _ := HF.out hq
              clear HQ HF
              go_wp2_with fail
              go_ret3
              exact ⟨ret3 rfl HF2.out rfl, bthen hb hb.size hb2⟩
  · have hd : decide (¬ l.Nodup) = true := by simpa using hn
    rw [hd] at C1
    have e1 : szE l o = 2 := by unfold szE; rw [if_neg h0, if_pos hn]
    have e2 : szA l o = 0 := by unfold szA; rw [e1, if_neg (by omega)]
    have e3 : szH l o = 0 := by unfold szH; rw [e1, if_neg (by omega)]
    rw [e1, e2, e3]
    obtain ⟨a, cap, rfl, hcap, h⟩ := h
    clear h hf e1 e2 e3
    generalize l.length = L at *
    go_enter Tryz.func79, Tryz.ntmps79
    go_wp2_with fail
    refine C1.mono ?_
    rintro e w1 ⟨rfl, hb⟩
    go_wp2_with fail
    go_ret3
    exact ⟨rfl, hb⟩

end Go.Proofs.YtcaaaoehipcloaaGreat.C
