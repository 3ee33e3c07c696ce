/- The walk of Play. -/
import Derived.Test.YteknjkofmkigoabPl
namespace Go.Proofs.Yteknjkofmkigoab.H
open Go.RowKit

/-- The heap behind the first k operations; what was spent till then. -/
def stAt (n : Int) (l : List (Int × Int)) : Nat → St
  | 0 => newSt n
  | k + 1 => opSt (stAt n l k) (l.getD k (0, 0)).1 (l.getD k (0, 0)).2
def spAt (n : Int) (l : List (Int × Int)) : Nat → Int
  | 0 => 0
  | k + 1 => opSp (spAt n l k) (stAt n l k) (l.getD k (0, 0)).1 (l.getD k (0, 0)).2
theorem inv_at (n : Int) (l : List (Int × Int)) (h0 : 0 ≤ n) (h1 : n ≤ 400000) (hf : inF l = true) (k : Nat) (hk : k ≤ l.length) : Inv (spAt n l k) (stAt n l k) := by
  induction k with
  | zero => exact Inv.new n h0 h1
  | succ k ih => exact (ih (by omega)).op _ _ (inF_get hf k (by omega))
/-- The parts of what the operation number i came to. -/
def gotAt (n : Int) (l : List (Int × Int)) (i : Nat) : Nat → Int
  | 0 => opId (stAt n l i) (l.getD i (0, 0)).1 (l.getD i (0, 0)).2
  | 1 => opE (stAt n l i) (l.getD i (0, 0)).1 (l.getD i (0, 0)).2
  | 2 => (stAt n l (i + 1)).live
  | _ => (stAt n l (i + 1)).laid
/-- The first k answers, the rest noughts: m answers at block G. -/
structure Gots (G m : Nat) (w : World) (n : Int) (l : List (Int × Int)) (k : Nat) : Prop where
  done : ∀ i j, i < k → i < m → j < 4 → w.cell? ⟨G, i * 4 + j, none⟩ = some (.int .i64 (gotAt n l i j))
  rest : ∀ i j, k ≤ i → i < m → j < 4 → w.cell? ⟨G, i * 4 + j, none⟩ = some (.int .i64 0)
  free : ∀ j, w.frozen? ⟨G, j, none⟩ = false
theorem Gots.keep {G m k : Nat} {w w' : World} {n : Int} {l : List (Int × Int)} (h : Gots G m w n l k) (hb : w'.heap[G]? = w.heap[G]?) : Gots G m w' n l k :=
  ⟨fun i j h1 h2 h3 => (World.cell?_of_block hb).trans (h.done i j h1 h2 h3), fun i j h1 h2 h3 => (World.cell?_of_block hb).trans (h.rest i j h1 h2 h3), fun j => (World.frozen?_of_block hb).trans (h.free j)⟩
theorem cell_other {w : World} {G a b : Nat} {v : Value} (h : a ≠ b) : (w.setCell ⟨G, b, none⟩ v).cell? ⟨G, a, none⟩ = w.cell? ⟨G, a, none⟩ := World.cell?_setCell_other _ _ _ _ (fun q => by injection q with _ q2; omega)
theorem Gots.put {G m k : Nat} {w : World} {n : Int} {l : List (Int × Int)} (h : Gots G m w n l k) (hk : k < m) (a b c d : Int) (ha : gotAt n l k 0 = a) (hb : gotAt n l k 1 = b) (hc : gotAt n l k 2 = c) (hd : gotAt n l k 3 = d) :
    Gots G m ((((w.setCell ⟨G, k * 4, none⟩ (.int .i64 a)).setCell ⟨G, k * 4 + 1, none⟩ (.int .i64 b)).setCell ⟨G, k * 4 + 2, none⟩ (.int .i64 c)).setCell ⟨G, k * 4 + 3, none⟩ (.int .i64 d)) n l (k + 1) := by
  have r0 := h.rest k 0 (Nat.le_refl _) hk (by omega)
  have r1 := h.rest k 1 (Nat.le_refl _) hk (by omega)
  have r2 := h.rest k 2 (Nat.le_refl _) hk (by omega)
  have r3 := h.rest k 3 (Nat.le_refl _) hk (by omega)
  rw [Nat.add_zero] at r0
  have far : ∀ i j, i ≠ k → j < 4 → ((((w.setCell ⟨G, k * 4, none⟩ (.int .i64 a)).setCell ⟨G, k * 4 + 1, none⟩ (.int .i64 b)).setCell ⟨G, k * 4 + 2, none⟩ (.int .i64 c)).setCell ⟨G, k * 4 + 3, none⟩ (.int .i64 d)).cell? ⟨G, i * 4 + j, none⟩ = w.cell? ⟨G, i * 4 + j, none⟩ := fun i j hi hj => by
    rw [cell_other (by omega), cell_other (by omega), cell_other (by omega), cell_other (by omega)]
  refine ⟨fun i j h1 h2 h3 => ?_, fun i j h1 h2 h3 => ?_, fun j => ?_⟩
  · by_cases hi : i = k
    · subst hi
      match j, h3 with
      | 0, _ =>
        show World.cell? _ ⟨G, i * 4, none⟩ = _
        rw [cell_other (by omega), cell_other (by omega), cell_other (by omega), World.cell?_setCell_same _ _ _ r0, ha]
      | 1, _ =>
        rw [cell_other (by omega), cell_other (by omega), World.cell?_setCell_same _ _ _ ((cell_other (by omega)).trans r1), hb]
      | 2, _ =>
        rw [cell_other (by omega), World.cell?_setCell_same _ _ _ ((cell_other (by omega)).trans ((cell_other (by omega)).trans r2)), hc]
      | 3, _ =>
        rw [World.cell?_setCell_same _ _ _ ((cell_other (by omega)).trans ((cell_other (by omega)).trans ((cell_other (by omega)).trans r3))), hd]
    · rw [far i j hi h3]; exact h.done i j (by omega) h2 h3
  · rw [far i j (by omega) h3]; exact h.rest i j (by omega) h2 h3
  · rw [World.frozen?_setCell, World.frozen?_setCell, World.frozen?_setCell, World.frozen?_setCell]; exact h.free j

theorem info58 : (Try.prog.info? 58).map (fun i => (i.zero, i.size, i.bytes)) = some (some (.agg z4), 4, 32) := by kernel_rfl
theorem make_gots (m : Nat) (hm : m ≤ 1000000) (W : World) : (Instr.makeSlice 31 (.int .i64 m) (.int .i64 m)).run Try.prog W = .ok (.slice (some ⟨W.heap.size, 0, none⟩) m m) (W.alloc (.cells (madeCells z4 (m * 4)) 58)) := by
  obtain ⟨i0, hi, hz0, hz1, hz2⟩ := info_parts info58
  have h := run_make (P := Try.prog) W 31 58 i0 (.agg z4) Try.underlying31 hi hz0 .i64 .i64 m m (by omega) (Int.le_refl _) (by rw [hz2]; omega) (by omega)
  rw [hz1, show (Value.agg z4).cells = z4 by kernel_rfl] at h
  simpa using h
theorem gots_made (m : Nat) (W : World) (n : Int) (l : List (Int × Int)) : Gots W.heap.size m (W.alloc (.cells (madeCells z4 (m * 4)) 58)) n l 0 := by
  have hh := heap_alloc_new W (.cells (madeCells z4 (m * 4)) 58)
  refine ⟨fun i j h1 _ _ => absurd h1 (by omega), fun i j _ h2 h3 => ?_, fun j => free_row hh j⟩
  rw [cell_row hh]
  have hlt : i * 4 + j < m * 4 := by omega
  simp only [madeCells, Array.getElem?_map, Array.getElem?_range, hlt, if_true, Option.map_some]
  have : (i * 4 + j) % z4.size = j := by show (i * 4 + j) % 4 = j; omega
  rw [this]
  match j, h3 with
  | 0, _ => rfl
  | 1, _ => rfl
  | 2, _ => rfl
  | 3, _ => rfl

theorem new_hp (w : World) (n : Int) (No : Nat → Prop) (hn : ∀ g, No g → g < w.heap.size) : Hp No ((w.alloc (.map #[] 0)).alloc (.cells #[.int .i64 n, .int .i64 0, .int .i64 0, .slice none 0 0, .map (some w.heap.size)] 70)) (w.heap.size + 1) w.heap.size 0 (.slice none 0 0) (newSt n) := by
  have e : (w.alloc (.map #[] 0)).heap.size = w.heap.size + 1 := by simp
  have hs := heap_alloc_new (w.alloc (.map #[] 0)) (.cells #[.int .i64 n, .int .i64 0, .int .i64 0, .slice none 0 0, .map (some w.heap.size)] 70)
  rw [e] at hs
  refine ⟨hs, World.ownsRow_nil _ _ _ _, (Rdy.made No w).alloc _, Nat.le_refl _, fun q => ?_, fun q => ?_, fun g e => (by cases e), fun g q => ?_⟩
  · have := hn _ q; omega
  · have := hn _ q; omega
  · have := hn _ q; simp; omega

/-- What Play answers where it refuses. -/
def plE (n : Int) (l : List (Int × Int)) : Int := if n < 0 ∨ 400000 < n then 1 else if 1000 < l.length then 14 else if inF l = true then 0 else 2
set_option maxHeartbeats 1000000 in
theorem play_bad (n : Int) (l : List (Int × Int)) (v : Value) (w : World) (h : Ops w.heap.size w v l) (hl : l.length ≤ 9223372036854775807) (hb : plE n l ≠ 0) :
    Calls Try.prog 15 #[.int .i64 n, v] w fun e w' => e = .returned (.tuple #[.slice none 0 0, .slice none 0 0, .int .i64 (plE n l)]) ∧ Below w.heap.size w w' := by
  by_cases h0 : n < 0 ∨ 400000 < n
  · have e : plE n l = 1 := by unfold plE; rw [if_pos h0]
    rw [e]
    have C := new_bad w n h0
    clear h hb e h0
    go_enter Try.func15, Try.ntmps15
    go_wp2_with (go_at_call 20; refine C.mono ?_; rintro e w' ⟨rfl, rfl⟩)
    go_ret3
    exact ⟨rfl, Below.refl _ _⟩
  · have C := new_walk w n (by omega) (by omega)
    have b1 : Below w.heap.size w ((w.alloc (.map #[] 0)).alloc (.cells #[.int .i64 n, .int .i64 0, .int .i64 0, .slice none 0 0, .map (some w.heap.size)] 70)) := ((Below.refl _ _).alloc (Nat.le_refl _) _).alloc (by simp) _
    by_cases h1 : 1000 < l.length
    · have e : plE n l = 14 := by unfold plE; rw [if_neg h0, if_pos h1]
      rw [e]
      obtain ⟨a, cap, rfl, _, _⟩ := h
      have h1' : (1000 : Int) < (l.length : Int) := by omega
      clear hb e h0 h1
      generalize l.length = L at *
      go_enter Try.func15, Try.ntmps15
      go_wp2_with (go_at_call 20; refine C.mono ?_; rintro e w' ⟨rfl, rfl⟩)
      go_ret3
      exact ⟨rfl, b1⟩
    · have hq : inF l = false := by
        cases q : inF l with
        | false => rfl
        | true => exact absurd (by unfold plE; rw [if_neg h0, if_neg h1, if_pos q]) hb
      have e : plE n l = 2 := by unfold plE; rw [if_neg h0, if_neg h1, if_neg (by rw [hq]; simp)]
      rw [e]
      have C2 := inform_any l v _ (h.go b1) (by omega)
      rw [hq] at C2
      obtain ⟨a, cap, rfl, _, _⟩ := h
      clear hb e h0 hq
      generalize l.length = L at *
      go_enter Try.func15, Try.ntmps15
      go_wp2_with (first | (go_at_call 20; refine C.mono ?_; rintro e w' ⟨rfl, rfl⟩) | (go_at_call 36; refine C2.mono ?_; rintro e w' ⟨rfl, b2⟩))
      go_ret3
      exact ⟨rfl, bthen b1 b1.size b2⟩

set_option maxRecDepth 20000 in
set_option maxHeartbeats 2000000 in
theorem play_good (n : Int) (l : List (Int × Int)) (v : Value) (w : World) (h : Ops w.heap.size w v l) (h0 : 0 ≤ n) (h1 : n ≤ 400000) (hl : l.length ≤ 1000) (hf : inF l = true) :
    Calls Try.prog 15 #[.int .i64 n, v] w fun e w' => ∃ G v', e = .returned (.tuple #[.slice (some ⟨G, 0, none⟩) l.length l.length, v', .int .i64 0]) ∧ Gots G l.length w' n l l.length ∧ w.heap.size ≤ G ∧ G < w'.heap.size ∧ (∃ B, w.heap.size ≤ B ∧ G < B ∧ w'.ownsRow B 3 1 v' (tids (stAt n l l.length).bl (stAt n l l.length).bl.length).length ((tids (stAt n l l.length).bl (stAt n l l.length).bl.length).map (Value.int .i64))) ∧ Below w.heap.size w w' := by
  have C := new_walk w n h0 h1
  have b1 : Below w.heap.size w ((w.alloc (.map #[] 0)).alloc (.cells #[.int .i64 n, .int .i64 0, .int .i64 0, .slice none 0 0, .map (some w.heap.size)] 70)) := ((Below.refl _ _).alloc (Nat.le_refl _) _).alloc (by simp) _
  have hp1 := new_hp w n (fun g => g < w.heap.size) (fun g q => q)
  have C2 := inform_any l v _ (h.go b1) (by omega)
  rw [hf] at C2
  have HI : Hid (∀ k, k ≤ l.length → Inv (spAt n l k) (stAt n l k)) := fun k hk => inv_at n l h0 h1 hf k hk
  have HK : Hid (∀ k, k < l.length → 1 ≤ (l.getD k (0, 0)).1 ∧ (l.getD k (0, 0)).1 ≤ 3) := fun k hk => inF_get hf k hk
  obtain ⟨a, cap, rfl, hcap, h⟩ := h
  have HC : Hid _ := h
  have HL : Hid (l ≠ [] ↔ 0 < l.length) := by
    show _ ↔ _
    cases l <;> simp
  clear h hf
  obtain ⟨L, hL⟩ : ∃ L, l.length = L := ⟨_, rfl⟩
  rw [hL] at HC HL HI HK hl C2 hcap ⊢
  clear hL
  go_enter Try.func15, Try.ntmps15
  go_wp2_with fail
  refine C.mono ?_
  rintro e w1 ⟨rfl, rfl⟩
  clear C
  go_wp2_with fail
  refine C2.mono ?_
  rintro e w2 ⟨rfl, b2⟩
  clear C2
  have hp2 := hp1.below b2
  have b3 := bthen b1 b1.size b2
  obtain ⟨S, hS⟩ : ∃ S, w.heap.size + 1 = S := ⟨_, rfl⟩
  rw [hS] at hp2 ⊢
  clear hS hp1 b1 b2
  have hmk := make_gots L (by omega) w2
  have gm := gots_made L w2 n l
  have hp3 := hp2.made (.cells (madeCells z4 (L * 4)) 58)
  have b4 : Below w.heap.size w (w2.alloc (.cells (madeCells z4 (L * 4)) 58)) := b3.alloc b3.size _
  have hG0 : w.heap.size ≤ w2.heap.size := b3.size
  obtain ⟨W, hW⟩ : ∃ W, W = w2.alloc (.cells (madeCells z4 (L * 4)) 58) := ⟨_, rfl⟩
  have hWs : w2.heap.size < W.heap.size := by rw [hW]; simp
  rw [← hW] at hmk gm hp3 b4
  clear hW hp2 b3
  obtain ⟨G, hG⟩ : ∃ G, w2.heap.size = G := ⟨_, rfl⟩
  rw [hG] at hmk gm hp3 hG0 hWs
  have HP0 : Hid _ := hp3
  have GM : Hid _ := gm
  clear hG gm hp3
  go_wp2_with fail
  go_loopw [34] (fun i wr => ∃ k : Nat, i = .int .i64 k ∧ k ≤ L ∧ Hid (∃ vb, Hp (fun g => g < w.heap.size ∨ g = G) wr S w.heap.size k vb (stAt n l k)) ∧ Hid (Gots G L wr n l k) ∧ G < wr.heap.size ∧ Below w.heap.size w wr) (fun i _ => L - (intOf i).toNat)
  case atStart => exact ⟨0, rfl, by omega, ⟨_, HP0.out⟩, GM, hWs, b4⟩
  case round =>
    obtain ⟨k, rfl, hk, HP, HG, hGs, hb⟩ := hrel
    by_cases hlt : k < L
    · have hlt' : (k : Int) < (L : Int) := by omega
      obtain ⟨g, off, rfl, hg, hc⟩ := HC.out (HL.out.2 (by omega))
      obtain ⟨q0, q1⟩ := hc k hlt
      have d0 := (hb.cell (by exact hg)).trans q0
      have d1 := (hb.cell (by exact hg)).trans q1
      have hbs := hb.size
      have lg : g < wr.heap.size := by omega
      obtain ⟨vb, hp⟩ := HP.out
      have C3 := fun o => do_any (hp.alloc o) (by omega) (HI.out k (by omega)) (l.getD k (0, 0)).1 (l.getD k (0, 0)).2 (HK.out k hlt)
      have HT : Hid (∀ w3 o, Keep (fun g => g < w.heap.size ∨ g = G) (wr.alloc o) w3 → Gots G L w3 n l k ∧ Below w.heap.size w w3 ∧ G < w3.heap.size) := fun w3 o k3 => by
        have e : (wr.alloc o).heap.size = wr.heap.size + 1 := by simp
        have hG3 := k3.block G (by omega) (.inr rfl)
        rw [(World.grownBy_alloc wr o none).block G hGs (by simp)] at hG3
        refine ⟨Gots.keep HG.out hG3, ?_, by have := k3.size; omega⟩
        exact (hb.alloc hbs o).trans (k3.below (by omega) (fun g q => .inl q))
      obtain ⟨x, hx⟩ : ∃ x, (l.getD k (0, 0)).1 = x := ⟨_, rfl⟩
      obtain ⟨y, hy⟩ : ∃ y, (l.getD k (0, 0)).2 = y := ⟨_, rfl⟩
      have E0 : Hid (gotAt n l k 0 = opId (stAt n l k) x y ∧ gotAt n l k 1 = opE (stAt n l k) x y ∧ gotAt n l k 2 = (opSt (stAt n l k) x y).live ∧ gotAt n l k 3 = (opSt (stAt n l k) x y).laid ∧ stAt n l (k + 1) = opSt (stAt n l k) x y) := by
        rw [← hx, ← hy]; exact ⟨rfl, rfl, rfl, rfl, rfl⟩
      rw [hx] at d0
      rw [hy] at d1
      rw [hx, hy] at C3
      clear hc HC q0 q1 hx hy HP HG hp HI HK HP0 GM b4 hmk hWs HL
      generalize opId (stAt n l k) x y = I at *
      generalize opE (stAt n l k) x y = E at *
      generalize opSt (stAt n l k) x y = s' at *
      go_wp2_with fail
      refine (C3 _).mono ?_
      rintro e w3 ⟨rfl, hpx, k3⟩
      obtain ⟨vb3, hp3⟩ := hpx
      obtain ⟨hg3, b5, hG5⟩ := HT.out w3 _ k3
      have r0 := hg3.rest k 0 (Nat.le_refl _) hlt (by omega)
      have r1 := hg3.rest k 1 (Nat.le_refl _) hlt (by omega)
      have r2 := hg3.rest k 2 (Nat.le_refl _) hlt (by omega)
      have r3 := hg3.rest k 3 (Nat.le_refl _) hlt (by omega)
      rw [Nat.add_zero] at r0
      have f0 := hg3.free (k * 4)
      have f1 := hg3.free (k * 4 + 1)
      have f2 := hg3.free (k * 4 + 2)
      have f3 := hg3.free (k * 4 + 3)
      have HP3 : Hid _ := hp3
      have HG3 : Hid _ := hg3
      clear hp3 hg3 C3 HT k3 hb hbs hGs
      go_wp2_with fail
      go_roundw
      case rel =>
        obtain ⟨e0, e1, e2, e3, e4⟩ := E0.out
        refine ⟨k + 1, by go_num, by omega, ⟨vb3, ?_⟩, Gots.put HG3.out hlt I E s'.live s'.laid e0 e1 e2 e3, by simpa using hG5, ?_⟩
        · rw [e4]
          exact (((Hp.sets HP3.out G _ _ (.inr rfl)).sets G _ _ (.inr rfl)).sets G _ _ (.inr rfl)).sets G _ _ (.inr rfl)
        · exact (((b5.setCell hG0 _).setCell hG0 _).setCell hG0 _).setCell hG0 _
      case measure => simp [intOf]; omega
    · obtain rfl : k = L := by omega
      obtain ⟨vb, hp⟩ := HP.out
      have C4 := blocks_any hp (by omega)
      have HG2 : Hid (∀ w3, Below wr.heap.size wr w3 → Gots G k w3 n l k ∧ Below w.heap.size w w3 ∧ G < w3.heap.size) := fun w3 b => ⟨Gots.keep HG.out (b.block G hGs), bthen hb hb.size b, by have := b.size; omega⟩
      have hbs := hb.size
      clear HP hp HG HC HP0 GM HI HK b4 hmk HL hWs
      go_wp2_with fail
      refine C4.mono ?_
      rintro e w3 ⟨v3, rfl, o3, b5⟩
      clear C4
      go_wp2_with fail
      go_ret3
      obtain ⟨u1, u2, u3⟩ := HG2.out w3 b5
      exact ⟨G, v3, rfl, u1, hG0, u3, ⟨wr.heap.size, hbs, hGs, o3⟩, u2⟩
end Go.Proofs.Yteknjkofmkigoab.H
