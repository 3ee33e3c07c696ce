/- The walk of the reference's Play. -/
import Derived.Test.YteknjkofmkigoabSm
import Derived.Test.YteknjkofmkigoabLa
namespace Go.Proofs.Yteknjkofmkigoab.H
open Go.RowKit

def ropSt (r : Rs) (k n : Int) : Rs := if k = 1 then rtSt r n else if k = 2 then rgSt r n else rspSt r n
def rAt (n : Int) (l : List (Int × Int)) : Nat → Rs
  | 0 => ⟨n, 0, 0, []⟩
  | k + 1 => ropSt (rAt n l k) (l.getD k (0, 0)).1 (l.getD k (0, 0)).2
theorem Sim.op {sp : Int} {s : St} {r : Rs} (h : Sim sp s r) (iv : Inv sp s) (k n : Int) (hk : 1 ≤ k ∧ k ≤ 3) : Sim (opSp sp s k n) (opSt s k n) (ropSt r k n) := by
  unfold opSp opSt ropSt
  by_cases h1 : k = 1
  · rw [if_pos h1, if_pos h1, if_neg (by omega)]; exact (h.take iv n).1
  · by_cases h2 : k = 2
    · rw [if_neg h1, if_neg h1, if_pos h2, if_pos h2, if_neg (by omega)]; exact h.give iv n
    · rw [if_neg h1, if_neg h1, if_neg h2, if_neg h2, if_pos (by omega)]; exact h.spend iv n
theorem sim_at (n : Int) (l : List (Int × Int)) (h0 : 0 ≤ n) (h1 : n ≤ 400000) (hf : inF l = true) (k : Nat) (hk : k ≤ l.length) : Sim (spAt n l k) (stAt n l k) (rAt n l k) := by
  induction k with
  | zero => exact Sim.new n
  | succ k ih => exact (ih (by omega)).op (inv_at n l h0 h1 hf k (by omega)) _ _ (inF_get hf k (by omega))
theorem ck_take (r : Rs) (n : Int) : (rtSt r n).ck = r.ck := by unfold rtSt; split; rfl; split <;> rfl
theorem ck_spend (r : Rs) (n : Int) : (rspSt r n).ck = r.ck := by unfold rspSt; split <;> rfl
theorem ck_give (r : Rs) (n : Int) : (rgSt r n).ck ≤ r.ck + 1 := by
  unfold rgSt
  split
  · exact Int.le_refl _
  · omega
theorem ck_at (n : Int) (l : List (Int × Int)) (k : Nat) : (rAt n l k).ck ≤ k := by
  induction k with
  | zero => exact Int.le_refl _
  | succ k ih =>
    have h1 := ck_take (rAt n l k) (l.getD k (0, 0)).2
    have h2 := ck_give (rAt n l k) (l.getD k (0, 0)).2
    have h3 := ck_spend (rAt n l k) (l.getD k (0, 0)).2
    show (ropSt (rAt n l k) (l.getD k (0, 0)).1 (l.getD k (0, 0)).2).ck ≤ _
    unfold ropSt
    split
    · omega
    · split <;> omega

theorem Rp.made {No : Nat → Prop} {w : World} {S c : Nat} {va : Value} {r : Rs} (h : Rp No w S c va r) (o : Obj) : Rp (fun g => No g ∨ g = w.heap.size) (w.alloc o) S c va r := by
  have e : (w.alloc o).heap.size = w.heap.size + 1 := by simp
  refine h.far ((World.grownBy_alloc w o none).block S h.apart.2 (by simp)) (fun g q => (World.grownBy_alloc w o none).block g (h.row.lt g q).2 (by simp)) (Nat.le_refl _) (fun g q => ?_)
  rcases q with q | q
  · exact ⟨by have := h.nos g q; omega, fun e2 => h.noS (e2 ▸ q), fun e2 => h.nov g e2 q⟩
  · exact ⟨by omega, fun e2 => by have := h.apart.2; omega, fun e2 => by have := (h.row.lt g e2).2; omega⟩
theorem Rp.grow {No No' : Nat → Prop} {w w' : World} {S c : Nat} {va : Value} {r : Rs} {row : Option Nat} (h : Rp No w S c va r) (hg : w.grownBy w' row) (hr : ∀ g, row = some g → No g) (hn : ∀ g, No' g → No g ∨ (w.heap.size ≤ g ∧ g < w'.heap.size)) : Rp No' w' S c va r := by
  refine h.far (hg.block S h.apart.2 (fun e => h.noS (hr S e.symm))) (fun g q => hg.block g (h.row.lt g q).2 (fun e => h.nov g q (hr g e.symm))) (Nat.le_refl _) (fun g q => ?_)
  rcases hn g q with q | q
  · exact ⟨Nat.lt_of_lt_of_le (h.nos g q) hg.size, fun e2 => h.noS (e2 ▸ q), fun e2 => h.nov g e2 q⟩
  · exact ⟨q.2, fun e2 => by have := h.apart.2; omega, fun e2 => by have := (h.row.lt g e2).2; omega⟩
theorem Rp.sets {No : Nat → Prop} {w : World} {S c : Nat} {va : Value} {r : Rs} (h : Rp No w S c va r) (g i : Nat) (v : Value) (hn : No g) : Rp No (w.setCell ⟨g, i, none⟩ v) S c va r :=
  h.grow (gset w g i v) (fun q e => by cases e; exact hn) (fun q r => .inl r)
theorem Rp.alloc {No : Nat → Prop} {w : World} {S c : Nat} {va : Value} {r : Rs} (h : Rp No w S c va r) (o : Obj) : Rp No (w.alloc o) S c va r :=
  h.grow (World.grownBy_alloc w o none) (by simp) (fun q r => .inl r)
theorem new_rp (w : World) (n : Int) (No : Nat → Prop) (hn : ∀ g, No g → g < w.heap.size) : Rp No (w.alloc (.cells #[.int .i64 n, .int .i64 0, .int .i64 0, .slice none 0 0] 50)) w.heap.size 0 (.slice none 0 0) ⟨n, 0, 0, []⟩ :=
  ⟨heap_alloc_new w _, World.ownsRow_nil _ _ _ _, Nat.le_refl _, fun q => by have := hn _ q; omega, fun g e => (by cases e), fun g q => by have := hn _ q; simp; omega⟩

theorem op_lim (s : St) (k n : Int) : (opSt s k n).lim = s.lim := by
  unfold opSt
  split
  · unfold takeSt; split; rfl; split; rfl; split; rfl; split <;> rfl
  · split
    · unfold giveSt; split <;> rfl
    · unfold spendSt; split; rfl; split <;> rfl
theorem lim_at (n : Int) (l : List (Int × Int)) (k : Nat) : (stAt n l k).lim = n := by
  induction k with
  | zero => rfl
  | succ k ih => exact (op_lim _ _ _).trans ih
theorem newsB {W : World} {m : Nat} (hm : W.heap.size = m) (cs : Array Value) (t : TypeId) : ∀ j u, cs.toList[j]? = some u → (W.alloc (.cells cs t)).cell? ((⟨m, 0, none⟩ : Addr).add j) = some u := by
  subst hm
  exact World.news_of_block (cs := cs) (t := t) (fr := (0, 0)) (heap_alloc_new W _)
/-- The cells of the first k answers. -/
def gcs (n : Int) (l : List (Int × Int)) : Nat → List Value
  | 0 => []
  | k + 1 => gcs n l k ++ [.int .i64 (gotAt n l k 0), .int .i64 (gotAt n l k 1), .int .i64 (gotAt n l k 2), .int .i64 (gotAt n l k 3)]
theorem info66 : (Try.prog.info? 66).map (fun i => (i.zero, i.size, i.bytes)) = some (some (.agg z4), 4, 32) := by kernel_rfl

set_option maxHeartbeats 1000000 in
theorem rplay_bad (n : Int) (l : List (Int × Int)) (v : Value) (w : World) (h : Ops w.heap.size w v l) (hl : l.length ≤ 9223372036854775807) (hb : plE n l ≠ 0) :
    Calls Try.prog 17 #[.int .i64 n, v] w fun e w' => e = .returned (.tuple #[.slice none 0 0, .slice none 0 0, .int .i64 (plE n l)]) ∧ w' = w := by
  obtain ⟨a, cap, rfl, _, h⟩ := h
  by_cases h0 : n < 0 ∨ 400000 < n
  · have e : plE n l = 1 := by unfold plE; rw [if_pos h0]
    rw [e]
    clear h hb e hl
    generalize l.length = L at *
    by_cases h1 : n < 0
    · clear h0
      go_enter Try.func17, Try.ntmps17
      go_wp2_with fail
      go_ret3
      exact ⟨rfl, rfl⟩
    · have h2 : 400000 < n := by omega
      clear h0
      go_enter Try.func17, Try.ntmps17
      go_wp2_with fail
      go_ret3
      exact ⟨rfl, rfl⟩
  · have h2 : ¬ n < 0 := by omega
    have h3 : ¬ 400000 < n := by omega
    by_cases h1 : 1000 < l.length
    · have e : plE n l = 14 := by unfold plE; rw [if_neg h0, if_pos h1]
      rw [e]
      have h1' : (1000 : Int) < (l.length : Int) := by omega
      clear h hb e h0 h1
      generalize l.length = L at *
      go_enter Try.func17, Try.ntmps17
      go_wp2_with fail
      go_ret3
      exact ⟨rfl, rfl⟩
    · have hq : inF l = false := by
        cases q : inF l with
        | false => rfl
        | true => exact absurd (by unfold plE; rw [if_neg h0, if_neg h1, if_pos q]) hb
      have e : plE n l = 2 := by unfold plE; rw [if_neg h0, if_neg h1, if_neg (by rw [hq]; simp)]
      rw [e]
      have HC : Hid _ := h
      have HL : Hid (l ≠ [] ↔ 0 < l.length) := by
        show _ ↔ _
        cases l <;> simp
      have HN : Hid (¬ ∀ k, k < l.length → 1 ≤ (l.getD k (0, 0)).1 ∧ (l.getD k (0, 0)).1 ≤ 3) := fun q => by have := inF_of q; rw [hq] at this; cases this
      have h1' : (l.length : Int) ≤ 1000 := by omega
      clear h hb e h0 hq h1
      obtain ⟨L, hL⟩ : ∃ L, l.length = L := ⟨_, rfl⟩
      rw [hL] at HC HL HN h1' ⊢
      clear hL
      go_enter Try.func17, Try.ntmps17
      go_wp2_with fail
      go_loop [7] (fun i => ∃ k : Nat, i = .int .i64 k ∧ k ≤ L ∧ Hid (∀ j, j < k → 1 ≤ (l.getD j (0, 0)).1 ∧ (l.getD j (0, 0)).1 ≤ 3)) (fun i => L - (intOf i).toNat)
      case atStart => exact ⟨0, rfl, by omega, fun j hj => absurd hj (by omega)⟩
      case round =>
        obtain ⟨k, rfl, hk, HT⟩ := hrel
        by_cases hlt : k < L
        · have hlt' : (k : Int) < (L : Int) := by omega
          obtain ⟨g, off, rfl, hg, hc⟩ := HC.out (HL.out.2 (by omega))
          obtain ⟨d0, d1⟩ := hc k hlt
          have HX : Hid (∀ x, (l.getD k (0, 0)).1 = x → 1 ≤ x ∧ x ≤ 3 → ∀ j, j < k + 1 → 1 ≤ (l.getD j (0, 0)).1 ∧ (l.getD j (0, 0)).1 ≤ 3) := fun x hx q j hj => by
            by_cases hjk : j = k
            · subst hjk; rw [hx]; exact q
            · exact HT.out j (by omega)
          obtain ⟨x, hx⟩ : ∃ x, (l.getD k (0, 0)).1 = x := ⟨_, rfl⟩
          have HX2 : Hid _ := HX.out x hx
          rw [hx] at d0
          clear hc HC HX hx HT HN d1
          by_cases q1 : x < 1
          · go_wp2_with fail
            go_ret3
            exact ⟨rfl, rfl⟩
          · by_cases q2 : 3 < x
            · go_wp2_with fail
              go_ret3
              exact ⟨rfl, rfl⟩
            · have HZ : Hid _ := HX2.out (by omega)
              go_wp2_with fail
              go_round
              case rel => exact ⟨k + 1, by go_num, by omega, HZ.out⟩
              case measure => simp [intOf]; omega
        · obtain rfl : k = L := by omega
          exact absurd HT.out HN.out

set_option maxRecDepth 20000 in
set_option maxHeartbeats 8000000 in
theorem rplay_good (n : Int) (l : List (Int × Int)) (v : Value) (w : World) (h : Ops w.heap.size w v l) (h0 : 0 ≤ n) (h1 : n ≤ 400000) (hl : l.length ≤ 1000) (hf : inF l = true) :
    Calls Try.prog 17 #[.int .i64 n, v] w fun e w' => ∃ u v', e = .returned (.tuple #[u, v', .int .i64 0]) ∧ w'.ownsRow w.heap.size 66 4 u l.length (gcs n l l.length) ∧ (∃ B, w.heap.size ≤ B ∧ w'.ownsRow B 3 1 v' (tids (stAt n l l.length).bl (stAt n l l.length).bl.length).length ((tids (stAt n l l.length).bl (stAt n l l.length).bl.length).map (Value.int .i64))) ∧ Below w.heap.size w w' := by
  have HI : Hid (∀ k, k ≤ l.length → Inv (spAt n l k) (stAt n l k)) := fun k hk => inv_at n l h0 h1 hf k hk
  have HM : Hid (∀ k, k ≤ l.length → Sim (spAt n l k) (stAt n l k) (rAt n l k)) := fun k hk => sim_at n l h0 h1 hf k hk
  have HK : Hid (∀ k, k < l.length → 1 ≤ (l.getD k (0, 0)).1 ∧ (l.getD k (0, 0)).1 ≤ 3) := fun k hk => inF_get hf k hk
  have HCK : Hid (∀ k, (rAt n l k).ck ≤ k) := fun k => ck_at n l k
  obtain ⟨i0, hi0, hz0, hz1, hz2⟩ := info_parts info66
  obtain ⟨a, cap, rfl, hcap, h⟩ := h
  have HC : Hid _ := h
  have HL : Hid (l ≠ [] ↔ 0 < l.length) := by
    show _ ↔ _
    cases l <;> simp
  have hx0 : ¬ n < 0 := by omega
  have hx1 : ¬ 400000 < n := by omega
  have hd0 : decide (n < 0) = false := by simp; omega
  have hd1 : decide (400000 < n) = false := by simp; omega
  clear h hf
  obtain ⟨L, hL⟩ : ∃ L, l.length = L := ⟨_, rfl⟩
  rw [hL] at HC HL HI HK HM hl hcap ⊢
  clear hL
  have hL1 : (L : Int) ≤ 1000 := by omega
  have hd2 : decide ((1000 : Int) < (L : Int)) = false := by simp; omega
  go_enter Try.func17, Try.ntmps17
  go_wp2_with fail
  go_loop [7] (fun i => ∃ k : Nat, i = .int .i64 k ∧ k ≤ L) (fun i => L - (intOf i).toNat)
  case atStart => exact ⟨0, rfl, by omega⟩
  case round =>
    obtain ⟨k, rfl, hk⟩ := hrel
    by_cases hlt : k < L
    · have hlt' : (k : Int) < (L : Int) := by omega
      obtain ⟨g, off, rfl, hg, hc⟩ := HC.out (HL.out.2 (by omega))
      obtain ⟨d0, d1⟩ := hc k hlt
      obtain ⟨q1, q2⟩ := HK.out k hlt
      clear hc HC HI HM HK HCK HL d1
      generalize (l.getD k (0, 0)).1 = x at *
      go_wp2_with fail
      go_round
      case rel => exact ⟨k + 1, by go_num, by omega⟩
      case measure => simp [intOf]; omega
    · obtain rfl : k = L := by omega
      have hp0 := new_rp w n (fun g => g < w.heap.size ∨ (Value.slice none 0 0).ownBlock = some g) (fun g q => by rcases q with q | q; exact q; cases q)
      have b0 : Below w.heap.size w (w.alloc (.cells #[.int .i64 n, .int .i64 0, .int .i64 0, .slice none 0 0] 50)) := balloc w _
      have HP0 : Hid (∃ va, Rp (fun g => g < w.heap.size ∨ (Value.slice none 0 0).ownBlock = some g) (w.alloc (.cells #[.int .i64 n, .int .i64 0, .int .i64 0, .slice none 0 0] 50)) w.heap.size 0 va (rAt n l 0)) := ⟨_, hp0⟩
      clear hp0
      go_wp2_with fail
      go_loopw [9, 10] (fun u i wr => ∃ j : Nat, i = .int .i64 j ∧ j ≤ k ∧ ∃ au cu, u = .slice au j cu ∧ Hid (∃ va, Rp (fun g => g < w.heap.size ∨ (Value.slice au j cu).ownBlock = some g) wr w.heap.size j va (rAt n l j)) ∧ Hid (wr.ownsRow w.heap.size 66 4 (.slice au j cu) j (gcs n l j)) ∧ Below w.heap.size w wr) (fun _ i _ => k - (intOf i).toNat)
      case atStart => exact ⟨0, rfl, by omega, none, 0, rfl, HP0, World.ownsRow_nil _ _ _ _, b0⟩
      case round =>
        obtain ⟨j, rfl, hj, au, cu, rfl, HP, HO, hb⟩ := hrel
        have hbs := hb.size
        by_cases hlt2 : j < k
        · have hlt2' : (j : Int) < (k : Int) := by omega
          obtain ⟨g, off, rfl, hg, hc⟩ := HC.out (HL.out.2 (by omega))
          obtain ⟨q0, q1⟩ := hc j hlt2
          have lg : g < wr.heap.size := by omega
          have iv := HI.out j (by omega)
          have iv1 := HI.out (j + 1) (by omega)
          have sm := HM.out j (by omega)
          have sm1 := HM.out (j + 1) (by omega)
          have hck := HCK.out j
          have hkk := HK.out j hlt2
          obtain ⟨va, hp⟩ := HP.out
          have hp1 := hp.made (.cells z4 66)
          have m1 := heap_alloc_new wr (.cells z4 66)
          have k0 : Keep (fun g => g < w.heap.size) wr (wr.alloc (.cells z4 66)) := (Keep.refl _ wr).alloc _
          have e0 : (wr.alloc (.cells z4 66)).cell? ⟨g, off + j * 2, none⟩ = some (.int .i64 (l.getD j (0, 0)).1) := (((balloc wr _).cell (by exact lg)).trans (hb.cell (by exact hg))).trans q0
          have e1 : (wr.alloc (.cells z4 66)).cell? ⟨g, off + j * 2 + 1, none⟩ = some (.int .i64 (l.getD j (0, 0)).2) := (((balloc wr _).cell (by exact lg)).trans (hb.cell (by exact hg))).trans q1
          have hsz : (wr.alloc (.cells z4 66)).heap.size = wr.heap.size + 1 := by simp
          have hsm : rAt n l (j + 1) = ropSt (rAt n l j) (l.getD j (0, 0)).1 (l.getD j (0, 0)).2 := rfl
          have hgt : gotAt n l j 0 = opId (stAt n l j) (l.getD j (0, 0)).1 (l.getD j (0, 0)).2 ∧ gotAt n l j 1 = opE (stAt n l j) (l.getD j (0, 0)).1 (l.getD j (0, 0)).2 ∧ gotAt n l j 2 = (stAt n l (j + 1)).live ∧ gotAt n l j 3 = (stAt n l (j + 1)).laid := ⟨rfl, rfl, rfl, rfl⟩
          have hgc : gcs n l (j + 1) = gcs n l j ++ [.int .i64 (gotAt n l j 0), .int .i64 (gotAt n l j 1), .int .i64 (gotAt n l j 2), .int .i64 (gotAt n l j 3)] := rfl
          have lims : (rAt n l j).lim = n := by
            rw [sm.lim]
            exact lim_at n l j
          have HO1 : Hid ((wr.alloc (.cells z4 66)).ownsRow w.heap.size 66 4 (.slice au j cu) j (gcs n l j)) := World.ownsRow.alloc HO.out _
          have hB : ∀ g, (Value.slice au j cu).ownBlock = some g → g < wr.heap.size := fun g e => (World.ownsRow.lt HO.out g e).2
          obtain ⟨x, hx⟩ : ∃ x, (l.getD j (0, 0)).1 = x := ⟨_, rfl⟩
          obtain ⟨y, hy⟩ : ∃ y, (l.getD j (0, 0)).2 = y := ⟨_, rfl⟩
          rw [hx] at e0 hkk
          rw [hy] at e1
          rw [hx, hy] at hsm hgt
          have hlv := sm.live iv
          have hll := iv.l1
          have hlim2 := lim_at n l j
          have HGC : Hid _ := hgc
          have SM : Hid _ := sm
          have SM1 : Hid _ := sm1
          have IV : Hid _ := iv
          have IV1 : Hid _ := iv1
          have hmid : ∀ m : Nat, j ≤ m → True := fun _ _ => trivial
          clear hmid hc HC HP HP0 b0 hx hy hp HI HM HK HCK HL q0 q1 hgc HO sm1 iv1
          obtain ⟨B, hBe⟩ : ∃ B, wr.heap.size = B := ⟨_, rfl⟩
          have HBe : Hid _ := hBe
          have hll2 : rlv (rAt n l j) ≤ (rAt n l j).lim := by rw [hlv, sm.lim]; exact hll
          clear hBe
          by_cases hx1 : x = 1
          · subst hx1
            have C := rtake_any hp1 (by omega) (sm.ok iv) (by omega) (by omega) hll2 y
            have hst : rAt n l (j + 1) = rtSt (rAt n l j) y := by rw [hsm]; unfold ropSt; rw [if_pos rfl]
            have g0 : rtId (rAt n l j) y = gotAt n l j 0 := by rw [hgt.1, (sm.take iv y).2]; unfold opId; rw [if_pos rfl]
            have g1 : rE (rAt n l j) y = gotAt n l j 1 := by rw [hgt.2.1, sm.E iv]; unfold opE; rw [if_neg (by omega)]
            rw [← hst, g0, g1] at C
            have HGT : Hid _ := hgt
            have HG0 : Hid _ := g0
            clear g0 g1 hgt hsm hst hp1 sm iv hlv hll hll2 lims hck hlim2
            go_wp2_with fail
            refine C.mono ?_
            rintro e w2 ⟨rfl, ⟨va2, hp2⟩, k2⟩
            clear C
            rw [HBe.out] at m1 hsz hp2 k2 hB ⊢
            have hBw := HBe.out
            have h66 : w2.heap[B]? = some (.cells z4 66) := (k2.block B (by rw [hsz]; omega) (.inr rfl)).trans m1
            have a0 : w2.cell? ⟨B, 0, none⟩ = some (.int .i64 0) := cell_row h66 0
            have a1 : w2.cell? ⟨B, 1, none⟩ = some (.int .i64 0) := cell_row h66 1
            have a2 : w2.cell? ⟨B, 2, none⟩ = some (.int .i64 0) := cell_row h66 2
            have a3 : w2.cell? ⟨B, 3, none⟩ = some (.int .i64 0) := cell_row h66 3
            have fa : ∀ i, w2.frozen? ⟨B, i, none⟩ = false := fun i => free_row h66 i
            have nB : (fun g => (g < w.heap.size ∨ (Value.slice au j cu).ownBlock = some g) ∨ g = B) B := .inr rfl
            have hp3 := ((hp2.sets B 0 (.int .i64 (gotAt n l j 0)) nB).sets B 1 (.int .i64 (gotAt n l j 1)) nB)
            have CL := rlive_any hp3 (by omega) (Sim.ok SM1.out IV1.out)
            have CD := rlaid_any hp3 (by omega) (Sim.ok SM1.out IV1.out)
            rw [show rl (rAt n l (j + 1)) (rAt n l (j + 1)).all.length = _ from Sim.live SM1.out IV1.out, ← show gotAt n l j 2 = _ from HGT.out.2.2.1] at CL
            rw [show rd (rAt n l (j + 1)) (rAt n l (j + 1)).all.length = _ from Sim.laid SM1.out IV1.out, ← show gotAt n l j 3 = _ from HGT.out.2.2.2] at CD
            have x2 : w.heap.size ≤ B := by omega
            clear hBw
            have HP4 : Hid (Rp (fun g => (g < w.heap.size ∨ (Value.slice au j cu).ownBlock = some g) ∨ g = B) ((((w2.setCell ⟨B, 0, none⟩ (.int .i64 (gotAt n l j 0))).setCell ⟨B, 1, none⟩ (.int .i64 (gotAt n l j 1))).setCell ⟨B, 2, none⟩ (.int .i64 (gotAt n l j 2))).setCell ⟨B, 3, none⟩ (.int .i64 (gotAt n l j 3))) w.heap.size (j + 1) _ (rAt n l (j + 1))) := (hp3.sets B 2 _ nB).sets B 3 _ nB
            have HR4 : Hid (((((w2.setCell ⟨B, 0, none⟩ (.int .i64 (gotAt n l j 0))).setCell ⟨B, 1, none⟩ (.int .i64 (gotAt n l j 1))).setCell ⟨B, 2, none⟩ (.int .i64 (gotAt n l j 2))).setCell ⟨B, 3, none⟩ (.int .i64 (gotAt n l j 3))).ownsRow w.heap.size 66 4 (.slice au j cu) j (gcs n l j)) := by
              refine own_keep HO1.out (fun q e => ?_)
              have lq := hB q e
              have neq : q ≠ B := by omega
              rw [heap_setCell_other _ _ _ _ (by exact neq), heap_setCell_other _ _ _ _ (by exact neq), heap_setCell_other _ _ _ _ (by exact neq), heap_setCell_other _ _ _ _ (by exact neq), k2.block q (by rw [hsz]; omega) (.inl (.inr e))]
            have b4 : Below w.heap.size w ((((w2.setCell ⟨B, 0, none⟩ (.int .i64 (gotAt n l j 0))).setCell ⟨B, 1, none⟩ (.int .i64 (gotAt n l j 1))).setCell ⟨B, 2, none⟩ (.int .i64 (gotAt n l j 2))).setCell ⟨B, 3, none⟩ (.int .i64 (gotAt n l j 3))) := by
              have bb : Below w.heap.size w w2 := (hb.alloc hbs _).trans (k2.below (by rw [hsz]; omega) (fun g q => .inl (.inl q)))
              exact (((bb.setCell x2 _).setCell x2 _).setCell x2 _).setCell x2 _
            have hs4 : ((((w2.setCell ⟨B, 0, none⟩ (.int .i64 (gotAt n l j 0))).setCell ⟨B, 1, none⟩ (.int .i64 (gotAt n l j 1))).setCell ⟨B, 2, none⟩ (.int .i64 (gotAt n l j 2))).setCell ⟨B, 3, none⟩ (.int .i64 (gotAt n l j 3))).heap.size = w2.heap.size := by simp
            have hs2 := k2.size
            rw [hsz] at hs2
            clear hp2 hp3 h66 k2 m1 hb HO1 SM SM1 IV IV1 HGT HG0 hsz
            generalize gotAt n l j 0 = t0 at *
            generalize gotAt n l j 1 = t1 at *
            generalize gotAt n l j 2 = t2 at *
            generalize gotAt n l j 3 = t3 at *
            go_wp2_with (first | (go_at_call 31; refine CL.mono ?_; rintro e w' ⟨rfl, rfl⟩) | (go_at_call 32; refine CD.mono ?_; rintro e w' ⟨rfl, rfl⟩) | (at_builtin; refine wpList_append_lies _ rfl _ _ 36 rfl w.heap.size 66 i0 _ 4 32 Try.underlying36 hi0 hz0 hz1 hz2 rfl (by omega) (.slice au j cu) j (gcs n l j) rfl (World.ownsRow.alloc HR4.out _) ⟨w2.heap.size, 0, none⟩ 1 1 [.int .i64 t0, .int .i64 t1, .int .i64 t2, .int .i64 t3] rfl rfl (newsB (W := ((((w2.setCell ⟨B, 0, none⟩ (.int .i64 t0)).setCell ⟨B, 1, none⟩ (.int .i64 t1)).setCell ⟨B, 2, none⟩ (.int .i64 t2)).setCell ⟨B, 3, none⟩ (.int .i64 t3))) hs4 _ _) (by simp [Value.oneCell']) (by omega) (by unfold maxLen; omega) (by omega) (by simp; omega) (w2.heap.size + 1) (by simp) ?_; intro g1 c1 w5 hown1 hgrow1 hat1 hlt1))
            go_roundw
            case rel =>
              refine ⟨j + 1, by go_num, by omega, _, _, rfl, ⟨_, (Rp.alloc HP4.out _).grow hgrow1 (fun q e => .inl (.inr e)) (fun q r => ?_)⟩, by rw [show gcs n l (j + 1) = _ from HGC.out]; exact hown1, (b4.alloc b4.size _).grown hgrow1 (by have := b4.size; simp; omega) (fun q e => (World.ownsRow.lt HR4.out q e).1)⟩
              rcases r with r | r
              · exact .inl (.inl (.inl r))
              · injection r with r
                subst r
                rcases hat1 with q | q
                · exact .inl (.inl (.inr q))
                · exact .inr ⟨by simp; omega, hlt1⟩
            case measure => simp [intOf]; omega
          · by_cases hx2 : x = 2
            · subst hx2
              have C := rgive_any hp1 (by omega) sm.ck0 (by omega) y
              have hst : rAt n l (j + 1) = rgSt (rAt n l j) y := by rw [hsm]; unfold ropSt; rw [if_neg (by omega), if_pos rfl]
              have g0 : (0 : Int) = gotAt n l j 0 := by rw [hgt.1]; unfold opId; rw [if_neg (by omega)]
              have g1 : rgE (rAt n l j) y = gotAt n l j 1 := by rw [hgt.2.1, sm.giveE]; unfold opE; rw [if_pos rfl]
              rw [← hst, g1] at C
              have HGT : Hid _ := hgt
              have HG0 : Hid _ := g0
              clear g0 g1 hgt hsm hst hp1 sm iv hlv hll hll2 lims hck hlim2
              go_wp2_with fail
              refine C.mono ?_
              rintro e w2 ⟨rfl, hp2', k2⟩
              clear C
              have hp2 := hp2'.more (Nat.le_succ j)
              clear hp2'
              rw [HBe.out] at m1 hsz hp2 k2 hB ⊢
              have hBw := HBe.out
              have h66 : w2.heap[B]? = some (.cells z4 66) := (k2.block B (by rw [hsz]; omega) (.inr rfl)).trans m1
              have a0 : w2.cell? ⟨B, 0, none⟩ = some (.int .i64 0) := cell_row h66 0
              have a1 : w2.cell? ⟨B, 1, none⟩ = some (.int .i64 0) := cell_row h66 1
              have a2 : w2.cell? ⟨B, 2, none⟩ = some (.int .i64 0) := cell_row h66 2
              have a3 : w2.cell? ⟨B, 3, none⟩ = some (.int .i64 0) := cell_row h66 3
              have fa : ∀ i, w2.frozen? ⟨B, i, none⟩ = false := fun i => free_row h66 i
              have nB : (fun g => (g < w.heap.size ∨ (Value.slice au j cu).ownBlock = some g) ∨ g = B) B := .inr rfl
              have hp3 := (hp2.sets B 1 (.int .i64 (gotAt n l j 1)) nB)
              have CL := rlive_any hp3 (by omega) (Sim.ok SM1.out IV1.out)
              have CD := rlaid_any hp3 (by omega) (Sim.ok SM1.out IV1.out)
              rw [show rl (rAt n l (j + 1)) (rAt n l (j + 1)).all.length = _ from Sim.live SM1.out IV1.out, ← show gotAt n l j 2 = _ from HGT.out.2.2.1] at CL
              rw [show rd (rAt n l (j + 1)) (rAt n l (j + 1)).all.length = _ from Sim.laid SM1.out IV1.out, ← show gotAt n l j 3 = _ from HGT.out.2.2.2] at CD
              have x2 : w.heap.size ≤ B := by omega
              clear hBw
              have HP4 : Hid (Rp (fun g => (g < w.heap.size ∨ (Value.slice au j cu).ownBlock = some g) ∨ g = B) (((w2.setCell ⟨B, 1, none⟩ (.int .i64 (gotAt n l j 1))).setCell ⟨B, 2, none⟩ (.int .i64 (gotAt n l j 2))).setCell ⟨B, 3, none⟩ (.int .i64 (gotAt n l j 3))) w.heap.size (j + 1) _ (rAt n l (j + 1))) := (hp3.sets B 2 _ nB).sets B 3 _ nB
              have HR4 : Hid ((((w2.setCell ⟨B, 1, none⟩ (.int .i64 (gotAt n l j 1))).setCell ⟨B, 2, none⟩ (.int .i64 (gotAt n l j 2))).setCell ⟨B, 3, none⟩ (.int .i64 (gotAt n l j 3))).ownsRow w.heap.size 66 4 (.slice au j cu) j (gcs n l j)) := by
                refine own_keep HO1.out (fun q e => ?_)
                have lq := hB q e
                have neq : q ≠ B := by omega
                rw [heap_setCell_other _ _ _ _ (by exact neq), heap_setCell_other _ _ _ _ (by exact neq), heap_setCell_other _ _ _ _ (by exact neq), k2.block q (by rw [hsz]; omega) (.inl (.inr e))]
              have b4 : Below w.heap.size w (((w2.setCell ⟨B, 1, none⟩ (.int .i64 (gotAt n l j 1))).setCell ⟨B, 2, none⟩ (.int .i64 (gotAt n l j 2))).setCell ⟨B, 3, none⟩ (.int .i64 (gotAt n l j 3))) := by
                have bb : Below w.heap.size w w2 := (hb.alloc hbs _).trans (k2.below (by rw [hsz]; omega) (fun g q => .inl (.inl q)))
                exact ((bb.setCell x2 _).setCell x2 _).setCell x2 _
              have hs4 : (((w2.setCell ⟨B, 1, none⟩ (.int .i64 (gotAt n l j 1))).setCell ⟨B, 2, none⟩ (.int .i64 (gotAt n l j 2))).setCell ⟨B, 3, none⟩ (.int .i64 (gotAt n l j 3))).heap.size = w2.heap.size := by simp
              have hs2 := k2.size
              rw [hsz] at hs2
              have z0 : (0 : Int) = gotAt n l j 0 := HG0.out
              rw [z0] at a0
              have HZ0 : Hid _ := z0
              clear z0
              clear hp2 hp3 h66 k2 m1 hb HO1 SM SM1 IV IV1 HGT HG0 hsz
              generalize gotAt n l j 0 = t0 at *
              generalize gotAt n l j 1 = t1 at *
              generalize gotAt n l j 2 = t2 at *
              generalize gotAt n l j 3 = t3 at *
              go_wp2_with (first | (go_at_call 31; refine CL.mono ?_; rintro e w' ⟨rfl, rfl⟩) | (go_at_call 32; refine CD.mono ?_; rintro e w' ⟨rfl, rfl⟩) | (at_builtin; refine wpList_append_lies _ rfl _ _ 36 rfl w.heap.size 66 i0 _ 4 32 Try.underlying36 hi0 hz0 hz1 hz2 rfl (by omega) (.slice au j cu) j (gcs n l j) rfl (World.ownsRow.alloc HR4.out _) ⟨w2.heap.size, 0, none⟩ 1 1 [.int .i64 t0, .int .i64 t1, .int .i64 t2, .int .i64 t3] rfl rfl (newsB (W := (((w2.setCell ⟨B, 1, none⟩ (.int .i64 t1)).setCell ⟨B, 2, none⟩ (.int .i64 t2)).setCell ⟨B, 3, none⟩ (.int .i64 t3))) hs4 _ _) (by simp [Value.oneCell']) (by omega) (by unfold maxLen; omega) (by omega) (by simp; omega) (w2.heap.size + 1) (by simp) ?_; intro g1 c1 w5 hown1 hgrow1 hat1 hlt1))
              go_roundw
              case rel =>
                refine ⟨j + 1, by go_num, by omega, _, _, rfl, ⟨_, (Rp.alloc HP4.out _).grow hgrow1 (fun q e => .inl (.inr e)) (fun q r => ?_)⟩, by rw [show gcs n l (j + 1) = _ from HGC.out]; exact hown1, (b4.alloc b4.size _).grown hgrow1 (by have := b4.size; simp; omega) (fun q e => (World.ownsRow.lt HR4.out q e).1)⟩
                rcases r with r | r
                · exact .inl (.inl (.inl r))
                · injection r with r
                  subst r
                  rcases hat1 with q | q
                  · exact .inl (.inl (.inr q))
                  · exact .inr ⟨by simp; omega, hlt1⟩
              case measure => simp [intOf]; omega
            · obtain rfl : x = 3 := by omega
              have C := rspend_any hp1 (by omega) (sm.ok iv) (by omega) (by omega) hll2 y
              have hst : rAt n l (j + 1) = rspSt (rAt n l j) y := by rw [hsm]; unfold ropSt; rw [if_neg (by omega), if_neg (by omega)]
              have g0 : (0 : Int) = gotAt n l j 0 := by rw [hgt.1]; unfold opId; rw [if_neg (by omega)]
              have g1 : rE (rAt n l j) y = gotAt n l j 1 := by rw [hgt.2.1, sm.E iv]; unfold opE; rw [if_neg (by omega)]
              rw [← hst, g1] at C
              have HGT : Hid _ := hgt
              have HG0 : Hid _ := g0
              clear g0 g1 hgt hsm hst hp1 sm iv hlv hll hll2 lims hck hlim2
              go_wp2_with fail
              refine C.mono ?_
              rintro e w2 ⟨rfl, hp2', k2⟩
              clear C
              have hp2 := hp2'.more (Nat.le_succ j)
              clear hp2'
              rw [HBe.out] at m1 hsz hp2 k2 hB ⊢
              have hBw := HBe.out
              have h66 : w2.heap[B]? = some (.cells z4 66) := (k2.block B (by rw [hsz]; omega) (.inr rfl)).trans m1
              have a0 : w2.cell? ⟨B, 0, none⟩ = some (.int .i64 0) := cell_row h66 0
              have a1 : w2.cell? ⟨B, 1, none⟩ = some (.int .i64 0) := cell_row h66 1
              have a2 : w2.cell? ⟨B, 2, none⟩ = some (.int .i64 0) := cell_row h66 2
              have a3 : w2.cell? ⟨B, 3, none⟩ = some (.int .i64 0) := cell_row h66 3
              have fa : ∀ i, w2.frozen? ⟨B, i, none⟩ = false := fun i => free_row h66 i
              have nB : (fun g => (g < w.heap.size ∨ (Value.slice au j cu).ownBlock = some g) ∨ g = B) B := .inr rfl
              have hp3 := (hp2.sets B 1 (.int .i64 (gotAt n l j 1)) nB)
              have CL := rlive_any hp3 (by omega) (Sim.ok SM1.out IV1.out)
              have CD := rlaid_any hp3 (by omega) (Sim.ok SM1.out IV1.out)
              rw [show rl (rAt n l (j + 1)) (rAt n l (j + 1)).all.length = _ from Sim.live SM1.out IV1.out, ← show gotAt n l j 2 = _ from HGT.out.2.2.1] at CL
              rw [show rd (rAt n l (j + 1)) (rAt n l (j + 1)).all.length = _ from Sim.laid SM1.out IV1.out, ← show gotAt n l j 3 = _ from HGT.out.2.2.2] at CD
              have x2 : w.heap.size ≤ B := by omega
              clear hBw
              have HP4 : Hid (Rp (fun g => (g < w.heap.size ∨ (Value.slice au j cu).ownBlock = some g) ∨ g = B) (((w2.setCell ⟨B, 1, none⟩ (.int .i64 (gotAt n l j 1))).setCell ⟨B, 2, none⟩ (.int .i64 (gotAt n l j 2))).setCell ⟨B, 3, none⟩ (.int .i64 (gotAt n l j 3))) w.heap.size (j + 1) _ (rAt n l (j + 1))) := (hp3.sets B 2 _ nB).sets B 3 _ nB
              have HR4 : Hid ((((w2.setCell ⟨B, 1, none⟩ (.int .i64 (gotAt n l j 1))).setCell ⟨B, 2, none⟩ (.int .i64 (gotAt n l j 2))).setCell ⟨B, 3, none⟩ (.int .i64 (gotAt n l j 3))).ownsRow w.heap.size 66 4 (.slice au j cu) j (gcs n l j)) := by
                refine own_keep HO1.out (fun q e => ?_)
                have lq := hB q e
                have neq : q ≠ B := by omega
                rw [heap_setCell_other _ _ _ _ (by exact neq), heap_setCell_other _ _ _ _ (by exact neq), heap_setCell_other _ _ _ _ (by exact neq), k2.block q (by rw [hsz]; omega) (.inl (.inr e))]
              have b4 : Below w.heap.size w (((w2.setCell ⟨B, 1, none⟩ (.int .i64 (gotAt n l j 1))).setCell ⟨B, 2, none⟩ (.int .i64 (gotAt n l j 2))).setCell ⟨B, 3, none⟩ (.int .i64 (gotAt n l j 3))) := by
                have bb : Below w.heap.size w w2 := (hb.alloc hbs _).trans (k2.below (by rw [hsz]; omega) (fun g q => .inl (.inl q)))
                exact ((bb.setCell x2 _).setCell x2 _).setCell x2 _
              have hs4 : (((w2.setCell ⟨B, 1, none⟩ (.int .i64 (gotAt n l j 1))).setCell ⟨B, 2, none⟩ (.int .i64 (gotAt n l j 2))).setCell ⟨B, 3, none⟩ (.int .i64 (gotAt n l j 3))).heap.size = w2.heap.size := by simp
              have hs2 := k2.size
              rw [hsz] at hs2
              have z0 : (0 : Int) = gotAt n l j 0 := HG0.out
              rw [z0] at a0
              have HZ0 : Hid _ := z0
              clear z0
              clear hp2 hp3 h66 k2 m1 hb HO1 SM SM1 IV IV1 HGT HG0 hsz
              generalize gotAt n l j 0 = t0 at *
              generalize gotAt n l j 1 = t1 at *
              generalize gotAt n l j 2 = t2 at *
              generalize gotAt n l j 3 = t3 at *
              go_wp2_with (first | (go_at_call 31; refine CL.mono ?_; rintro e w' ⟨rfl, rfl⟩) | (go_at_call 32; refine CD.mono ?_; rintro e w' ⟨rfl, rfl⟩) | (at_builtin; refine wpList_append_lies _ rfl _ _ 36 rfl w.heap.size 66 i0 _ 4 32 Try.underlying36 hi0 hz0 hz1 hz2 rfl (by omega) (.slice au j cu) j (gcs n l j) rfl (World.ownsRow.alloc HR4.out _) ⟨w2.heap.size, 0, none⟩ 1 1 [.int .i64 t0, .int .i64 t1, .int .i64 t2, .int .i64 t3] rfl rfl (newsB (W := (((w2.setCell ⟨B, 1, none⟩ (.int .i64 t1)).setCell ⟨B, 2, none⟩ (.int .i64 t2)).setCell ⟨B, 3, none⟩ (.int .i64 t3))) hs4 _ _) (by simp [Value.oneCell']) (by omega) (by unfold maxLen; omega) (by omega) (by simp; omega) (w2.heap.size + 1) (by simp) ?_; intro g1 c1 w5 hown1 hgrow1 hat1 hlt1))
              go_roundw
              case rel =>
                refine ⟨j + 1, by go_num, by omega, _, _, rfl, ⟨_, (Rp.alloc HP4.out _).grow hgrow1 (fun q e => .inl (.inr e)) (fun q r => ?_)⟩, by rw [show gcs n l (j + 1) = _ from HGC.out]; exact hown1, (b4.alloc b4.size _).grown hgrow1 (by have := b4.size; simp; omega) (fun q e => (World.ownsRow.lt HR4.out q e).1)⟩
                rcases r with r | r
                · exact .inl (.inl (.inl r))
                · injection r with r
                  subst r
                  rcases hat1 with q | q
                  · exact .inl (.inl (.inr q))
                  · exact .inr ⟨by simp; omega, hlt1⟩
              case measure => simp [intOf]; omega
        · obtain rfl : j = k := by omega
          obtain ⟨va, hp⟩ := HP.out
          have C := rblocks_any hp (by omega)
          rw [(HM.out j (by omega)).ids] at C
          clear hp HP HP0 HC HI HM HK HCK b0
          go_wp2_with fail
          refine C.mono ?_
          rintro e w3 ⟨v3, rfl, o3, b3⟩
          clear C
          go_wp2_with fail
          go_ret3
          exact ⟨_, v3, rfl, own_keep HO.out (fun q e => b3.block q (World.ownsRow.lt HO.out q e).2), ⟨_, hbs, o3⟩, bthen hb hb.size b3⟩
end Go.Proofs.Yteknjkofmkigoab.H
