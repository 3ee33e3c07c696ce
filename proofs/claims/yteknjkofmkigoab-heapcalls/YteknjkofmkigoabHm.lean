/- The walk of the law HeapMemory. -/
import Derived.Test.YteknjkofmkigoabPw
namespace Go.Proofs.Yteknjkofmkigoab.H
open Go.RowKit

/-- The list of operations with one more behind it. -/
structure Giv (w : World) (g cap : Nat) (m : List (Int × Int)) : Prop where
  cap : m.length + 1 ≤ cap
  lt : g < w.heap.size
  ops : ∀ i, i < m.length → w.cell? ⟨g, i * 2, none⟩ = some (.int .i64 (m.getD i (0, 0)).1) ∧ w.cell? ⟨g, i * 2 + 1, none⟩ = some (.int .i64 (m.getD i (0, 0)).2)
  nine : w.cell? ⟨g, m.length * 2, none⟩ = some (.int .i64 9) ∧ w.cell? ⟨g, m.length * 2 + 1, none⟩ = some (.int .i64 9)
theorem Giv.of {w : World} {B g cap : Nat} {m : List (Int × Int)} (h : w.ownsRow B 56 2 (.slice (some ⟨g, 0, none⟩) (m.length + 1) cap) (m.length + 1) (rcells m ++ [.int .i64 9, .int .i64 9])) : Giv w g cap m := by
  obtain ⟨a, c, q, hc⟩ := slice_of h
  injection q with _ _ q3
  subst q3
  refine ⟨hc, (h.lt g rfl).2, fun i hi => ?_, ?_⟩
  · have hb := rcells_get m i hi
    rw [h.cellAt (i * 2) (by omega), h.cellAt (i * 2 + 1) (by omega), List.getElem?_append_left (by rw [rcells_len]; omega), List.getElem?_append_left (by rw [rcells_len]; omega), List.getD, List.getElem?_eq_getElem hi]
    exact hb
  · rw [h.cellAt (m.length * 2) (by omega), h.cellAt (m.length * 2 + 1) (by omega), List.getElem?_append_right (by rw [rcells_len]; omega), List.getElem?_append_right (by rw [rcells_len]; omega), rcells_len, Nat.sub_self, show m.length * 2 + 1 - m.length * 2 = 1 by omega]
    exact ⟨rfl, rfl⟩
theorem Giv.go {w w' : World} {g cap : Nat} {m : List (Int × Int)} (h : Giv w g cap m) (hb : Below w.heap.size w w') : Giv w' g cap m :=
  ⟨h.cap, Nat.lt_of_lt_of_le h.lt hb.size, fun i hi => by rw [hb.cell (by exact h.lt), hb.cell (by exact h.lt)]; exact h.ops i hi, by rw [hb.cell (by exact h.lt), hb.cell (by exact h.lt)]; exact h.nine⟩
theorem Giv.toOps {w : World} {g cap : Nat} {m : List (Int × Int)} (h : Giv w g cap m) : Ops w.heap.size w (.slice (some ⟨g, 0, none⟩) m.length cap) m :=
  ⟨_, cap, rfl, by have := h.cap; omega, fun _ => ⟨g, 0, rfl, h.lt, fun i hi => by rw [Nat.zero_add]; exact h.ops i hi⟩⟩

/-- What a Play came to, and one of the reference: both answers in memory, or none. -/
structure Two (w : World) (n : Int) (m : List (Int × Int)) (G : Nat) (x u z : Value) (K : Nat → Prop) : Prop where
  g : Gots G m.length w n m m.length
  gl : G < w.heap.size
  gk : K G
  ru : ∃ B, w.ownsRow B 66 4 u m.length (gcs n m m.length)
  uk : ∀ q, u.ownBlock = some q → K q
  rx : ∃ B, w.ownsRow B 3 1 x (tids (stAt n m m.length).bl (stAt n m m.length).bl.length).length ((tids (stAt n m m.length).bl (stAt n m m.length).bl.length).map (Value.int .i64))
  xk : ∀ q, x.ownBlock = some q → K q
  rz : ∃ B, w.ownsRow B 3 1 z (tids (stAt n m m.length).bl (stAt n m m.length).bl.length).length ((tids (stAt n m m.length).bl (stAt n m m.length).bl.length).map (Value.int .i64))
  zk : ∀ q, z.ownBlock = some q → K q
theorem Two.step {w w' : World} {n : Int} {m : List (Int × Int)} {G : Nat} {x u z : Value} {K : Nat → Prop} (h : Two w n m G x u z K) (hs : w.heap.size ≤ w'.heap.size) (hb : ∀ q, q < w.heap.size → K q → w'.heap[q]? = w.heap[q]?) : Two w' n m G x u z K := by
  obtain ⟨B1, r1⟩ := h.ru
  obtain ⟨B2, r2⟩ := h.rx
  obtain ⟨B3, r3⟩ := h.rz
  exact ⟨h.g.keep (hb G h.gl h.gk), Nat.lt_of_lt_of_le h.gl hs, h.gk, ⟨B1, own_keep r1 (fun q e => hb q (r1.lt q e).2 (h.uk q e))⟩, h.uk, ⟨B2, own_keep r2 (fun q e => hb q (r2.lt q e).2 (h.xk q e))⟩, h.xk, ⟨B3, own_keep r3 (fun q e => hb q (r3.lt q e).2 (h.zk q e))⟩, h.zk⟩
theorem Two.same {w : World} {n : Int} {m : List (Int × Int)} {G : Nat} {x u z : Value} {K : Nat → Prop} (h : Two w n m G x u z K) (hl : m.length ≤ 1000) : Calls Try.prog 19 #[.slice (some ⟨G, 0, none⟩) m.length m.length, u] w fun e w' => e = .returned (.bool true) ∧ Below w.heap.size w w' := by
  obtain ⟨B, r⟩ := h.ru
  exact sameG_any n m G u w B h.g r hl
theorem Two.sameI {w : World} {n : Int} {m : List (Int × Int)} {G : Nat} {x u z : Value} {K : Nat → Prop} (h : Two w n m G x u z K) (hl : m.length ≤ 1000) : Calls Try.prog 13 #[x, z] w fun e w' => e = .returned (.bool true) ∧ Below w.heap.size w w' := by
  obtain ⟨B1, r1⟩ := h.rx
  obtain ⟨B2, r2⟩ := h.rz
  have h1 := tids_len (stAt n m m.length).bl (stAt n m m.length).bl.length
  have h2 := len_at n m m.length
  have := same_walk _ _ x z w (ints_own r1) (ints_own r2) rfl (by omega)
  rwa [decide_eq_true rfl] at this
/-- Cells of a block that may be written. -/
structure Fil (G : Nat) (o : Nat → Nat) (m : Nat) (w : World) : Prop where
  cells : ∀ i, i < m → ∃ x, w.cell? ⟨G, o i, none⟩ = some (.int .i64 x)
  free : ∀ j, w.frozen? ⟨G, j, none⟩ = false
theorem Fil.put {G : Nat} {o : Nat → Nat} {m : Nat} {w : World} (h : Fil G o m w) (k : Nat) (x : Int) : Fil G o m (w.setCell ⟨G, o k, none⟩ (.int .i64 x)) := by
  refine ⟨fun i hi => ?_, fun j => by rw [World.frozen?_setCell]; exact h.free j⟩
  obtain ⟨y, hy⟩ := h.cells i hi
  by_cases e : o i = o k
  · rw [e] at hy ⊢
    exact ⟨x, World.cell?_setCell_same _ _ _ hy⟩
  · exact ⟨y, (cell_other e).trans hy⟩
theorem Fil.keep {G : Nat} {o : Nat → Nat} {m : Nat} {w w' : World} (h : Fil G o m w) (hb : w'.heap[G]? = w.heap[G]?) : Fil G o m w' :=
  ⟨fun i hi => by obtain ⟨y, hy⟩ := h.cells i hi; exact ⟨y, (World.cell?_of_block hb).trans hy⟩, fun j => (World.frozen?_of_block hb).trans (h.free j)⟩
theorem Fil.gots {G : Nat} {w : World} {n : Int} {m : List (Int × Int)} (h : Gots G m.length w n m m.length) : Fil G (fun i => i * 4) m.length w :=
  ⟨fun i hi => ⟨_, h.done i 0 hi hi (by omega)⟩, h.free⟩
theorem Fil.row {B g cap : Nat} {w : World} {l : List Int} (h : w.ownsRow B 3 1 (.slice (some ⟨g, 0, none⟩) l.length cap) l.length (l.map (Value.int .i64))) : Fil g (fun i => i) l.length w :=
  ⟨fun i hi => ⟨l[i], by rw [h.cellAt i (by omega), List.getElem?_map, List.getElem?_eq_getElem hi]; rfl⟩, fun j => h.frozenAt j⟩
set_option maxRecDepth 20000 in
set_option maxHeartbeats 8000000 in
theorem memory_walk (n : Int) (l : List (Int × Int)) (v : Value) (w : World) (h : Ops w.heap.size w v l) (hl : l.length * 16 ≤ 140737488351232) :
    Calls Try.prog 7 #[.int .i64 n, v] w fun e w' => e = .returned (.bool true) ∧ Below w.heap.size w w' := by
  have C1 := fun W (hb : Below w.heap.size w W) => few_any l v W (h.go hb) (by omega)
  obtain ⟨hf1, hf2⟩ := fewO_len l
  obtain ⟨i0, hi0, hz0, hz1, hz2⟩ := info_parts info56
  clear h
  generalize fewO l = m at *
  go_enter Try.func7, Try.ntmps7
  go_wp2_with fail
  refine (fixed_any w).mono ?_
  rintro e w1 ⟨rfl, b1⟩
  go_wp2_with fail
  refine (C1 w1 b1).mono ?_
  rintro e w2 ⟨v1, rfl, rfl, o1⟩
  clear C1
  have C2 := ops_any m v1 w2 o1 (by omega)
  go_wp2_with fail
  refine C2.mono ?_
  rintro e w2b ⟨v2, rfl, r2, b2⟩
  clear C2
  obtain ⟨a2, c2, rfl, _⟩ := slice_of r2
  have HR : Hid (w2b.ownsRow w2.heap.size 56 2 (.slice a2 m.length c2) m.length (rcells m)) := r2
  have hbs := b2.size
  obtain ⟨a1, c1, rfl, hc1, hop1⟩ := o1
  have o1 : Ops w2.heap.size w2 (.slice a1 m.length c1) m := ⟨a1, c1, rfl, hc1, hop1⟩
  have HO1 : Hid (Ops w2.heap.size w2 (.slice a1 m.length c1) m) := o1
  clear r2 o1 hop1
  have hm16 : m.length * 16 ≤ 140737488351232 := by omega
  go_wp2_with (at_builtin; refine wpList_append_lies _ rfl _ _ 34 rfl w2.heap.size 56 i0 _ 2 16 Try.underlying34 hi0 hz0 hz1 hz2 rfl (by omega) (.slice a2 m.length c2) m.length (rcells m) rfl (World.ownsRow.alloc HR.out _) ⟨w2b.heap.size, 0, none⟩ 1 1 [.int .i64 9, .int .i64 9] rfl rfl (World.news_of_block (cs := #[.int .i64 9, .int .i64 9]) (t := 56) (fr := (0, 0)) (heap_alloc_new w2b _)) (by simp [Value.oneCell']) (by omega) (by unfold maxLen; omega) (by omega) (by first | omega | (simp; done) | (simp; omega)) (w2b.heap.size + 1) (by simp) ?_; intro g cap w3 hown hgrow hat hlt; have gv3 := Giv.of hown; have hcap0 := gv3.cap; have hcapx : (m.length : Int) + 1 ≤ (cap : Int) := (by omega); have hG3 : Hid (Giv w3 g cap m) := gv3; clear gv3)
  have gv3 : Giv w3 g cap m := hG3.out
  have b3 : Below w2.heap.size w2 w3 := (b2.alloc hbs _).grown hgrow (by simp; omega) (fun q e => (World.ownsRow.lt HR.out q e).1)
  have o3 := gv3.toOps
  have o1 : Ops w2.heap.size w2 (.slice a1 m.length c1) m := HO1.out
  clear hown hgrow hat hlt HR hG3 HO1 hcap0 b2
  by_cases hE : plE n m = 0
  · obtain ⟨p0, p1, p2, p3⟩ := pl_ok hE
    clear hE
    go_wp2_with fail
    refine (play_good n m _ w3 o3 p0 p1 p2 p3).mono ?_
    rintro e w4 ⟨G1, x, rfl, ga, lo1, hi1, ⟨B1, hB1, hB2, ra⟩, b4⟩
    have gv4 := gv3.go b4
    go_wp2_with fail
    refine (play_good n m _ w4 gv4.toOps p0 p1 p2 p3).mono ?_
    rintro e w5 ⟨G2, y, rfl, gb, lo2, hi2, ⟨B2, hB3, hB4, rb⟩, b5⟩
    have gv5 := gv4.go b5
    have s4 := b4.size
    have s5 := b5.size
    have b6 := bthen b3 b3.size (bthen b4 b4.size b5)
    have o5 := o1.go b6
    go_wp2_with fail
    refine (rplay_good n m _ w5 o5 p0 p1 p2 p3).mono ?_
    rintro e w6 ⟨u, z, rfl, ru, ⟨B3, hB5, rz⟩, b7⟩
    have s6 := b7.size
    have hT1 : Two w6 n m G1 x u z (fun _ => True) := ⟨ga.keep ((b7.block G1 (by omega)).trans (b5.block G1 hi1)), by omega, trivial, ⟨_, ru⟩, fun _ _ => trivial, ⟨B1, own_keep ra (fun q e => (b7.block q (by have := (ra.lt q e).2; omega)).trans (b5.block q (ra.lt q e).2))⟩, fun _ _ => trivial, ⟨B3, rz⟩, fun _ _ => trivial⟩
    have hT2 : Two w6 n m G2 y u z (fun q => w4.heap.size ≤ q) := ⟨gb.keep (b7.block G2 hi2), by omega, lo2, ⟨_, ru⟩, fun q e => by have := (ru.lt q e).1; omega, ⟨B2, own_keep rb (fun q e => b7.block q (rb.lt q e).2)⟩, fun q e => by have := (rb.lt q e).1; omega, ⟨B3, rz⟩, fun q e => by have := (rz.lt q e).1; omega⟩
    have f1 : Fil G1 (fun i => i * 4) m.length w6 := (Fil.gots ga).keep ((b7.block G1 (by omega)).trans (b5.block G1 hi1))
    have gv6 := gv5.go b7
    have o6 := o5.go b7
    have b6 := bthen b6 b6.size b7
    clear ga gb rb ru rz b5 b7 gv3 gv4 gv5 o1 o3 o5
    go_wp2_with fail
    refine (hT1.same p2).mono ?_
    rintro e w7 ⟨rfl, b7⟩
    have hT1 := hT1.step b7.size (fun q hq _ => b7.block q hq)
    go_wp2_with fail
    refine (hT1.sameI p2).mono ?_
    rintro e w8 ⟨rfl, b8⟩
    have b9 := bthen b7 b7.size b8
    have s8 := b9.size
    have hT2 := hT2.step b9.size (fun q hq _ => b9.block q hq)
    have f1 := f1.keep (b9.block G1 (by omega))
    obtain ⟨Bx, rx⟩ := (hT1.step b8.size (fun q hq _ => b8.block q hq)).rx
    have gv8 := gv6.go b9
    have o8 := o6.go b9
    have b10 := bthen b6 b6.size b9
    have bb8 := bthen b1 b1.size b10
    have h31 : w2.heap.size ≤ w3.heap.size := b3.size
    have h01 : w.heap.size ≤ w2.heap.size := b1.size
    have hxl := fun q e => (⟨(ra.lt q e).1, (ra.lt q e).2⟩ : B1 ≤ q ∧ q < w4.heap.size)
    have hnx : (tids (stAt n m m.length).bl (stAt n m m.length).bl.length).length ≤ 1000 := by
      have h1 := tids_len (stAt n m m.length).bl (stAt n m m.length).bl.length
      have h2 := len_at n m m.length
      omega
    have HT : Hid (Two w8 n m G2 y u z (fun q => w4.heap.size ≤ q)) := hT2
    generalize tids (stAt n m m.length).bl (stAt n m m.length).bl.length = tx at rx hnx
    obtain ⟨ax, cx, rfl, hcx⟩ := slice_of rx
    have HX : Hid (0 < tx.length → ∃ gx, ax = some ⟨gx, 0, none⟩ ∧ Fil gx (fun i => i) tx.length w8) := fun hp => by
      obtain ⟨g', c', q, _⟩ := rx.form hp
      injection q with qa _ qc
      subst qa qc
      exact ⟨g', rfl, Fil.row rx⟩
    obtain ⟨n1, n2⟩ := gv8.nine
    have hcap := gv8.cap
    have hcap' : (m.length : Int) + 1 ≤ (cap : Int) := by omega
    have HGV : Hid (Giv w8 g cap m) := gv8
    obtain ⟨a1', c1', q1', _, hop⟩ := o8
    injection q1' with qa _ qc
    subst qa qc
    have HOP : Hid _ := hop
    have HF : Hid (Fil G1 (fun i => i * 4) m.length w8) := f1
    have HL : Hid (∀ q, (Value.slice ax tx.length cx).ownBlock = some q → B1 ≤ q ∧ q < w4.heap.size) := hxl
    have HB : Hid (Below w.heap.size w w8) := bb8
    clear gv6 gv8 o6 hop b3 b4 b6 b7 b8 b9 b10 hT1 hT2 f1 hxl ra rx bb8
    generalize tx.length = nx at *
    go_wp2_with fail
    go_loopw [15] (fun i wr => ∃ k : Nat, i = .int .i64 k ∧ k ≤ m.length ∧ ∃ mm, wr = w8.drewN mm) (fun i _ => m.length - (intOf i).toNat)
    case atStart => exact ⟨0, rfl, by omega, 0, rfl⟩
    case round =>
      obtain ⟨k, rfl, hk, mm, rfl⟩ := hrel
      by_cases hlt : k < m.length
      · have hlt' : (k : Int) < (m.length : Int) := by omega
        have hlt2 : (k : Int) < (m.length : Int) + 1 := by omega
        obtain ⟨p0, p1⟩ := HGV.out.ops k hlt
        obtain ⟨g1, off1, rfl, hg1, hc1⟩ := HOP.out (fun q => by rw [q] at hlt; simp at hlt)
        obtain ⟨r0, r1⟩ := hc1 k hlt
        clear hc1 HOP HGV
        generalize (m.getD k (0, 0)).1 = x1 at *
        generalize (m.getD k (0, 0)).2 = y1 at *
        go_wp2_with fail
        go_quiet (fail)
        go_wp2_with fail
        go_roundw
        case rel => exact ⟨k + 1, by go_num, by omega, _, rfl⟩
        case measure => simp [intOf]; omega
      · obtain rfl : k = m.length := by omega
        clear hlt hk
        generalize hW : w8.drewN mm = W at *
        have HT1 : Hid (Two W n m G2 y u z (fun q => w4.heap.size ≤ q)) := by subst hW; exact HT.out.step (Nat.le_refl _) (fun q _ _ => rfl)
        have HF1 : Hid (Fil G1 (fun i => i * 4) m.length W) := by subst hW; exact HF.out.keep rfl
        have HX1 : Hid (0 < nx → ∃ gx, ax = some ⟨gx, 0, none⟩ ∧ Fil gx (fun i => i) nx W) := fun hp => by
          obtain ⟨gx, qx, fx⟩ := HX.out hp
          subst hW
          exact ⟨gx, qx, fx.keep rfl⟩
        have HB1 : Hid (Below w.heap.size w W) := by subst hW; exact ⟨HB.out.os, HB.out.tape, HB.out.output, HB.out.size, HB.out.block⟩
        have hs : w8.heap.size = W.heap.size := by subst hW; rfl
        clear HT HF HX HB hW
        go_wp2_with fail
        go_loopw [16] (fun i wr => ∃ k : Nat, i = .int .i64 k ∧ k ≤ m.length ∧ Hid (Fil G1 (fun i => i * 4) m.length wr) ∧ Hid (W.grownBy wr (some G1))) (fun i _ => m.length - (intOf i).toNat)
        case atStart => exact ⟨0, rfl, by omega, HF1, World.grownBy.refl _ _⟩
        case round =>
          obtain ⟨k, rfl, hk, HF2, HG2⟩ := hrel
          by_cases hlt : k < m.length
          · have hlt' : (k : Int) < (m.length : Int) := by omega
            obtain ⟨xv, c0⟩ := HF2.out.cells k hlt
            have f0 := HF2.out.free (k * 4)
            have c0 : wr.cell? ⟨G1, k * 4, none⟩ = some (.int .i64 xv) := c0
            have HN : Hid (∀ x : Int, Fil G1 (fun i => i * 4) m.length (wr.setCell ⟨G1, k * 4, none⟩ (.int .i64 x))) := fun x => HF2.out.put k x
            have HM : Hid (∀ x : Int, W.grownBy (wr.setCell ⟨G1, k * 4, none⟩ (.int .i64 x)) (some G1)) := fun x => World.grownBy.trans HG2.out (gset wr G1 _ _)
            go_wp2_with fail
            go_roundw
            case rel => exact ⟨k + 1, by go_num, by omega, HN.out _, HM.out _⟩
            case measure => simp [intOf]; omega
          · have hnlt : ¬ (k : Int) < (m.length : Int) := by omega
            have HT2 : Hid (Two wr n m G2 y u z (fun q => w4.heap.size ≤ q)) := HT1.out.step HG2.out.size (fun q hq hk => HG2.out.block q hq (fun e => by injection e with e; omega))
            have HX2 : Hid (0 < nx → ∃ gx, ax = some ⟨gx, 0, none⟩ ∧ Fil gx (fun i => i) nx wr) := fun hp => by
              obtain ⟨gx, qx, fx⟩ := HX1.out hp
              obtain ⟨z1, z2⟩ := HL.out gx (by rw [qx]; rfl)
              exact ⟨gx, qx, fx.keep (HG2.out.block gx (by omega) (fun e => by injection e with e; omega))⟩
            have HB2 : Hid (Below w.heap.size w wr) := HB1.out.grown HG2.out (by have := HB1.out.size; omega) (fun q e => by injection e with e; omega)
            have hs2 : w8.heap.size ≤ wr.heap.size := by have := HG2.out.size; omega
            clear HT1 HX1 HB1 HG2 HF2 hs HF1
            go_wp2_with fail
            go_loopw [17] (fun i w' => ∃ k : Nat, i = .int .i64 k ∧ k ≤ nx ∧ Hid (0 < nx → ∃ gx, ax = some ⟨gx, 0, none⟩ ∧ Fil gx (fun i => i) nx w') ∧ Hid (wr.grownBy w' (Value.slice ax nx cx).ownBlock)) (fun i _ => nx - (intOf i).toNat)
            case atStart => exact ⟨0, rfl, by omega, HX2, World.grownBy.refl _ _⟩
            case round =>
              obtain ⟨j, rfl, hj, HX3, HG3⟩ := hrel
              by_cases hjt : j < nx
              · have hjt' : (j : Int) < (nx : Int) := by omega
                obtain ⟨gx, rfl, fx⟩ := HX3.out (by omega)
                obtain ⟨xv, c0⟩ := fx.cells j hjt
                have f0 := fx.free j
                have HN : Hid (∀ x : Int, 0 < nx → ∃ g', some (⟨gx, 0, none⟩ : Addr) = some ⟨g', 0, none⟩ ∧ Fil g' (fun i => i) nx (wr.setCell ⟨gx, j, none⟩ (.int .i64 x))) := fun x _ => ⟨gx, rfl, fx.put j x⟩
                have HM : Hid (∀ x : Int, World.grownBy _ (wr.setCell ⟨gx, j, none⟩ (.int .i64 x)) (Value.slice (some ⟨gx, 0, none⟩) nx cx).ownBlock) := fun x => World.grownBy.trans HG3.out (gset wr gx _ _)
                clear fx
                go_wp2_with fail
                go_roundw
                case rel => exact ⟨j + 1, by go_num, by omega, HN.out _, HM.out _⟩
                case measure => simp [intOf]; omega
              · have hnjt : ¬ (j : Int) < (nx : Int) := by omega
                have hT := HT2.out.step HG3.out.size (fun q hq hk => HG3.out.block q hq (fun e => by have := (HL.out q e.symm).2; omega))
                have hB := HB2.out.grown HG3.out (by have := HB2.out.size; omega) (fun q e => by have := (HL.out q e).1; omega)
                go_wp2_with fail
                refine (hT.same p2).mono ?_
                rintro e w9 ⟨rfl, b9⟩
                have hT := hT.step b9.size (fun q hq _ => b9.block q hq)
                go_wp2_with fail
                refine (hT.sameI p2).mono ?_
                rintro e w10 ⟨rfl, b10⟩
                go_wp2_with fail
                go_ret
                exact ⟨rfl, bthen (bthen hB hB.size b9) (bthen hB hB.size b9).size b10⟩
  · skip
    go_wp2_with fail
    refine (play_bad n m _ w3 o3 (by omega) hE).mono ?_
    rintro e w4 ⟨rfl, b4⟩
    have gv4 := gv3.go b4
    go_wp2_with fail
    refine (play_bad n m _ w4 gv4.toOps (by omega) hE).mono ?_
    rintro e w5 ⟨rfl, b5⟩
    have gv5 := gv4.go b5
    have b6 := bthen b3 b3.size (bthen b4 b4.size b5)
    have o5 := o1.go b6
    go_wp2_with fail
    refine (rplay_bad n m _ w5 o5 (by omega) hE).mono ?_
    rintro e w6 ⟨rfl, rfl⟩
    generalize plE n m = E at *
    go_wp2_with fail
    refine (sameG_nil w6).mono ?_
    rintro e w7 ⟨rfl, rfl⟩
    go_wp2_with fail
    refine (same_nil w7).mono ?_
    rintro e w8 ⟨rfl, b8⟩
    have gv8 := gv5.go b8
    have o8 := o5.go b8
    have bb8 := bthen b1 b1.size (bthen b6 b6.size b8)
    obtain ⟨n1, n2⟩ := gv8.nine
    have hcap := gv8.cap
    have hcap' : (m.length : Int) + 1 ≤ (cap : Int) := by omega
    have HGV : Hid (Giv w8 g cap m) := gv8
    obtain ⟨a1', c1', q1', _, hop⟩ := o8
    injection q1' with qa _ qc
    subst qa qc
    have HOP : Hid _ := hop
    clear gv3 gv4 gv5 gv8 o1 o3 o5 hop b4 b5 b8 b6 b3
    go_wp2_with fail
    go_loopw [15] (fun i wr => ∃ k : Nat, i = .int .i64 k ∧ k ≤ m.length ∧ ∃ mm, wr = w8.drewN mm) (fun i _ => m.length - (intOf i).toNat)
    case atStart => exact ⟨0, rfl, by omega, 0, rfl⟩
    case round =>
      obtain ⟨k, rfl, hk, mm, rfl⟩ := hrel
      by_cases hlt : k < m.length
      · have hlt' : (k : Int) < (m.length : Int) := by omega
        have hlt2 : (k : Int) < (m.length : Int) + 1 := by omega
        obtain ⟨p0, p1⟩ := HGV.out.ops k hlt
        obtain ⟨g1, off1, rfl, hg1, hc1⟩ := HOP.out (fun q => by rw [q] at hlt; simp at hlt)
        obtain ⟨r0, r1⟩ := hc1 k hlt
        clear hc1 HOP HGV
        generalize (m.getD k (0, 0)).1 = x1 at *
        generalize (m.getD k (0, 0)).2 = y1 at *
        go_wp2_with fail
        go_quiet (fail)
        go_wp2_with fail
        go_roundw
        case rel => exact ⟨k + 1, by go_num, by omega, _, rfl⟩
        case measure => simp [intOf]; omega
      · obtain rfl : k = m.length := by omega
        go_wp2_with fail
        go_loopw [16] (fun i wr => i = .int .i64 0 ∧ ∃ mm, wr = w8.drewN mm) (fun _ _ => 0)
        case atStart => exact ⟨rfl, _, rfl⟩
        case round =>
          obtain ⟨rfl, mm2, rfl⟩ := hrel
          go_wp2_with fail
          go_loopw [17] (fun i wr => i = .int .i64 0 ∧ ∃ mm, wr = w8.drewN mm) (fun _ _ => 0)
          case atStart => exact ⟨rfl, _, rfl⟩
          case round =>
            obtain ⟨rfl, mm3, rfl⟩ := hrel
            go_wp2_with fail
            refine (sameG_nil _).mono ?_
            rintro e w9 ⟨rfl, rfl⟩
            go_wp2_with fail
            refine (same_nil _).mono ?_
            rintro e w10 ⟨rfl, b10⟩
            go_wp2_with fail
            go_ret
            exact ⟨rfl, bthen bb8 bb8.size ⟨b10.os, b10.tape, b10.output, b10.size, b10.block⟩⟩
end Go.Proofs.Yteknjkofmkigoab.H
