/- The walk of the law CensusMemory. -/
import Derived.Test.YteknjkofmkigoaaApp
import Derived.Test.YteknjkofmkigoaaRsiz
import Derived.Deep.AppendLies
namespace Go.Proofs.Yteknjkofmkigoaa
open Go.RowKit

theorem Ints.far {w w' : World} {v : Value} {l : List Int} {G : Nat} (h : Ints w.heap.size w v l) (hg : w.grownBy w' (some G)) (hne : v.ownBlock ≠ some G) : Ints w'.heap.size w' v l := by
  obtain ⟨a, cap, rfl, hc, h⟩ := h
  refine ⟨a, cap, rfl, hc, fun hl => ?_⟩
  obtain ⟨b, off, rfl, hb, hx⟩ := h hl
  have hne' : some b ≠ some G := hne
  exact ⟨b, off, rfl, Nat.lt_of_lt_of_le hb hg.size, fun i hi => by rw [hg.cell_far ⟨b, off + i, none⟩ hb hne']; exact hx i hi⟩

theorem make_room (L : Nat) (hL : L ≤ 1000000) (W : World) : (Instr.makeSlice 22 (.int .i64 0) (.int .i64 ((L : Int) + 1))).run Try.prog W = .ok (.slice (some ⟨W.heap.size, 0, none⟩) 0 (L + 1)) (W.alloc (.cells (madeCells (Value.int .i64 0).cells ((L + 1) * 1)) 3)) := by
  obtain ⟨i0, hi, hz0, hz1, hz2⟩ := info_parts info3
  have h := run_make (P := Try.prog) W 22 3 i0 (.int .i64 0) Try.underlying22 hi hz0 .i64 .i64 0 ((L : Int) + 1) (by omega) (by omega) (by rw [hz2]; omega) (by omega)
  rw [hz1] at h
  simpa using h

/-- What the law makes of its keys: a list with 77 behind them. -/
theorem given_any (m : List Int) (v2 : Value) (w : World) (h : Ints w.heap.size w v2 m) (hlen : m.length ≤ 3000) :
    ∃ v3 w3 g c4 w4, (Builtin.append_ #[22, 22] 22 #[.slice (some ⟨w.heap.size, 0, none⟩) 0 (m.length + 1), v2]).run Try.prog (w.alloc (.cells (madeCells (Value.int .i64 0).cells ((m.length + 1) * 1)) 3)) = .ok v3 w3 ∧
      (Builtin.append_ #[22, 22] 22 #[v3, .slice (some ⟨w3.heap.size, 0, none⟩) 1 1]).run Try.prog (w3.alloc (.cells #[.int .i64 77] 3)) = .ok (.slice (some ⟨g, 0, none⟩) (m.length + 1) c4) w4 ∧
      Below w.heap.size w w4 ∧ m.length + 1 ≤ c4 ∧ g < w4.heap.size ∧ ∀ W, Below w4.heap.size w4 W → Ints W.heap.size W (.slice (some ⟨g, 0, none⟩) m.length c4) m ∧ W.cell? ⟨g, m.length, none⟩ = some (.int .i64 77) := by
  have h1 : Ints (w.alloc (.cells (madeCells (Value.int .i64 0).cells ((m.length + 1) * 1)) 3)).heap.size (w.alloc (.cells (madeCells (Value.int .i64 0).cells ((m.length + 1) * 1)) 3)) v2 m := h.go (balloc w _)
  have o1 : (w.alloc (.cells (madeCells (Value.int .i64 0).cells ((m.length + 1) * 1)) 3)).ownsRow w.heap.size 3 1 (.slice (some ⟨w.heap.size, 0, none⟩) 0 (m.length + 1)) ([] : List Int).length (([] : List Int).map (Value.int .i64)) := by
    refine ⟨rfl, .inr ⟨w.heap.size, m.length + 1, _, rfl, Nat.le_refl _, (MapKept.heap_alloc w _).1, Nat.zero_le _, by unfold maxLen; omega, ?_, by simp⟩⟩
    simp [madeCells]
  obtain ⟨v3, w3, e1, o3, g3⟩ := app_list [] m _ v2 _ w.heap.size o1 h1 (by simp; omega) (by simp)
  have b3 : Below w.heap.size w w3 := (balloc w _).grown g3 (by simp) (fun k hk => by cases hk; exact Nat.le_refl _)
  have i77 : Ints (w3.alloc (.cells #[.int .i64 77] 3)).heap.size (w3.alloc (.cells #[.int .i64 77] 3)) (.slice (some ⟨w3.heap.size, 0, none⟩) 1 1) [77] := ints_new w3 [77] 1 (Nat.le_refl _)
  rw [List.nil_append] at o3
  obtain ⟨v4, w4, e2, o4, g4⟩ := app_list m [77] v3 (.slice (some ⟨w3.heap.size, 0, none⟩) 1 1) _ w.heap.size (o3.alloc _) i77 (by simp; omega) (by have := b3.size; simp; omega)
  have hl4 : (m ++ [(77 : Int)]).length = m.length + 1 := by simp
  rw [hl4] at o4
  obtain ⟨g, c4, rfl, hg, hg2⟩ := o4.form (by omega)
  have hs := b3.size
  refine ⟨v3, w3, g, c4, w4, e1, e2, ((b3.alloc hs _).grown g4 (by simp; omega) (fun k hk => (o3.lt k hk).1)), ?_, hg2, fun W hb => ?_⟩
  · rcases o4.2 with ⟨q, _⟩ | ⟨g', cap', cur, q, _, _, q2, _⟩
    · cases q
    · injection q with _ _ q3
      omega
  · have hc : ∀ i, i < m.length + 1 → W.cell? ⟨g, i, none⟩ = some (.int .i64 ((m ++ [77]).getD i 0)) := fun i hi => by
      rw [hb.cell (by exact hg2), o4.cellAt i (by omega)]
      rw [List.getElem?_map, List.getElem?_eq_getElem (by simp; omega), List.getD, List.getElem?_eq_getElem (by simp; omega)]
      rfl
    refine ⟨⟨_, c4, rfl, ?_, fun _ => ⟨g, 0, rfl, Nat.lt_of_lt_of_le hg2 hb.size, fun i hi => ?_⟩⟩, ?_⟩
    · rcases o4.2 with ⟨q, _⟩ | ⟨g', cap', cur, q, _, _, q2, _⟩
      · cases q
      · injection q with _ _ q3
        omega
    · rw [Nat.zero_add, hc i (by omega)]
      simp [List.getD, List.getElem?_append_left hi]
    · rw [hc m.length (by omega)]
      simp [List.getD]


set_option maxRecDepth 20000 in
set_option maxHeartbeats 2000000 in
theorem memory_walk (l : List Int) (v : Value) (w : World) (h : Ints w.heap.size w v l) (hf : Fit l) (hbig : l.length ≤ 9223372036854775807) :
    Calls Try.prog 7 #[v] w fun e w' => e = .returned (.bool true) ∧ Below w.heap.size w w' := by
  have hlen := fewLen l
  have hf3 := hf.take 3000
  have D1 := fun W (hb : Below w.heap.size w W) => few_any l v W (h.go hb) hbig
  clear h hbig hf
  generalize l.take 3000 = m at *
  have hok := okC_cnt m (by omega)
  go_enter Try.func7, Try.ntmps7
  go_wp2_with fail
  refine (fixed_any w).mono ?_
  rintro e w1 ⟨rfl, b1⟩
  go_wp2_with fail
  refine (D1 _ b1).mono ?_
  rintro e w2 ⟨v2, rfl, rfl, i2⟩
  clear D1
  have hmk := make_room m.length (by omega) w2
  obtain ⟨v3, w3, g, c4, w4, e1, e2, b4, hc4, hg4, H4⟩ := given_any m v2 w2 i2 hlen
  obtain ⟨W1, hW1⟩ : ∃ W1, W1 = w2.alloc (.cells (madeCells (Value.int .i64 0).cells ((m.length + 1) * 1)) 3) := ⟨_, rfl⟩
  rw [← hW1] at hmk e1
  clear hW1
  -- the contracts, at whatever world lies above w4
  have K1 : ∀ W, Below w4.heap.size w4 W → Calls Try.prog 13 #[.slice (some ⟨g, 0, none⟩) m.length c4] W fun e w' => e = .returned (.slice (some ⟨W.heap.size, 0, none⟩) 17 17) ∧ Own17 W.heap.size w' (cnt m) ∧ Below W.heap.size W w' := fun W hb => count_any m _ W (H4 W hb).1 hf3 (by omega)
  have K2 : ∀ W, Below w4.heap.size w4 W → Calls Try.prog 18 #[.slice (some ⟨g, 0, none⟩) m.length c4, .int .i64 1] W fun e w' => e = .returned (.tuple #[.int .i64 (szA m 1), .int .i64 (szH m 1), .int .i64 (szE m 1)]) ∧ Below W.heap.size W w' := fun W hb => sizes_any m 1 _ W (H4 W hb).1 hf3 (by omega)
  have J2 : ∀ W, Below w4.heap.size w4 W → Ints W.heap.size W v2 m := fun W hb => (i2.go b4).go hb
  have K3 : ∀ W, Below w4.heap.size w4 W → Calls Try.prog 19 #[v2, .int .i64 1] W fun e w' => e = .returned (.tuple #[.int .i64 (szA m 1), .int .i64 (szH m 1), .int .i64 (szE m 1)]) ∧ Below W.heap.size W w' := fun W hb => rsizes_any m 1 _ W (J2 W hb) hf3 (by omega)
  have K4 : ∀ W, Below w4.heap.size w4 W → Calls Try.prog 15 #[v2] W fun e w' => e = .returned (.slice (some ⟨W.heap.size, 0, none⟩) 17 17) ∧ Own17 W.heap.size w' (cnt m) ∧ Below W.heap.size W w' := fun W hb => rcount_any m _ W (J2 W hb) hf3 (by omega)
  have K5 : ∀ W, Below w4.heap.size w4 W → Calls Try.prog 12 #[.slice (some ⟨g, 0, none⟩) m.length c4, v2] W fun e w' => e = .returned (.bool true) ∧ Below W.heap.size W w' := fun W hb => by
    have := same_walk m m _ _ W (H4 W hb).1 (J2 W hb) rfl (by omega)
    rwa [decide_eq_true rfl] at this
  have K6 : ∀ W a b, Ints W.heap.size W a (cntL m) → Ints W.heap.size W b (cntL m) → Calls Try.prog 12 #[a, b] W fun e w' => e = .returned (.bool true) ∧ Below W.heap.size W w' := fun W a b h1 h2 => by
    have := same_walk (cntL m) (cntL m) _ _ W h1 h2 rfl (by rw [cntL_len]; omega)
    rwa [decide_eq_true rfl] at this
  have K7 : ∀ W a, Ints W.heap.size W a (cntL m) → Calls Try.prog 16 #[a] W fun e w' => e = .returned (.tuple #[.int .i64 (chA (cntL m) 17), .int .i64 (chN (cntL m) 17), .int .i64 0]) ∧ w' = W := fun W a h1 => choose_ok (cntL m) a W h1 hok
  have C7 : ∀ W, Below w4.heap.size w4 W → W.cell? ⟨g, m.length, none⟩ = some (.int .i64 77) := fun W hb => (H4 W hb).2
  clear H4 hf3 hok J2
  obtain ⟨a2, cap2, rfl, hcap2, _⟩ := i2
  generalize szA m 1 = A at *
  generalize szH m 1 = H at *
  generalize szE m 1 = E at *
  generalize chA (cntL m) 17 = cA at *
  generalize chN (cntL m) 17 = cN at *
  have b5 : Below w.heap.size w w4 := bthen b1 b1.size b4
  clear b4 b1
  generalize m.length = L at *
  have hc4' : (L : Int) + 1 ≤ (c4 : Int) := by omega
  go_wp2_with (first | (at_builtin; refine wp_app rfl _ _ 22 rfl 22 rfl (.slice (some ⟨w2.heap.size, 0, none⟩) 0 (L + 1)) (.slice a2 L cap2) rfl rfl e1 ?_) | (at_builtin; refine wp_app rfl _ _ 22 rfl 22 rfl v3 (.slice (some ⟨w3.heap.size, 0, none⟩) 1 1) rfl rfl e2 ?_))
  clear hmk e1 e2
  refine (K1 w4 (Below.refl _ _)).mono ?_
  rintro e w5 ⟨rfl, o5, c5⟩
  go_wp2_with fail
  refine (K1 w5 c5).mono ?_
  rintro e w6 ⟨rfl, o6, d6⟩
  have c6 := bthen c5 c5.size d6
  go_wp2_with fail
  refine (K2 w6 c6).mono ?_
  rintro e w7 ⟨rfl, d7⟩
  have c7 := bthen c6 c6.size d7
  go_wp2_with fail
  refine (K3 w7 c7).mono ?_
  rintro e w8 ⟨rfl, d8⟩
  have c8 := bthen c7 c7.size d8
  have i8 : Ints w8.heap.size w8 (.slice (some ⟨w4.heap.size, 0, none⟩) 17 17) (cntL m) := ((o5.ints'.go d6).go d7).go d8
  go_wp2_with fail
  refine (K7 w8 _ i8).mono ?_
  rintro e w9 ⟨rfl, rfl⟩
  go_wp2_with fail
  refine (K4 w9 c8).mono ?_
  rintro e w10 ⟨rfl, o10, d10⟩
  have c10 := bthen c8 c8.size d10
  go_wp2_with fail
  refine (K6 w10 _ _ (i8.go d10) o10.ints').mono ?_
  rintro e w11 ⟨rfl, d11⟩
  have c11 := bthen c10 c10.size d11
  go_wp2_with fail
  refine (K5 w11 c11).mono ?_
  rintro e w12 ⟨rfl, d12⟩
  have c12 := bthen c11 c11.size d12
  have x12 := C7 w12 c12
  -- what is left of the three lists in w12
  have hs4 : w4.heap.size < w5.heap.size := o5.2.2
  have hs5 : w5.heap.size < w6.heap.size := o6.2.2
  have hs9 := d7.size
  have hs10 := d8.size
  have hlow : Below w5.heap.size w5 w12 := bthen (bthen (bthen (bthen (bthen d6 d6.size d7) (by omega) d8) (by omega) d10) (by have := d10.size; omega) d11) (by have := d10.size; have := d11.size; omega) d12
  have q12 : Own17 w4.heap.size w12 (cnt m) := ⟨fun j hj => by rw [hlow.cell (by exact hs4)]; exact o5.1 j hj, fun j hj => by rw [hlow.frozen (by exact hs4)]; exact o5.2.1 j hj, Nat.lt_of_lt_of_le hs4 hlow.size⟩
  have ib : Ints w12.heap.size w12 (.slice (some ⟨w5.heap.size, 0, none⟩) 17 17) (cntL m) := ((((o6.ints'.go d7).go d8).go d10).go d11).go d12
  have iw : Ints w12.heap.size w12 (.slice (some ⟨w9.heap.size, 0, none⟩) 17 17) (cntL m) := (o10.ints'.go d11).go d12
  have b12 : Below w.heap.size w w12 := bthen b5 b5.size c12
  have hw4 : w.heap.size ≤ w4.heap.size := b5.size
  clear K1 K2 K3 K4 K5 K7 C7 o5 c5 o6 d6 c6 d7 c7 d8 c8 i8 o10 d10 c10 d11 c11 d12 c12 hlow b5
  obtain ⟨G, hG⟩ : ∃ G, w4.heap.size = G := ⟨_, rfl⟩
  have HB : Hid (∀ wr, w12.grownBy wr (some G) → Ints wr.heap.size wr (.slice (some ⟨w5.heap.size, 0, none⟩) 17 17) (cntL m)) := fun wr q => ib.far q (fun e => by injection e with e; simp only at e; omega)
  have HW : Hid (∀ wr, w12.grownBy wr (some G) → Ints wr.heap.size wr (.slice (some ⟨w9.heap.size, 0, none⟩) 17 17) (cntL m)) := fun wr q => iw.far q (fun e => by injection e with e; simp only at e; omega)
  have HZ : Hid (∀ wr, w12.grownBy wr (some G) → Below w.heap.size w wr) := fun wr q => b12.grown q b12.size (fun j hj => by cases hj; omega)
  rw [hG] at q12 ⊢
  have HQ : Hid _ := q12
  clear ib iw b12 hG q12 hs9 hs10 hs4 hs5 hw4
  go_wp2_with fail
  go_loopw [16] (fun i wr => ∃ k : Nat, i = .int .i64 k ∧ k ≤ 17 ∧ Hid (∃ f, Own17 G wr f) ∧ Hid (w12.grownBy wr (some G))) (fun i _ => 17 - (intOf i).toNat)
  case atStart => exact ⟨0, rfl, by omega, ⟨_, HQ.out⟩, World.grownBy.refl _ _⟩
  case round =>
    obtain ⟨k, rfl, hk, HO, HG⟩ := hrel
    by_cases hlt : k < 17
    · have hlt' : (k : Int) < 17 := by omega
      obtain ⟨f, hO⟩ := HO.out
      have c1 := hO.1 k hlt
      have f1 := hO.2.1 k hlt
      have HN : Hid (∀ x : Int, ∃ f', Own17 G (wr.setCell ⟨G, k, none⟩ (.int .i64 x)) f') := fun x => ⟨fun i => if i = k then x else f i, hO.upd k hlt x (if_pos rfl) (fun i hi => if_neg hi)⟩
      have HM : Hid (∀ x : Int, w12.grownBy (wr.setCell ⟨G, k, none⟩ (.int .i64 x)) (some G)) := fun x => World.grownBy.trans HG.out (gset wr G k _)
      generalize f k = y at *
      clear hO HO HQ
      go_wp2_with fail
      go_roundw
      case rel => exact ⟨k + 1, by go_num, by omega, HN.out _, HM.out _⟩
      case measure => simp [intOf]; omega
    · obtain rfl : k = 17 := by omega
      have E9 := K6 wr _ _ (HB.out wr HG.out) (HW.out wr HG.out)
      have b13 := HZ.out wr HG.out
      clear HO HG HQ
      go_wp2_with fail
      refine E9.mono ?_
      rintro e w14 ⟨rfl, d14⟩
      go_wp2_with fail
      go_ret
      exact ⟨rfl, bthen b13 b13.size d14⟩

end Go.Proofs.Yteknjkofmkigoaa
