/- The walk of the law HeapLast. -/
import Derived.Test.YteknjkofmkigoabLa
namespace Go.Proofs.Yteknjkofmkigoab.H
open Go.RowKit

theorem lay_X {No : Nat → Prop} {w : World} {S b c : Nat} {vb : Value} {n : Int} (hn : 1 ≤ n) (hn2 : n ≤ 50) (k : Nat) (hk : k ≤ 19) (h : Hp No w S b c vb (X n k 0)) (hc : c ≤ 1000) :
    Calls Try.prog 26 #[.pointer (some ⟨S, 0, none⟩), .int .i64 n] w fun e w' => e = .returned (.tuple #[.int .i64 ((k : Int) + 1), .int .i64 0]) ∧ (∃ v', Hp No w' S b (c + 1) v' (X n (k + 1) 0)) ∧ Keep No w w' := by
  have C := take_any h (by omega) (X_inv n hn hn2 k (by omega)).ok n
  obtain ⟨e1, e2, e3⟩ := X_lay n hn hn2 k hk
  rwa [e1, e2, e3] at C
theorem give_X {No : Nat → Prop} {w : World} {S b c : Nat} {vb : Value} {n : Int} (hn : 1 ≤ n) (hn2 : n ≤ 50) (k j : Nat) (hk : k ≤ 20) (hj : j < k) (h : Hp No w S b c vb (X n k j)) (hc : c ≤ 1000) :
    Calls Try.prog 24 #[.pointer (some ⟨S, 0, none⟩), .int .i64 ((j : Int) + 1)] w fun e w' => e = .returned (.int .i64 0) ∧ (∃ v', Hp No w' S b (c + 1) v' (X n k (j + 1))) ∧ Keep No w w' := by
  have C := give_any h (by omega) (X_inv2 n hn hn2 k j hk (by omega)) ((j : Int) + 1)
  obtain ⟨e1, e2⟩ := X_give n k j hj
  rwa [e1, e2] at C
theorem again_X {No : Nat → Prop} {w : World} {S b c : Nat} {vb : Value} {n : Int} (hn : 1 ≤ n) (hn2 : n ≤ 50) (k j : Nat) (hk : k ≤ 20) (hj : j < k) (h : Hp No w S b c vb (X n k (j + 1))) (hc : c ≤ 1000) :
    Calls Try.prog 26 #[.pointer (some ⟨S, 0, none⟩), .int .i64 n] w fun e w' => e = .returned (.tuple #[.int .i64 ((j : Int) + 1), .int .i64 0]) ∧ (∃ v', Hp No w' S b (c + 1) v' (X n k j)) ∧ Keep No w w' := by
  have C := take_any h (by omega) (X_inv2 n hn hn2 k (j + 1) hk (by omega)).ok n
  obtain ⟨e1, e2, e3⟩ := X_again n hn hn2 k j hj hk
  rwa [e1, e2, e3] at C

/-- The heap, and the list of ids beside it. -/
structure Both (N : Nat) (w : World) (S b c : Nat) (s : St) (v : Value) (i : Nat) : Prop where
  hp : ∃ vb, Hp (fun g => g < N ∨ v.ownBlock = some g) w S b c vb s
  ids : w.ownsRow N 3 1 v i ((ups i).map (Value.int .i64))
theorem Both.step {N : Nat} {w w' : World} {S b c c' : Nat} {s s' : St} {v : Value} {i : Nat} (h : Both N w S b c s v i) (hp : ∃ vb, Hp (fun g => g < N ∨ v.ownBlock = some g) w' S b c' vb s') (k : Keep (fun g => g < N ∨ v.ownBlock = some g) w w') : Both N w' S b c' s' v i :=
  ⟨hp, own_keep h.ids (fun g e => k.block g (h.ids.lt g e).2 (.inr e))⟩

theorem Both.cell {N : Nat} {w : World} {S b c : Nat} {s : St} {au : Option Addr} {cu i : Nat} (h : Both N w S b c s (.slice au i cu) i) (j : Nat) (hj : j < i) : ∃ g, au = some ⟨g, 0, none⟩ ∧ w.cell? ⟨g, j, none⟩ = some (.int .i64 ((j : Int) + 1)) := by
  obtain ⟨g, cap, q, _, _⟩ := h.ids.form (by omega)
  injection q with q1 _ q3
  subst q1 q3
  refine ⟨g, rfl, ?_⟩
  rw [h.ids.cellAt j (by omega), List.getElem?_map, ups_get i j hj]
  rfl

set_option maxRecDepth 20000 in
set_option maxHeartbeats 2000000 in
theorem last_walk (x y : Int) (w : World) : Calls Try.prog 8 #[.int .i64 x, .int .i64 y] w fun e w' => e = .returned (.bool true) ∧ Below w.heap.size w w' := by
  obtain ⟨n', hn, hn1⟩ := md_wrap x 50 (by omega) (by omega)
  obtain ⟨k, hk, hk1⟩ := md_wrap y 20 (by omega) (by omega)
  obtain ⟨i0, hi0, hz0, hz1, hz2⟩ := info_parts info3
  have hk9 : k ≤ 19 := by omega
  go_enter Try.func8, Try.ntmps8
  go_wp2_with fail
  refine (fixed_any w).mono ?_
  rintro e w1 ⟨rfl, b1⟩
  go_wp2_with fail
  refine (new_walk w1 2000 (by omega) (by omega)).mono ?_
  rintro e w2 ⟨rfl, rfl⟩
  have h2 := new_hp w1 2000 (fun g => g < w1.heap.size) (fun g q => q)
  have k2 : Keep (fun g => g < w1.heap.size) w1 ((w1.alloc (.map #[] 0)).alloc (.cells #[.int .i64 2000, .int .i64 0, .int .i64 0, .slice none 0 0, .map (some w1.heap.size)] 70)) := ((Keep.refl _ w1).alloc _).alloc _
  obtain ⟨W, hW⟩ : ∃ W, W = (w1.alloc (.map #[] 0)).alloc (.cells #[.int .i64 2000, .int .i64 0, .int .i64 0, .slice none 0 0, .map (some w1.heap.size)] 70) := ⟨_, rfl⟩
  rw [← hW] at h2 k2 ⊢
  obtain ⟨S, hS⟩ : ∃ S, w1.heap.size + 1 = S := ⟨_, rfl⟩
  rw [hS] at h2 ⊢
  clear hW hS
  obtain ⟨n, hnn⟩ : ∃ n : Int, n = 1 + (n' : Int) := ⟨_, rfl⟩
  have hn2 : 1 ≤ n := by omega
  have hn3 : n ≤ 50 := by omega
  have hB : Both w1.heap.size W S w1.heap.size 0 (X n 0 0) (.slice none 0 0) 0 := by
    refine ⟨⟨.slice none 0 0, ?_⟩, World.ownsRow_nil W _ _ _⟩
    rw [X_new]
    exact h2.reno (fun g q => .inl (by rcases q with q | q; exact q; cases q))
  have hw : Below w1.heap.size w1 W := k2.below (Nat.le_refl _) (fun g q => q)
  have HB : Hid _ := hB
  have HN : Hid _ := hnn
  clear hB h2 k2 hnn
  go_wp2_with fail
  rw [← HN.out]
  clear hn hk
  go_loopw [7, 8] (fun u q wr => ∃ i : Nat, q = .int .i64 i ∧ i ≤ k ∧ ∃ au cu, u = .slice au i cu ∧ Hid (Both w1.heap.size wr S w1.heap.size i (X n i 0) (.slice au i cu) i) ∧ Below w1.heap.size w1 wr) (fun _ q _ => k - (intOf q).toNat)
  case atStart => exact ⟨0, rfl, by omega, none, 0, rfl, HB, hw⟩
  case round =>
    obtain ⟨i, rfl, hi, au, cu, rfl, HR, hb⟩ := hrel
    by_cases hlt : i < k
    · have hlt' : (i : Int) < (k : Int) := by omega
      obtain ⟨vb, hp⟩ := HR.out.hp
      have C := lay_X hn2 hn3 i (by omega) hp (by omega)
      have hbs := hb.size
      clear hp HB hw
      go_wp2_with fail
      refine C.mono ?_
      rintro e w3 ⟨rfl, hx, k3⟩
      have B3 := HR.out.step hx k3
      have HB3 : Hid _ := B3
      have HI : Hid (w3.ownsRow w1.heap.size 3 1 (.slice au i cu) i ((ups i).map (Value.int .i64))) := B3.ids
      have b3 : Below w1.heap.size w1 w3 := hb.trans (k3.below hbs (fun g q => .inl q))
      have hs3 := b3.size
      clear C hx B3 k3 HR hb
      go_wp2_with (at_builtin; refine wpList_append_lies _ rfl _ _ 22 rfl w1.heap.size 3 i0 _ 1 8 Try.underlying22 hi0 hz0 hz1 hz2 rfl (by omega) (.slice au i cu) i ((ups i).map (Value.int .i64)) rfl (World.ownsRow.alloc HI.out _) ⟨w3.heap.size, 0, none⟩ 1 1 [.int .i64 ((i : Int) + 1)] rfl rfl (World.news_of_block (cs := #[.int .i64 ((i : Int) + 1)]) (t := 3) (fr := (0, 0)) (heap_alloc_new w3 _)) (by simp [Value.oneCell']) (by omega) (by unfold maxLen; omega) (by omega) (by simp; omega) (w3.heap.size + 1) (by simp) ?_; intro g1 c1 w4 hown1 hgrow1 hat1 hlt1)
      go_roundw
      case rel =>
        refine ⟨i + 1, by go_num, by omega, _, _, rfl, ⟨?_, by rw [ups_succ, List.map_append]; exact hown1⟩, ?_⟩
        · obtain ⟨vb3, hp3⟩ := HB3.out.hp
          refine ⟨vb3, (hp3.alloc _).grow hgrow1 (fun g e => .inr e) (fun g q => ?_)⟩
          rcases q with q | q
          · exact .inl (.inl q)
          · injection q with q
            subst q
            rcases hat1 with q | q
            · exact .inl (.inr q)
            · exact .inr ⟨by simp; omega, hlt1⟩
        · exact (b3.alloc hs3 _).grown hgrow1 (by simp; omega) (fun g e => (World.ownsRow.lt HI.out g e).1)
      case measure => simp [intOf]; omega
    · obtain rfl : i = k := by omega
      clear HB hw
      go_wp2_with fail
      go_loopw [11] (fun q wr => ∃ j : Nat, q = .int .i64 j ∧ j ≤ i ∧ Hid (Both w1.heap.size wr S w1.heap.size (i + j) (X n i j) (.slice au i cu) i) ∧ Below w1.heap.size w1 wr) (fun q _ => i - (intOf q).toNat)
      case atStart => exact ⟨0, rfl, by omega, HR, hb⟩
      case round =>
        obtain ⟨j, rfl, hj, HR2, hb2⟩ := hrel
        by_cases hlt2 : j < i
        · have hlt2' : (j : Int) < (i : Int) := by omega
          obtain ⟨g, rfl, d1⟩ := HR2.out.cell j hlt2
          obtain ⟨vb, hp⟩ := HR2.out.hp
          have C := give_X hn2 hn3 i j (by omega) hlt2 hp (by omega)
          have hbs := hb2.size
          clear hp HR hb
          go_wp2_with fail
          refine C.mono ?_
          rintro e w3 ⟨rfl, hx, k3⟩
          have HB3 : Hid _ := HR2.out.step hx k3
          have b3 : Below w1.heap.size w1 w3 := hb2.trans (k3.below hbs (fun g q => .inl q))
          clear C hx k3 HR2 hb2
          go_wp2_with fail
          go_roundw
          case rel => exact ⟨j + 1, by go_num, by omega, HB3.out, b3⟩
          case measure => simp [intOf]; omega
        · obtain rfl : j = i := by omega
          clear HR hb
          go_wp2_with fail
          go_loopw [12] (fun q wr => ∃ m : Nat, q = .int .i64 ((m : Int) - 1) ∧ m ≤ j ∧ Hid (Both w1.heap.size wr S w1.heap.size (j + j + (j - m)) (X n j m) (.slice au j cu) j) ∧ Below w1.heap.size w1 wr) (fun q _ => ((intOf q) + 1).toNat)
          case atStart => exact ⟨j, rfl, by omega, by rw [Nat.sub_self, Nat.add_zero]; exact HR2.out, hb2⟩
          case round =>
            obtain ⟨m, rfl, hm, HR3, hb3⟩ := hrel
            cases m with
            | zero =>
              obtain ⟨vb, hp⟩ := HR3.out.hp
              have C := lay_X hn2 hn3 j (by omega) hp (by omega)
              have hbs := hb3.size
              clear hp HR2 hb2
              go_wp2_with fail
              refine C.mono ?_
              rintro e w3 ⟨rfl, hx, k3⟩
              obtain ⟨vb3, hp3⟩ := hx
              have T4 := live_any w3 S _ hp3.c1
              have T5 := laid_any w3 S _ hp3.c2
              have b3 : Below w1.heap.size w1 w3 := hb3.trans (k3.below hbs (fun g q => .inl q))
              have b4 := bthen b1 b1.size b3
              have q1 : (X n (j + 1) 0).live = ((j : Int) + 1) * n := by
                show ((((j + 1 : Nat) : Int)) - ((0 : Nat) : Int)) * n = _
                congr 1
              have q2 : (X n (j + 1) 0).laid = ((j : Int) + 1) * n := by
                show (((j + 1 : Nat) : Int)) * n = _
                congr 1
              rw [q1] at T4
              rw [q2] at T5
              have hmul := mul_bd n ((j : Int) + 1) (by omega) (by omega) hn2 hn3
              obtain ⟨hm0, hm1⟩ := hmul
              clear C hp3 k3 HR3 hb3 q1 q2 b3
              go_wp2_with (first | (go_at_call 21; refine T4.mono ?_; rintro e w' ⟨rfl, rfl⟩) | (go_at_call 22; refine T5.mono ?_; rintro e w' ⟨rfl, rfl⟩))
              go_ret
              exact ⟨rfl, b4⟩
            | succ m =>
              have hm3 : ((m + 1 : Nat) : Int) - 1 = (m : Int) := by omega
              rw [hm3]
              have hlt3 : (m : Int) < (j : Int) := by omega
              obtain ⟨g, rfl, d1⟩ := HR3.out.cell m (by omega)
              obtain ⟨vb, hp⟩ := HR3.out.hp
              have C := again_X hn2 hn3 j m (by omega) (by omega) hp (by omega)
              have hbs := hb3.size
              clear hp HR2 hb2 hm3
              go_wp2_with fail
              refine C.mono ?_
              rintro e w3 ⟨rfl, hx, k3⟩
              have HB3 : Hid _ := HR3.out.step hx k3
              have b3 : Below w1.heap.size w1 w3 := hb3.trans (k3.below hbs (fun g q => .inl q))
              have d2 := (World.cell?_of_block (k3.block g (World.block_lt_of_cell? _ _ d1) (.inr rfl))).trans d1
              clear C hx k3 HR3 hb3
              go_wp2_with fail
              go_roundw
              case rel => exact ⟨m, by go_num, by omega, by rw [show j + j + (j - m) = j + j + (j - (m + 1)) + 1 by omega]; exact HB3.out, b3⟩
              case measure => simp [intOf]
end Go.Proofs.Yteknjkofmkigoab.H
