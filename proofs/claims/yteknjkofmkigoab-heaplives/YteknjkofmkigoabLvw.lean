/- The walk of the law HeapLives. -/
import Derived.Test.YteknjkofmkigoabLv
import Derived.Test.YteknjkofmkigoabLa
namespace Go.Proofs.Yteknjkofmkigoab.H
open Go.RowKit

theorem op4_take (s : St) (n : Int) : op4 s 1 n = takeSt s n := by unfold op4 opSt; rw [if_pos (.inl rfl), if_pos rfl]
theorem op4_give (s : St) (n : Int) : op4 s 2 n = giveSt s n := by unfold op4 opSt; rw [if_pos (.inr (.inl rfl)), if_neg (by omega), if_pos rfl]
theorem op4_spend (s : St) (n : Int) : op4 s 3 n = spendSt s n := by unfold op4 opSt; rw [if_pos (.inr (.inr rfl)), if_neg (by omega), if_neg (by omega)]
theorem op4_none (s : St) (k n : Int) (h : ¬ (k = 1 ∨ k = 2 ∨ k = 3)) : op4 s k n = s := by unfold op4; rw [if_neg h]

set_option maxRecDepth 20000 in
set_option maxHeartbeats 4000000 in
theorem lives_walk (n q : Int) (l : List (Int × Int)) (v : Value) (w : World) (h : Ops w.heap.size w v l) :
    Calls Try.prog 6 #[.int .i64 n, v, .int .i64 q] w fun e w' => e = .returned (.bool true) ∧ Below w.heap.size w w' := by
  by_cases h0 : n < 0 ∨ 400000 < n
  · obtain ⟨a, cap, rfl, _, _⟩ := h
    generalize l.length = L at *
    have hx : (decide (n < 0) || decide (400000 < n)) = true := by simpa using h0
    by_cases h1 : n < 0
    · go_enter Try.func6, Try.ntmps6
      go_wp2_with fail
      refine (fixed_any w).mono ?_
      rintro e w1 ⟨rfl, b1⟩
      have C := new_bad w1 n h0
      clear h0 hx
      go_wp2_with (go_at_call 20; refine C.mono ?_; rintro e w' ⟨rfl, rfl⟩)
      go_ret
      exact ⟨rfl, b1⟩
    · have h2 : 400000 < n := by omega
      go_enter Try.func6, Try.ntmps6
      go_wp2_with fail
      refine (fixed_any w).mono ?_
      rintro e w1 ⟨rfl, b1⟩
      have C := new_bad w1 n h0
      clear h0 hx
      go_wp2_with (go_at_call 20; refine C.mono ?_; rintro e w' ⟨rfl, rfl⟩)
      go_ret
      exact ⟨rfl, b1⟩
  · have h1 : 0 ≤ n := by omega
    have h2 : n ≤ 400000 := by omega
    have HI : Hid (∀ k, Inv (spL n l k) (stL n l k)) := fun k => inv_L n l h1 h2 k
    have HLM : Hid (∀ k, (stL n l k).lim = n) := fun k => lim_L n l k
    have HS : Hid (∀ k, stL n l (k + 1) = op4 (stL n l k) (l.getD k (0, 0)).1 (l.getD k (0, 0)).2) := fun k => rfl
    have HSP : Hid (∀ k, spL n l (k + 1) = opSp (spL n l k) (stL n l k) (l.getD k (0, 0)).1 (l.getD k (0, 0)).2) := fun k => rfl
    obtain ⟨a, cap, rfl, hcap, h⟩ := h
    have HC : Hid _ := h
    have HL : Hid (l ≠ [] ↔ 0 < l.length) := by
      show _ ↔ _
      cases l <;> simp
    clear h h0 hcap
    obtain ⟨L, hL⟩ : ∃ L, l.length = L := ⟨_, rfl⟩
    rw [hL] at HC HL ⊢
    clear hL
    go_enter Try.func6, Try.ntmps6
    go_wp2_with fail
    refine (fixed_any w).mono ?_
    rintro e w1 ⟨rfl, b1⟩
    go_wp2_with fail
    refine (new_walk w1 n h1 h2).mono ?_
    rintro e w2 ⟨rfl, rfl⟩
    have hp2 := new_hp w1 n (fun g => g < w1.heap.size) (fun g q => q)
    have k2 : Keep (fun g => g < w1.heap.size) w1 ((w1.alloc (.map #[] 0)).alloc (.cells #[.int .i64 n, .int .i64 0, .int .i64 0, .slice none 0 0, .map (some w1.heap.size)] 70)) := ((Keep.refl _ w1).alloc _).alloc _
    obtain ⟨W, hW⟩ : ∃ W, W = (w1.alloc (.map #[] 0)).alloc (.cells #[.int .i64 n, .int .i64 0, .int .i64 0, .slice none 0 0, .map (some w1.heap.size)] 70) := ⟨_, rfl⟩
    rw [← hW] at hp2 k2 ⊢
    obtain ⟨S, hS⟩ : ∃ S, w1.heap.size + 1 = S := ⟨_, rfl⟩
    rw [hS] at hp2 ⊢
    have HP : Hid (∃ vb, Hp (fun g => g < w1.heap.size) W S w1.heap.size 0 vb (stL n l 0)) := ⟨_, hp2⟩
    have hw : Below w1.heap.size w1 W := k2.below (Nat.le_refl _) (fun g q => q)
    have HC1 : Hid (∀ wr k, Below w1.heap.size w1 wr → k < L → ∃ g off, a = some ⟨g, off, none⟩ ∧ wr.cell? ⟨g, off + k * 2, none⟩ = some (.int .i64 (l.getD k (0, 0)).1) ∧ wr.cell? ⟨g, off + k * 2 + 1, none⟩ = some (.int .i64 (l.getD k (0, 0)).2) ∧ g < w1.heap.size) := fun wr k hb hk => by
      obtain ⟨g, off, e, hg, hc⟩ := HC.out (HL.out.2 (by omega))
      obtain ⟨q0, q1⟩ := hc k hk
      have hg1 : g < w1.heap.size := Nat.lt_of_lt_of_le hg b1.size
      refine ⟨g, off, e, ?_, ?_, hg1⟩
      · rw [hb.cell (by exact hg1), b1.cell (by exact hg)]; exact q0
      · rw [hb.cell (by exact hg1), b1.cell (by exact hg)]; exact q1
    clear hW hS hp2 k2 HC HL
    go_wp2_with fail
    go_loopw [9, 10] (fun u i wr => ∃ k : Nat, i = .int .i64 k ∧ k ≤ L ∧ k ≤ 300 ∧ ∃ z : Int, u = .int .i64 z ∧ Hid (∃ vb, Hp (fun g => g < w1.heap.size) wr S w1.heap.size k vb (stL n l k)) ∧ Hid (z = spL n l k) ∧ Below w1.heap.size w1 wr) (fun _ i _ => 300 - (intOf i).toNat)
    case atStart => exact ⟨0, rfl, by omega, by omega, 0, rfl, HP, rfl, hw⟩
    case round =>
      obtain ⟨k, rfl, hk, hk3, z, rfl, HP2, HZ, hb⟩ := hrel
      obtain ⟨vb, hp⟩ := HP2.out
      have hbs := hb.size
      by_cases hlt : k < L ∧ k < 300
      · obtain ⟨hlt, hlt3⟩ := hlt
        have hlt' : (k : Int) < (L : Int) := by omega
        have hlt3' : (k : Int) < 300 := by omega
        obtain ⟨g, off, rfl, d0, d1, hg⟩ := HC1.out wr k hb hlt
        obtain ⟨x, hx⟩ : ∃ x, (l.getD k (0, 0)).1 = x := ⟨_, rfl⟩
        obtain ⟨y, hy⟩ : ∃ y, (l.getD k (0, 0)).2 = y := ⟨_, rfl⟩
        have hs := HS.out k
        have hsp := HSP.out k
        rw [hx, hy] at hs hsp
        rw [hx] at d0
        rw [hy] at d1
        have hiv := HI.out k
        obtain ⟨t1, t2, t3, t4, t5, t6⟩ := (HI.out (k + 1)).asks
        obtain ⟨r1, r2, r3, r4, r5, r6⟩ := (HI.out k).asks
        rw [HLM.out] at t2 t5 r2 r5
        have hz := HZ.out
        clear HC1 HP HP2 hx hy HS HSP HI HLM hw
        by_cases hx1 : x = 1
        · subst hx1
          rw [op4_take] at hs
          have C := take_any hp (by omega) hiv.ok y
          have HZ2 : Hid (z = spL n l (k + 1)) := by rw [hsp]; unfold opSp; rw [if_neg (by omega)]; exact hz
          rw [← HZ2.out] at t1 t3 t4
          rw [← hz] at r1 r3
          clear hsp hz HZ hiv hp
          have HS2 : Hid _ := hs
          clear hs
          go_wp2_with fail
          refine C.mono ?_
          rintro e w3 ⟨rfl, ⟨vb3, hp3⟩, k3⟩
          rw [← HS2.out] at hp3
          have T4 := live_any w3 S _ hp3.c1
          have T5 := laid_any w3 S _ hp3.c2
          have b3 : Below w1.heap.size w1 w3 := hb.trans (k3.below hbs (fun g q => q))
          have HP3 : Hid (∃ vb, Hp (fun g => g < w1.heap.size) w3 S w1.heap.size (k + 1) vb (stL n l (k + 1))) := ⟨_, hp3⟩
          have e0 : w3.cell? ⟨g, off + k * 2, none⟩ = some (.int .i64 _) := (World.cell?_of_block (k3.block g (Nat.lt_of_lt_of_le hg hbs) hg)).trans d0
          have e1 : w3.cell? ⟨g, off + k * 2 + 1, none⟩ = some (.int .i64 y) := (World.cell?_of_block (k3.block g (Nat.lt_of_lt_of_le hg hbs) hg)).trans d1
          clear C hp3 k3 hb HS2 d0 d1
          generalize (stL n l (k + 1)).live = lv at *
          generalize (stL n l (k + 1)).laid = ld at *
          go_wp2_with (first | (go_at_call 21; refine T4.mono ?_; rintro e w' ⟨rfl, rfl⟩) | (go_at_call 22; refine T5.mono ?_; rintro e w' ⟨rfl, rfl⟩))
          go_roundw
          case rel => exact ⟨k + 1, by go_num, by omega, by omega, _, rfl, HP3, HZ2, b3⟩
          case measure => simp [intOf]; omega
        · by_cases hx2 : x = 2
          · subst hx2
            rw [op4_give] at hs
            have C := give_any hp (by omega) hiv y
            have HZ2 : Hid (z = spL n l (k + 1)) := by rw [hsp]; unfold opSp; rw [if_neg (by omega)]; exact hz
            rw [← HZ2.out] at t1 t3 t4
            rw [← hz] at r1 r3
            clear hsp hz HZ hiv hp
            have HS2 : Hid _ := hs
            clear hs
            go_wp2_with fail
            refine C.mono ?_
            rintro e w3 ⟨rfl, ⟨vb3, hp3⟩, k3⟩
            rw [← HS2.out] at hp3
            have T4 := live_any w3 S _ hp3.c1
            have T5 := laid_any w3 S _ hp3.c2
            have b3 : Below w1.heap.size w1 w3 := hb.trans (k3.below hbs (fun g q => q))
            have HP3 : Hid (∃ vb, Hp (fun g => g < w1.heap.size) w3 S w1.heap.size (k + 1) vb (stL n l (k + 1))) := ⟨_, hp3⟩
            have e0 : w3.cell? ⟨g, off + k * 2, none⟩ = some (.int .i64 _) := (World.cell?_of_block (k3.block g (Nat.lt_of_lt_of_le hg hbs) hg)).trans d0
            have e1 : w3.cell? ⟨g, off + k * 2 + 1, none⟩ = some (.int .i64 y) := (World.cell?_of_block (k3.block g (Nat.lt_of_lt_of_le hg hbs) hg)).trans d1
            clear C hp3 k3 hb HS2 d0 d1
            generalize (stL n l (k + 1)).live = lv at *
            generalize (stL n l (k + 1)).laid = ld at *
            go_wp2_with (first | (go_at_call 21; refine T4.mono ?_; rintro e w' ⟨rfl, rfl⟩) | (go_at_call 22; refine T5.mono ?_; rintro e w' ⟨rfl, rfl⟩))
            go_roundw
            case rel => exact ⟨k + 1, by go_num, by omega, by omega, _, rfl, HP3, HZ2, b3⟩
            case measure => simp [intOf]; omega
          · by_cases hx3 : x = 3
            · subst hx3
              by_cases hE : takeE (stL n l k) y = 0
              · have HY : 0 ≤ y ∧ y ≤ 400000 := by
                  unfold takeE at hE
                  by_cases q1 : y < 0
                  · rw [if_pos q1] at hE; omega
                  · rw [if_neg q1] at hE
                    by_cases q2 : (stL n l k).lim - (stL n l k).live < y
                    · rw [if_pos q2] at hE; omega
                    · have := hiv.l2; have := hiv.ok.l0; omega
                rw [op4_spend] at hs
                have C := spend_any hp hiv.ok y
                rw [hE] at C
                have HZ2 : Hid (z + y = spL n l (k + 1)) := (show z + y = spL n l (k + 1) by rw [hsp]; unfold opSp; rw [if_pos rfl, if_pos hE, hz])
                have hys : 0 ≤ y ∧ y ≤ 400000 := HY
                obtain ⟨hy0, hy1⟩ := hys
                rw [← HZ2.out] at t1 t3 t4
                rw [← hz] at r1 r3
                clear hsp hz HZ hiv hp
                have HS2 : Hid _ := hs
                clear hs
                go_wp2_with fail
                refine C.mono ?_
                rintro e w3 ⟨rfl, hp3', k3⟩
                have hp3 := hp3'.more (Nat.le_succ k)
                clear hp3'
                rw [← HS2.out] at hp3
                have T4 := live_any w3 S _ hp3.c1
                have T5 := laid_any w3 S _ hp3.c2
                have b3 : Below w1.heap.size w1 w3 := hb.trans (k3.below hbs (fun g q => q))
                have HP3 : Hid (∃ vb, Hp (fun g => g < w1.heap.size) w3 S w1.heap.size (k + 1) vb (stL n l (k + 1))) := ⟨_, hp3⟩
                have e0 : w3.cell? ⟨g, off + k * 2, none⟩ = some (.int .i64 _) := (World.cell?_of_block (k3.block g (Nat.lt_of_lt_of_le hg hbs) hg)).trans d0
                have e1 : w3.cell? ⟨g, off + k * 2 + 1, none⟩ = some (.int .i64 y) := (World.cell?_of_block (k3.block g (Nat.lt_of_lt_of_le hg hbs) hg)).trans d1
                clear C hp3 k3 hb HS2 d0 d1
                generalize (stL n l (k + 1)).live = lv at *
                generalize (stL n l (k + 1)).laid = ld at *
                go_wp2_with (first | (go_at_call 21; refine T4.mono ?_; rintro e w' ⟨rfl, rfl⟩) | (go_at_call 22; refine T5.mono ?_; rintro e w' ⟨rfl, rfl⟩))
                go_roundw
                case rel => exact ⟨k + 1, by go_num, by omega, by omega, _, rfl, HP3, HZ2, b3⟩
                case measure => simp [intOf]; omega
              · skip
                rw [op4_spend] at hs
                have C := spend_any hp hiv.ok y
                have HZ2 : Hid (z = spL n l (k + 1)) := by rw [hsp]; unfold opSp; rw [if_pos rfl, if_neg hE]; exact hz
                have hE' : (takeE (stL n l k) y == 0) = false := by simpa using hE
                rw [← HZ2.out] at t1 t3 t4
                rw [← hz] at r1 r3
                clear hsp hz HZ hiv hp
                generalize takeE (stL n l k) y = E at *
                have HS2 : Hid _ := hs
                clear hs
                go_wp2_with fail
                refine C.mono ?_
                rintro e w3 ⟨rfl, hp3', k3⟩
                have hp3 := hp3'.more (Nat.le_succ k)
                clear hp3'
                rw [← HS2.out] at hp3
                have T4 := live_any w3 S _ hp3.c1
                have T5 := laid_any w3 S _ hp3.c2
                have b3 : Below w1.heap.size w1 w3 := hb.trans (k3.below hbs (fun g q => q))
                have HP3 : Hid (∃ vb, Hp (fun g => g < w1.heap.size) w3 S w1.heap.size (k + 1) vb (stL n l (k + 1))) := ⟨_, hp3⟩
                have e0 : w3.cell? ⟨g, off + k * 2, none⟩ = some (.int .i64 _) := (World.cell?_of_block (k3.block g (Nat.lt_of_lt_of_le hg hbs) hg)).trans d0
                have e1 : w3.cell? ⟨g, off + k * 2 + 1, none⟩ = some (.int .i64 y) := (World.cell?_of_block (k3.block g (Nat.lt_of_lt_of_le hg hbs) hg)).trans d1
                clear C hp3 k3 hb HS2 d0 d1
                generalize (stL n l (k + 1)).live = lv at *
                generalize (stL n l (k + 1)).laid = ld at *
                go_wp2_with (first | (go_at_call 21; refine T4.mono ?_; rintro e w' ⟨rfl, rfl⟩) | (go_at_call 22; refine T5.mono ?_; rintro e w' ⟨rfl, rfl⟩))
                go_roundw
                case rel => exact ⟨k + 1, by go_num, by omega, by omega, _, rfl, HP3, HZ2, b3⟩
                case measure => simp [intOf]; omega
            · skip
              rw [op4_none _ _ _ (by omega)] at hs
              have HZ2 : Hid (z = spL n l (k + 1)) := by rw [hsp]; unfold opSp; rw [if_neg (by omega)]; exact hz
              rw [← HZ2.out] at t1 t3 t4
              clear hsp hz HZ hiv
              rw [← hs] at hp
              have T4 := live_any wr S _ hp.c1
              have T5 := laid_any wr S _ hp.c2
              have HP3 : Hid (∃ vb, Hp (fun g => g < w1.heap.size) wr S w1.heap.size (k + 1) vb (stL n l (k + 1))) := ⟨_, hp.more (Nat.le_succ _)⟩
              have x1 : (x == 1) = false := by simp; omega
              have x2 : (x == 2) = false := by simp; omega
              have x3 : (x == 3) = false := by simp; omega
              clear hp hs r1 r2 r3 r4 r5 r6
              generalize (stL n l (k + 1)).live = lv at *
              generalize (stL n l (k + 1)).laid = ld at *
              go_wp2_with (first | (go_at_call 21; refine T4.mono ?_; rintro e w' ⟨rfl, rfl⟩) | (go_at_call 22; refine T5.mono ?_; rintro e w' ⟨rfl, rfl⟩))
              go_roundw
              case rel => exact ⟨k + 1, by go_num, by omega, by omega, _, rfl, HP3, HZ2, hb⟩
              case measure => simp [intOf]; omega
      · have C1 := live_any wr S _ hp.c1
        have C2 := blocks_any hp (by omega)
        have iv := HI.out k
        have hlim := HLM.out k
        have hp0 := hp
        have hbl := hp.len
        clear HC1 HP HP2 HS HSP HI HLM hw HZ hp
        generalize stL n l k = s at *
        by_cases hq1 : k < L
        · have hlt' : (k : Int) < (L : Int) := by omega
          have hlt3' : ¬ (k : Int) < 300 := by omega
          clear hlt
          go_wp2_with fail
          refine C1.mono ?_
          rintro e w' ⟨rfl, rfl⟩
          go_wp2_with fail
          refine C2.mono ?_
          rintro e w4 ⟨v4, rfl, o4, b4⟩
          have HO4 : Hid (w4.ownsRow w'.heap.size 3 1 v4 (tids s.bl s.bl.length).length ((tids s.bl s.bl.length).map (Value.int .i64))) := o4
          have hp4 : Hp (fun g => g < w1.heap.size ∨ v4.ownBlock = some g) w4 S w1.heap.size k vb s := hp0.grow (below_grown b4) (fun g e => by cases e) (fun g q => q.imp id (fun q => o4.lt g q))
          have T1 := take_any hp4 (by omega) iv.ok q
          have bb4 : Below w1.heap.size w1 w4 := bthen hb hb.size b4
          have hs4 := bb4.size
          clear C1 C2 hp0 hp4 o4 b4 hb
          go_wp2_with fail
          refine T1.mono ?_
          rintro e w5 ⟨rfl, ⟨vb5, hp5⟩, k5⟩
          clear T1
          have T2 := live_any w5 S _ hp5.c1
          have bb5 : Below w1.heap.size w1 w5 := bb4.trans (k5.below hs4 (fun g q => .inl q))
          have b9 := bthen b1 b1.size bb5
          by_cases hE : takeE s q = 0
          · have hq : 0 ≤ q ∧ q ≤ s.lim - s.live := by
              unfold takeE at hE
              by_cases q1 : q < 0
              · rw [if_pos q1] at hE; omega
              · rw [if_neg q1] at hE
                by_cases q2 : s.lim - s.live < q
                · rw [if_pos q2] at hE; omega
                · omega
            have lp := lives_pure iv q hq.1 hq.2
            have iv1 := iv.take q
            have T3 := laid_any w5 S _ hp5.c2
            have T4 := give_any hp5 (by omega) iv1 (takeId s q)
            rw [lp.live1] at T2
            rw [lp.e2] at T4
            rw [hE]
            have HL : Hid _ := lp
            obtain ⟨hq0, hq1⟩ := hq
            rw [hlim] at hq1
            have hl0 := iv.ok.l0
            have hl1 := iv.ok.l1
            rw [hlim] at hl1
            have HV : Hid _ := iv1
            have HV0 : Hid _ := iv
            clear lp hE hp5 iv1 iv hlim
            generalize hI : takeId s q = I at *
            have HI2 : Hid _ := hI
            clear hI
            generalize hD : (takeSt s q).laid = D at *
            have HD : Hid _ := hD
            clear hD
            generalize hlv : s.live = lv at *
            have HLV : Hid _ := hlv
            clear hlv
            go_wp2_with (first | (go_at_call 21; refine T2.mono ?_; rintro e w' ⟨rfl, rfl⟩) | (go_at_call 22; refine T3.mono ?_; rintro e w' ⟨rfl, rfl⟩))
            refine T4.mono ?_
            rintro e w6 ⟨rfl, ⟨vb6, hp6⟩, k6⟩
            clear T2 T3 T4
            have T5 := live_any w6 S _ hp6.c1
            have T6 := blocks_any hp6 (by omega)
            have lp := HL.out
            have l2 := lp.live2
            have l4 := lp.bl
            rw [HI2.out] at l2 l4
            rw [l2, HLV.out] at T5
            rw [l4] at T6
            have HP6 : Hid _ := hp6
            have hs5 := bb5.size
            have bb6 : Below w1.heap.size w1 w6 := bb5.trans (k6.below hs5 (fun g q => .inl q))
            clear lp l2 l4 hp6
            go_wp2_with fail
            refine T5.mono ?_
            rintro e w' ⟨rfl, rfl⟩
            go_wp2_with fail
            refine T6.mono ?_
            rintro e w7 ⟨v7, rfl, o7, b7⟩
            have o4' := own_keep (w' := w7) HO4.out (fun g e => by
              have lg := (World.ownsRow.lt HO4.out g e).2
              have lg5 := k5.size
              have lg6 := k6.size
              rw [b7.block g (by omega), k6.block g (by omega) (.inr e), k5.block g lg (.inr e)])
            have lp3 := tids_len s.bl s.bl.length
            have T7 := same_walk (tids s.bl s.bl.length) (tids s.bl s.bl.length) v7 v4 w7 (ints_own o7) (ints_own o4') rfl (by omega)
            rw [decide_eq_true rfl] at T7
            have bb7 := bthen bb6 bb6.size b7
            have hp7 := Hp.below HP6.out b7
            clear T5 T6 o4' o7 lp3 HP6 b7 k5 k6
            go_wp2_with fail
            refine T7.mono ?_
            rintro e w8 ⟨rfl, b8⟩
            clear T7
            have bb8 := bthen bb7 bb7.size b8
            have hs8 := bb8.size
            have hp8 := hp7.below b8
            have lp := HL.out
            have x3 := lp.e3
            have x4 := lp.id3
            have x5 := lp.laid3
            have x6 := lp.live3
            rw [HI2.out] at x3 x4 x5 x6
            have T8 := take_any hp8 (by omega) (Inv.give HV.out I).ok q
            rw [x3, x4] at T8
            have HX5 : Hid _ := x5
            have HX6 : Hid _ := x6
            clear lp x3 x4 x5 x6 hp8 hp7
            go_wp2_with fail
            refine T8.mono ?_
            rintro e w9 ⟨rfl, ⟨vb9, hp9⟩, k9⟩
            clear T8
            have T9 := live_any w9 S _ hp9.c1
            have T10 := laid_any w9 S _ hp9.c2
            rw [show (takeSt (giveSt (takeSt s q) I) q).live = _ from HX6.out, HLV.out] at T9
            rw [show (takeSt (giveSt (takeSt s q) I) q).laid = _ from HX5.out, HD.out] at T10
            have bb9 : Below w1.heap.size w1 w9 := bb8.trans (k9.below hs8 (fun g q => .inl q))
            have b10 := bthen b1 b1.size bb9
            clear hp9 k9 HX5 HX6 HL
            go_wp2_with (first | (go_at_call 21; refine T9.mono ?_; rintro e w' ⟨rfl, rfl⟩) | (go_at_call 22; refine T10.mono ?_; rintro e w' ⟨rfl, rfl⟩))
            go_ret
            exact ⟨rfl, b10⟩
          · have hE' : (takeE s q == 0) = false := by simpa using hE
            have e0 : takeSt s q = s := by
              unfold takeSt
              unfold takeE at hE
              by_cases q1 : q < 0
              · rw [if_pos q1]
              · rw [if_neg q1] at hE ⊢
                by_cases q2 : s.lim - s.live < q
                · rw [if_pos q2]
                · rw [if_neg q2] at hE; exact absurd rfl hE
            have hq : q < 0 ∨ n - s.live < q := by
              unfold takeE at hE
              by_cases q1 : q < 0
              · exact .inl q1
              · rw [if_neg q1] at hE
                by_cases q2 : s.lim - s.live < q
                · right; rw [← hlim]; exact q2
                · rw [if_neg q2] at hE; exact absurd rfl hE
            rw [e0] at T2
            have hl0 := iv.ok.l0
            have hl1 := iv.ok.l1
            rw [hlim] at hl1
            clear hp5 e0 iv hlim k5
            generalize takeE s q = E at *
            generalize takeId s q = I at *
            generalize s.live = lv at *
            rcases hq with hq | hq
            · go_wp2_with (go_at_call 21; refine T2.mono ?_; rintro e w' ⟨rfl, rfl⟩)
              go_ret
              exact ⟨rfl, b9⟩
            · have hq0 : ¬ q < 0 := by omega
              go_wp2_with (go_at_call 21; refine T2.mono ?_; rintro e w' ⟨rfl, rfl⟩)
              go_ret
              exact ⟨rfl, b9⟩
        · have hlt' : ¬ (k : Int) < (L : Int) := by omega
          clear hlt
          go_wp2_with fail
          refine C1.mono ?_
          rintro e w' ⟨rfl, rfl⟩
          go_wp2_with fail
          refine C2.mono ?_
          rintro e w4 ⟨v4, rfl, o4, b4⟩
          have HO4 : Hid (w4.ownsRow w'.heap.size 3 1 v4 (tids s.bl s.bl.length).length ((tids s.bl s.bl.length).map (Value.int .i64))) := o4
          have hp4 : Hp (fun g => g < w1.heap.size ∨ v4.ownBlock = some g) w4 S w1.heap.size k vb s := hp0.grow (below_grown b4) (fun g e => by cases e) (fun g q => q.imp id (fun q => o4.lt g q))
          have T1 := take_any hp4 (by omega) iv.ok q
          have bb4 : Below w1.heap.size w1 w4 := bthen hb hb.size b4
          have hs4 := bb4.size
          clear C1 C2 hp0 hp4 o4 b4 hb
          go_wp2_with fail
          refine T1.mono ?_
          rintro e w5 ⟨rfl, ⟨vb5, hp5⟩, k5⟩
          clear T1
          have T2 := live_any w5 S _ hp5.c1
          have bb5 : Below w1.heap.size w1 w5 := bb4.trans (k5.below hs4 (fun g q => .inl q))
          have b9 := bthen b1 b1.size bb5
          by_cases hE : takeE s q = 0
          · have hq : 0 ≤ q ∧ q ≤ s.lim - s.live := by
              unfold takeE at hE
              by_cases q1 : q < 0
              · rw [if_pos q1] at hE; omega
              · rw [if_neg q1] at hE
                by_cases q2 : s.lim - s.live < q
                · rw [if_pos q2] at hE; omega
                · omega
            have lp := lives_pure iv q hq.1 hq.2
            have iv1 := iv.take q
            have T3 := laid_any w5 S _ hp5.c2
            have T4 := give_any hp5 (by omega) iv1 (takeId s q)
            rw [lp.live1] at T2
            rw [lp.e2] at T4
            rw [hE]
            have HL : Hid _ := lp
            obtain ⟨hq0, hq1⟩ := hq
            rw [hlim] at hq1
            have hl0 := iv.ok.l0
            have hl1 := iv.ok.l1
            rw [hlim] at hl1
            have HV : Hid _ := iv1
            have HV0 : Hid _ := iv
            clear lp hE hp5 iv1 iv hlim
            generalize hI : takeId s q = I at *
            have HI2 : Hid _ := hI
            clear hI
            generalize hD : (takeSt s q).laid = D at *
            have HD : Hid _ := hD
            clear hD
            generalize hlv : s.live = lv at *
            have HLV : Hid _ := hlv
            clear hlv
            go_wp2_with (first | (go_at_call 21; refine T2.mono ?_; rintro e w' ⟨rfl, rfl⟩) | (go_at_call 22; refine T3.mono ?_; rintro e w' ⟨rfl, rfl⟩))
            refine T4.mono ?_
            rintro e w6 ⟨rfl, ⟨vb6, hp6⟩, k6⟩
            clear T2 T3 T4
            have T5 := live_any w6 S _ hp6.c1
            have T6 := blocks_any hp6 (by omega)
            have lp := HL.out
            have l2 := lp.live2
            have l4 := lp.bl
            rw [HI2.out] at l2 l4
            rw [l2, HLV.out] at T5
            rw [l4] at T6
            have HP6 : Hid _ := hp6
            have hs5 := bb5.size
            have bb6 : Below w1.heap.size w1 w6 := bb5.trans (k6.below hs5 (fun g q => .inl q))
            clear lp l2 l4 hp6
            go_wp2_with fail
            refine T5.mono ?_
            rintro e w' ⟨rfl, rfl⟩
            go_wp2_with fail
            refine T6.mono ?_
            rintro e w7 ⟨v7, rfl, o7, b7⟩
            have o4' := own_keep (w' := w7) HO4.out (fun g e => by
              have lg := (World.ownsRow.lt HO4.out g e).2
              have lg5 := k5.size
              have lg6 := k6.size
              rw [b7.block g (by omega), k6.block g (by omega) (.inr e), k5.block g lg (.inr e)])
            have lp3 := tids_len s.bl s.bl.length
            have T7 := same_walk (tids s.bl s.bl.length) (tids s.bl s.bl.length) v7 v4 w7 (ints_own o7) (ints_own o4') rfl (by omega)
            rw [decide_eq_true rfl] at T7
            have bb7 := bthen bb6 bb6.size b7
            have hp7 := Hp.below HP6.out b7
            clear T5 T6 o4' o7 lp3 HP6 b7 k5 k6
            go_wp2_with fail
            refine T7.mono ?_
            rintro e w8 ⟨rfl, b8⟩
            clear T7
            have bb8 := bthen bb7 bb7.size b8
            have hs8 := bb8.size
            have hp8 := hp7.below b8
            have lp := HL.out
            have x3 := lp.e3
            have x4 := lp.id3
            have x5 := lp.laid3
            have x6 := lp.live3
            rw [HI2.out] at x3 x4 x5 x6
            have T8 := take_any hp8 (by omega) (Inv.give HV.out I).ok q
            rw [x3, x4] at T8
            have HX5 : Hid _ := x5
            have HX6 : Hid _ := x6
            clear lp x3 x4 x5 x6 hp8 hp7
            go_wp2_with fail
            refine T8.mono ?_
            rintro e w9 ⟨rfl, ⟨vb9, hp9⟩, k9⟩
            clear T8
            have T9 := live_any w9 S _ hp9.c1
            have T10 := laid_any w9 S _ hp9.c2
            rw [show (takeSt (giveSt (takeSt s q) I) q).live = _ from HX6.out, HLV.out] at T9
            rw [show (takeSt (giveSt (takeSt s q) I) q).laid = _ from HX5.out, HD.out] at T10
            have bb9 : Below w1.heap.size w1 w9 := bb8.trans (k9.below hs8 (fun g q => .inl q))
            have b10 := bthen b1 b1.size bb9
            clear hp9 k9 HX5 HX6 HL
            go_wp2_with (first | (go_at_call 21; refine T9.mono ?_; rintro e w' ⟨rfl, rfl⟩) | (go_at_call 22; refine T10.mono ?_; rintro e w' ⟨rfl, rfl⟩))
            go_ret
            exact ⟨rfl, b10⟩
          · have hE' : (takeE s q == 0) = false := by simpa using hE
            have e0 : takeSt s q = s := by
              unfold takeSt
              unfold takeE at hE
              by_cases q1 : q < 0
              · rw [if_pos q1]
              · rw [if_neg q1] at hE ⊢
                by_cases q2 : s.lim - s.live < q
                · rw [if_pos q2]
                · rw [if_neg q2] at hE; exact absurd rfl hE
            have hq : q < 0 ∨ n - s.live < q := by
              unfold takeE at hE
              by_cases q1 : q < 0
              · exact .inl q1
              · rw [if_neg q1] at hE
                by_cases q2 : s.lim - s.live < q
                · right; rw [← hlim]; exact q2
                · rw [if_neg q2] at hE; exact absurd rfl hE
            rw [e0] at T2
            have hl0 := iv.ok.l0
            have hl1 := iv.ok.l1
            rw [hlim] at hl1
            clear hp5 e0 iv hlim k5
            generalize takeE s q = E at *
            generalize takeId s q = I at *
            generalize s.live = lv at *
            rcases hq with hq | hq
            · go_wp2_with (go_at_call 21; refine T2.mono ?_; rintro e w' ⟨rfl, rfl⟩)
              go_ret
              exact ⟨rfl, b9⟩
            · have hq0 : ¬ q < 0 := by omega
              go_wp2_with (go_at_call 21; refine T2.mono ?_; rintro e w' ⟨rfl, rfl⟩)
              go_ret
              exact ⟨rfl, b9⟩
end Go.Proofs.Yteknjkofmkigoab.H
