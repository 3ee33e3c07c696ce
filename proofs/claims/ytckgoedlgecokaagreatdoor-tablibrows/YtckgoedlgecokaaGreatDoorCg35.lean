/- The walk of TablibRows. -/
import Derived.Test.YtckgoedlgecokaaGreatDoorCg34
import Derived.Test.YtckgoedlgecokaaGreatDoorCg30
namespace Go.Proofs.YtckgoedlgecokaaGreatDoor
open Go.RowKit
theorem tmp_ev {a : Act} {k : Nat} {v : Value} (h : a.tmps.getD k undef = v) : a.eval (.tmp k) = v := h
theorem below_at {N : Nat} {w w' : World} (b : Below N w w') {a : Addr} (ha : N ≤ a.block) (v : Value) : Below N w (w'.setCell a v) :=
  ⟨b.os, b.tape, b.output, by simpa [World.setCell] using b.size, fun g hg => by rw [Below.heap_setCell _ _ _ _ (by omega)]; exact b.block g hg⟩
theorem insL_erase (l : List V) (p : Nat) (v : V) (h : p ≤ l.length) : (insL l p v).eraseIdx p = l := by
  unfold insL
  have e : (l.take p).length = p := by rw [List.length_take]; omega
  rw [List.eraseIdx_append_of_length_le (by omega), e, Nat.sub_self]
  simp
theorem RK.unp {w wx : World} {B T S hb c K : Nat} {l m n : List V} {v u : Value} (h : RK w B T S hb c K l v m u n wx) (hc : c ≤ 400000) (k : Nat) (hk : k ≤ 200) :
    Calls Tryz.prog 15 #[tp T, .int .i64 1, .int .i64 (k : Nat)] wx fun e w' => ∃ ad cp, e = .returned (.tuple #[.slice ad k cp, .int .i64 0]) ∧ Lv w' wx.heap.size (.slice ad k cp) k (fun i => rowf l (1 + i)) ∧ RK w B T S hb (c + 300) K l v m u n w' := by
  obtain ⟨No, h1, h2, h3, h4⟩ := h.tw
  exact (unpack_any h1 hc 1 (k : Nat) k (by omega) hk ⟨by omega, by omega⟩).mono fun e w' ⟨ad, cp, he, hl, hk', No', t3, n1, n2⟩ => ⟨ad, cp, he, hl, ⟨⟨No', t3, fun g q => n1 g (h2 g q), fun g q => n1 g (h3 g q), fun g q => n1 g (h4 g q)⟩, h.lv.keep hk' h3, h.lu.keep hk' h4, h.sp, ⟨h.le.1, Nat.le_trans h.le.2 hk'.size⟩, h.bl.trans (hk'.below h.bl.size h2)⟩⟩
/-- What stands while Rows' list is put together: the table, both lists, the boxes. -/
structure LyP (WB : World) (B0 T S hb c : Nat) (lI : List V) (v1 : Value) (l : List V) (y : V) (LS : Nat → List V) (s : Nat) (B : List (Nat × Array Value)) (v : Value) (w : World) : Prop where
  rk : RK WB B0 T S hb c 200 lI v1 l v (LS s) w
  bx : ∀ g cs, (g, cs) ∈ B → v.ownBlock ≠ some g ∧ Bx w g y
section
variable {WB : World} {B0 T S hb c : Nat} {lI : List V} {v1 : Value} {l : List V} {y : V} {LS : Nat → List V} {s : Nat} {B : List (Nat × Array Value)} {v : Value} {w : World}
theorem LyP.box (h : LyP WB B0 T S hb c lI v1 l y LS s B v w) (cs : Array Value) : LyP WB B0 T S hb c lI v1 l y LS s ((w.heap.size, cs) :: B) v (w.alloc (.cells #[.int .i64 y.1, .int .i64 y.2.1, .string y.2.2] 24)) := by
  refine ⟨h.rk.below (b1 w _), fun g cs' hg => ?_⟩
  rcases List.mem_cons.1 hg with e | e
  · injection e with e1 e2
    subst e1
    exact ⟨fun q => by have := (h.rk.lu.own.lt _ q).2; omega, Bx.made w y⟩
  · exact ⟨(h.bx g cs' e).1, (h.bx g cs' e).2.below (b1 w _)⟩
theorem LyP.app (h : LyP WB B0 T S hb c lI v1 l y LS s B v w) {sv : Value} {ys : List V} (hs : Sv w sv ys) (hn : (LS s).length + ys.length ≤ 1000) (he : LS s ++ ys = LS (s + 1)) :
    ∃ a q w', (Builtin.append_ #[22, 22] 22 #[v, sv]).run Tryz.prog w = .ok (.slice a ((LS s).length + ys.length) q) w' ∧ LyP WB B0 T S hb c lI v1 l y LS (s + 1) B (.slice a ((LS s).length + ys.length) q) w' := by
  obtain ⟨a, q, w', hr, hk, hg, hat⟩ := h.rk.apps2 hs hn
  rw [he] at hk
  refine ⟨a, q, w', hr, hk, fun g cs hgB => ?_⟩
  obtain ⟨h1, h2⟩ := h.bx g cs hgB
  have e := hg.block g h2.lt (fun q => h1 q.symm)
  refine ⟨fun q => ?_, ⟨by rw [World.cell?_of_block e]; exact h2.c0, by rw [World.cell?_of_block e]; exact h2.c1, by rw [World.cell?_of_block e]; exact h2.c2, Nat.lt_of_lt_of_le h2.lt hg.size⟩⟩
  rcases hat with z | z
  · exact h1 (z ▸ q)
  · rw [z] at q
    injection q with q
    have := h2.lt
    omega
end
set_option maxRecDepth 20000 in
set_option maxHeartbeats 8000000 in
theorem rows_walk {w : World} {av : Option Addr} {cv L : Nat} {F : Nat → V} (hv : Vin w av L F) (hL : L ≤ 9223372036854775807) (x : V) (k : Int) :
    Calls Tryz.prog 3 #[.slice av L cv, vl x.1 x.2.1 x.2.2, .int .i64 k] w fun e w' => e = .returned (.bool true) ∧ Below w.heap.size w w' := by
  have B0 := b1 w (vb x.1 x.2.1 x.2.2)
  have R0 := R3.made w x
  obtain ⟨W0, hW0⟩ : ∃ W0, w.alloc (vb x.1 x.2.1 x.2.2) = W0 := ⟨_, rfl⟩
  rw [hW0] at B0 R0
  have CF := fixed_any W0
  have HV : Hid (Vin W0 av L F ∧ Below w.heap.size w W0 ∧ R3 W0 w.heap.size x) := ⟨hv.below B0, B0, R0⟩
  unfold vb at hW0
  clear hv B0 R0
  go_enter Tryz.func3, Tryz.ntmps3
  go_wp2_with fail
  refine CF.mono ?_
  rintro e w1 ⟨rfl, b1⟩
  have C1 := row_walk (cap := cv) (HV.out.1.below b1) hL
  have HB1 : Hid (Below W0.heap.size W0 w1) := b1
  clear CF b1
  go_wp2_with fail
  refine C1.mono ?_
  rintro e w2 ⟨T, v, rfl, R1⟩
  have RR := RJ.of R1 HB1.out
  obtain ⟨l, hl⟩ : ∃ l, rwq F L = l := ⟨_, rfl⟩
  have HG : Hid (Gl l ∧ l.length ≤ 100) := ⟨by rw [← hl]; exact rwq_gl F L, by rw [← hl]; exact rwq_len F L⟩
  rw [hl] at RR
  obtain ⟨n, hn⟩ : ∃ n, l.length = n := ⟨_, rfl⟩
  have HN : Hid (l.length = n) := hn
  have hn100 : n ≤ 100 := by rw [← hn]; exact HG.out.2
  obtain ⟨a1, q1, rfl⟩ := RR.form
  rw [hn] at RR ⊢
  have HR : Hid (RJ W0 T (w1.heap.size + 1) w1.heap.size (10 + 137 * n) 200 l (.slice a1 n q1) l w2) := RR
  have C2 := HR.out.run fun No hq t => is_row (l := l) t HG.out.1 (by omega) (by rw [HN.out]; omega) W0.heap.size a1 q1 (by rw [HN.out]; have := HR.out.lv; rw [HN.out] at this; exact this) (fun y e => hq y (by rw [HN.out] at e; exact e))
  rw [HN.out] at C2
  clear C1 R1 RR hl hn HB1 HR
  go_wp2_with fail
  refine C2.mono ?_
  rintro e w3 ⟨rfl, R3'⟩
  have HR3 : Hid (RJ W0 T (w1.heap.size + 1) w1.heap.size (10 + 137 * n + n + 300) 200 l (.slice a1 n q1) l w3 ∧ R3 w3 w.heap.size x) := ⟨R3', HV.out.2.2.below R3'.bl⟩
  clear C2 R3'
  have x0 := HR3.out.2.bx.c0
  have x1 := HR3.out.2.bx.c1
  have x2 := HR3.out.2.bx.c2
  have C := rcheck_any x.1 x.2.1 x.2.2 w3
  have HR4 : Hid (RJ W0 T (w1.heap.size + 1) w1.heap.size (10 + 137 * n + n + 300) 200 l (.slice a1 n q1) l (w3.alloc (vb x.1 x.2.1 x.2.2)) ∧ R3 (w3.alloc (vb x.1 x.2.1 x.2.2)) w.heap.size x) := ⟨HR3.out.1.below (Go.Proofs.YtckgoedlgecokaaGreatDoor.b1 _ _), HR3.out.2.below (Go.Proofs.YtckgoedlgecokaaGreatDoor.b1 _ _)⟩
  have y0 := HR4.out.2.bx.c0
  have y1 := HR4.out.2.bx.c1
  have y2 := HR4.out.2.bx.c2
  have yf := HR4.out.2.fz
  unfold vl at C
  unfold vb at C HR4 y0 y1 y2 yf
  clear HR3
  by_cases hgv : Gv x
  · have hch : chk x.1 x.2.1 x.2.2 = 0 := (chk_fm x).2 hgv.1
    rw [hch] at C
    have h0 : (x.1 == 0) = false := by simpa using hgv.2
    have h0' : ¬ x.1 = 0 := hgv.2
    obtain ⟨y, rfl⟩ : ∃ y, y = x := ⟨_, rfl⟩
    have hy : Gv y := hgv
    have HI : Hid (Below w.heap.size w W0 ∧ w.heap.size < W0.heap.size ∧ Bx W0 w.heap.size y ∧ RJ W0 T (w1.heap.size + 1) w1.heap.size (10 + 137 * n + n + 300) 200 l (.slice a1 n q1) l (w3.alloc (.cells #[.int .i64 y.1, .int .i64 y.2.1, .string y.2.2] 24))) := ⟨HV.out.2.1, HV.out.2.2.bx.lt, HV.out.2.2.bx, HR4.out.1⟩
    obtain ⟨W5, hW5⟩ : ∃ W5, w3.alloc (.cells #[.int .i64 y.1, .int .i64 y.2.1, .string y.2.2] 24) = W5 := ⟨_, rfl⟩
    rw [hW5] at HI
    obtain ⟨WB, hWB⟩ : ∃ WB, W0 = WB := ⟨_, rfl⟩
    rw [hWB] at HI
    clear HR4 HV hch y0 y1 y2
    go_wp2_with fail
    refine C.mono ?_
    rintro e w4 ⟨rfl, hw4⟩
    rw [hW5] at hw4
    obtain rfl : W5 = w4 := hw4.symm
    clear C x0 x1 x2 yf hWB hW5
    have wn1 : IntKind.i64.wrap ((n : Int) + 1) = (n : Int) + 1 := by rw [IntKind.wrap_i64]; omega
    have n0 : ¬ (n : Int) + 1 = 0 := by omega
    have hn1000 : n ≤ 1000 := by omega
    have hfu : ∀ r : Nat, (l.length : Int) - (r : Int) ≤ 1000 := fun r => by have := HN.out; omega
    have hlk : l.length < 200 := by rw [HN.out]; omega
    have hc4 : 10 + 137 * n + n + 300 ≤ 400000 := by omega
    have y0 := (HI.out.2.2.1.below HI.out.2.2.2.bl).c0
    have y1 := (HI.out.2.2.1.below HI.out.2.2.2.bl).c1
    have y2 := (HI.out.2.2.1.below HI.out.2.2.2.bl).c2
    obtain ⟨U, r, hU, u1, u2, u3, u4, u5, u6, hr⟩ := pos1_facts k n hn1000
    clear hn1000
    have C3 := HI.out.2.2.2.run fun No hq t => insert_ok (l := l) t HG.out.1 hc4 hlk (by decide) r (by rw [HN.out]; exact hr) y hy 1000 (hfu r) (by decide)
    rw [HN.out] at C3
    go_wp2_with fail
    refine C3.mono ?_
    rintro e w6 ⟨rfl, R6⟩
    clear C3 hfu hlk hc4 u1 u2 u3 u4 u5 u6 hU y0 y1 y2
    have wr1 : IntKind.i64.wrap ((r : Int) + 1 - 1) = (r : Int) := by rw [IntKind.wrap_i64]; omega
    have ur : IntKind.i64.wrap (r : Int) = (r : Int) := by rw [IntKind.wrap_i64]; omega
    have hrn : r ≤ l.length := by rw [HN.out]; exact hr
    have hcap := R6.cap
    have hs1 := slice_to a1 (q := q1) (n := n) (r := r) hr (by rw [← HN.out]; exact hcap)
    obtain ⟨a2, q2, hs2, hsv⟩ := slice_from (m := l) (a := a1) (n := n) (q := q1) hcap HN.out hr
    have K0 : RK WB w6.heap.size T (w1.heap.size + 1) w1.heap.size (10 + 137 * n + n + 300 + 9000) 200 (insL l r y) (.slice a1 n q1) l (.slice none 0 0) [] w6.drew := RK.of R6.drew rfl
    obtain ⟨LS, hLS⟩ : ∃ LS : Nat → List V, LS = fun s => if s = 0 then [] else if s = 1 then l.take r else if s = 2 then l.take r ++ [y] else insL l r y := ⟨_, rfl⟩
    have HLE : Hid ((LS 0).length + (l.take r).length ≤ 1000 ∧ LS 0 ++ l.take r = LS 1 ∧ (LS 1).length + [y].length ≤ 1000 ∧ LS 1 ++ [y] = LS 2 ∧ (LS 2).length + (l.drop r).length ≤ 1000 ∧ LS 2 ++ l.drop r = LS 3) := by
      have := HN.out
      subst hLS
      refine ⟨?_, rfl, ?_, rfl, ?_, ?_⟩
      · show 0 + (l.take r).length ≤ 1000
        rw [List.length_take]; omega
      · show (l.take r).length + 1 ≤ 1000
        rw [List.length_take]; omega
      · show (l.take r ++ [y]).length + (l.drop r).length ≤ 1000
        rw [List.length_append, List.length_take, List.length_drop, List.length_singleton]; omega
      · show l.take r ++ [y] ++ l.drop r = insL l r y
        unfold insL
        rw [List.append_assoc]; rfl
    have HRN : Hid (r ≤ l.length) := hrn
    have HSV : Hid (∀ (W : World) (B : Nat), Lv W B (.slice a1 n q1) l.length (fun i => l.getD i nil) → Sv W (.slice a2 (n - r) q2) (l.drop r)) := hsv
    have HBX : Hid (Bx WB w.heap.size y) := HI.out.2.2.1
    have HL3 : Hid (LS 3 = insL l r y ∧ LS 4 = insL l r y ∧ LS 0 = []) := by subst hLS; exact ⟨rfl, rfl, rfl⟩
    clear R6 hsv hLS
    go_wp2_with fail
    refine wp_region_any (by kernel_rfl) ?_
    refine wpAny_inv (fun l' a w' => Ir 15 131 [4, 8, 10] (fun x => if x = 4 then .pointer (some ⟨w.heap.size, 0, none⟩) else if x = 8 then (.slice a1 n q1) else (.int .i64 ((r : Int) + 1))) [(0, 57), (1, 58), (2, 59), (3, 60), (4, 61), (6, 63), (9, 66), (10, 67), (11, 68), (12, 69)] (fun i => if i = 0 then (.slice none 0 0) else if i = 1 then (.slice a1 n q1) else if i = 2 then (.int .i64 ((r : Int) + 1)) else if i = 3 then (.int .i64 (r : Nat)) else if i = 4 then (.slice a1 r q1) else if i = 6 then (.agg #[.int .i64 y.1, .int .i64 y.2.1, .string y.2.2]) else if i = 9 then (.slice a1 n q1) else if i = 10 then (.int .i64 ((r : Int) + 1)) else if i = 11 then (.int .i64 (r : Nat)) else if i = 12 then (.slice a2 (n - r) q2) else undef) [(7, 64)] (fun _ => #[.int .i64 y.1, .int .i64 y.2.1, .string y.2.2]) [(5, 62), (8, 65), (13, 70), (14, 13)] (.slice none 0 0) (fun s B v w' => LyP WB w6.heap.size T (w1.heap.size + 1) w1.heap.size (10 + 137 * n + n + 300 + 9000) (insL l r y) (.slice a1 n q1) l y LS s B v w') l' a w' ∧ Ex [13, 57, 58, 59, 60, 61, 62, 63, 64, 65, 66, 67, 68, 69, 70] _ l' a) (by intro l a w h; exact h.1.sz) ?hs ?hd _ _ _ _ (by decide) ⟨Ir.start rfl rfl (by intro x hx; simp at hx; rcases hx with rfl | rfl | rfl <;> rfl) ⟨by rw [HL3.out.2.2]; exact K0, fun g cs hg => by cases hg⟩, Ex.start rfl⟩
    case hs =>
      clear K0
      intro q9 a w' h i hi
      have hin : i < 15 := ready_lt hi
      have hii : i = 0 ∨ i = 1 ∨ i = 2 ∨ i = 3 ∨ i = 4 ∨ i = 5 ∨ i = 6 ∨ i = 7 ∨ i = 8 ∨ i = 9 ∨ i = 10 ∨ i = 11 ∨ i = 12 ∨ i = 13 ∨ i = 14 := by omega
      clear hin
      rcases hii with rfl | rfl | rfl | rfl | rfl | rfl | rfl | rfl | rfl | rfl | rfl | rfl | rfl | rfl | rfl
      · have f13 : a.tmps[13]?.getD undef = .slice none 0 0 := tmp_at (h.2.s13 (ready_get hi rfl).1)
        refine wpOp_val rfl rfl rfl (v := (.slice none 0 0)) (w' := w') ?_ ⟨h.1.pure 0 57 _ rfl (by decide) (by decide) (by decide) (by decide) (by decide) (by decide), h.2.put 0 57 _ (by decide) (.inl (by decide))⟩
        simp [go_sem, f13]
      · have f8 : a.tmps[8]?.getD undef = (.slice a1 n q1) := tmp_at (h.1.fx 8 (by simp))
        refine wpOp_val rfl rfl rfl (v := (.slice a1 n q1)) (w' := w') ?_ ⟨h.1.pure 1 58 _ rfl (by decide) (by decide) (by decide) (by decide) (by decide) (by decide), h.2.put 1 58 _ (by decide) (.inl (by decide))⟩
        simp [go_sem, f8]
      · have f10 : a.tmps[10]?.getD undef = (.int .i64 ((r : Int) + 1)) := tmp_at (h.1.fx 10 (by simp))
        refine wpOp_val rfl rfl rfl (v := (.int .i64 ((r : Int) + 1))) (w' := w') ?_ ⟨h.1.pure 2 59 _ rfl (by decide) (by decide) (by decide) (by decide) (by decide) (by decide), h.2.put 2 59 _ (by decide) (.inl (by decide))⟩
        simp [go_sem, f10]
      · have hr := (ready_get hi rfl).2
        have e2 : a.tmps[59]?.getD undef = (.int .i64 ((r : Int) + 1)) := tmp_at (h.1.pu (2, 59) (by simp) (hr { on := 2, ground := .data } (by simp) rfl))
        refine wpOp_val rfl rfl rfl (v := (.int .i64 (r : Nat))) (w' := w') ?_ ⟨h.1.pure 3 60 _ rfl (by decide) (by decide) (by decide) (by decide) (by decide) (by decide), h.2.put 3 60 _ (by decide) (.inl (by decide))⟩
        simp [go_sem, e2, ur]
      · have hr := (ready_get hi rfl).2
        have e1 : a.tmps[58]?.getD undef = (.slice a1 n q1) := tmp_at (h.1.pu (1, 58) (by simp) (hr { on := 1, ground := .data } (by simp) rfl))
        have e3 : a.tmps[60]?.getD undef = (.int .i64 (r : Nat)) := tmp_at (h.1.pu (3, 60) (by simp) (hr { on := 3, ground := .data } (by simp) rfl))
        refine wpOp_val rfl rfl rfl (v := (.slice a1 r q1)) (w' := w') ?_ ⟨h.1.pure 4 61 _ rfl (by decide) (by decide) (by decide) (by decide) (by decide) (by decide), h.2.put 4 61 _ (by decide) (.inl (by decide))⟩
        simp [go_sem, e1, e3, hs1]
      · obtain ⟨hb, hr⟩ := ready_get hi rfl
        have hpp : ∀ i' c', 0 = i' + 1 → [(5, 62), (8, 65), (13, 70), (14, 13)][i']? = some c' → q9.getD c'.1 false = true := fun i' c' e => absurd e (by omega)
        obtain ⟨B, v, hL, hA, hv0, hv1⟩ := h.1.at 0 (5, 62) rfl hb hpp
        have hv : a.tmps.getD 57 undef = v := (h.1.pu (0, 57) (by simp) (hr { on := 0, ground := .data } (by simp) rfl)).trans (hv0 rfl).symm
        have hch : ∀ j' c, [(5, 62), (8, 65), (13, 70), (14, 13)][j']? = some c → j' = 0 ∨ (c.1 ≠ 5 ∧ c.2 ≠ 62) := chain_other [(5, 62), (8, 65), (13, 70), (14, 13)] 0 5 62 (by decide)
        have e4 : a.tmps.getD 61 undef = (.slice a1 r q1) := h.1.pu (4, 61) (by simp) (hr { on := 4, ground := .data } (by simp) rfl)
        obtain ⟨aa, qq, w2, hrr, L2⟩ := LyP.app hL (sv_take hL.rk.lv HRN.out) HLE.out.1 HLE.out.2.1
        exact wpOp_law rfl rfl (step_run (by rfl) _ _ (by rfl) (by rfl) (tmp_ev hv) (tmp_ev e4) hrr ⟨h.1.next 0 5 62 _ B rfl hb hpp L2 hA (by decide) (by decide) (by decide) hch (by decide) (by decide), h.2.put 5 62 _ (by decide) (.inl (by decide))⟩)
      · have f4 : a.tmps[4]?.getD undef = .pointer (some ⟨w.heap.size, 0, none⟩) := tmp_at (h.1.fx 4 (by simp))
        obtain ⟨B9, v9, s9, _, hL9, _⟩ := h.1.ex
        have bx9 := HBX.out.below hL9.rk.bl
        have b0 := bx9.c0
        have b1 := bx9.c1
        have b2 := bx9.c2
        refine wpOp_val rfl rfl rfl (v := (.agg #[.int .i64 y.1, .int .i64 y.2.1, .string y.2.2])) (w' := w') ?_ ⟨h.1.pure 6 63 _ rfl (by decide) (by decide) (by decide) (by decide) (by decide) (by decide), h.2.put 6 63 _ (by decide) (.inl (by decide))⟩
        simp [go_sem, f4, b0, b1, b2]
      · have hr := (ready_get hi rfl).2
        have e6 : a.tmps[63]?.getD undef = (.agg #[.int .i64 y.1, .int .i64 y.2.1, .string y.2.2]) := tmp_at (h.1.pu (6, 63) (by simp) (hr { on := 6, ground := .data } (by simp) rfl))
        exact wpOp_val rfl rfl rfl (v := .slice (some ⟨w'.heap.size, 0, none⟩) 1 1) (w' := w'.alloc (.cells #[.int .i64 y.1, .int .i64 y.2.1, .string y.2.2] 24)) (by simp [go_sem, e6]) ⟨h.1.box 7 64 (fun s B v hL => LyP.box hL _) (by decide) (by decide) (by decide) (by decide) (by decide), h.2.put 7 64 _ (by decide) (.inl (by decide))⟩
      · obtain ⟨hb, hr⟩ := ready_get hi rfl
        have hp : q9.getD 5 false = true := hr { on := 5, ground := .data } (by simp) rfl
        have hpp : ∀ i' c', 1 = i' + 1 → [(5, 62), (8, 65), (13, 70), (14, 13)][i']? = some c' → q9.getD c'.1 false = true := by
          intro i' c' e hc
          obtain rfl : i' = 0 := by omega
          injection hc with hc
          subst hc
          exact hp
        obtain ⟨B, v, hL, hA, hv0, hv1⟩ := h.1.at 1 (8, 65) rfl hb hpp
        have hv : a.tmps.getD 62 undef = v := (hv1 0 (5, 62) rfl rfl).symm
        have hch : ∀ j' c, [(5, 62), (8, 65), (13, 70), (14, 13)][j']? = some c → j' = 1 ∨ (c.1 ≠ 8 ∧ c.2 ≠ 65) := chain_other [(5, 62), (8, 65), (13, 70), (14, 13)] 1 8 65 (by decide)
        obtain ⟨g, hg1, hg2⟩ := hA (7, 64) (by simp) (hr { on := 7, ground := .data } (by simp) rfl)
        obtain ⟨aa, qq, w2, hrr, L2⟩ := LyP.app hL (sv_box (hL.bx g _ hg2).2) HLE.out.2.2.1 HLE.out.2.2.2.1
        exact wpOp_law rfl rfl (step_run (by rfl) _ _ (by rfl) (by rfl) (tmp_ev hv) (tmp_ev hg1) hrr ⟨h.1.next 1 8 65 _ B rfl hb hpp L2 hA (by decide) (by decide) (by decide) hch (by decide) (by decide), h.2.put 8 65 _ (by decide) (.inl (by decide))⟩)
      · have f8 : a.tmps[8]?.getD undef = (.slice a1 n q1) := tmp_at (h.1.fx 8 (by simp))
        refine wpOp_val rfl rfl rfl (v := (.slice a1 n q1)) (w' := w') ?_ ⟨h.1.pure 9 66 _ rfl (by decide) (by decide) (by decide) (by decide) (by decide) (by decide), h.2.put 9 66 _ (by decide) (.inl (by decide))⟩
        simp [go_sem, f8]
      · have f10 : a.tmps[10]?.getD undef = (.int .i64 ((r : Int) + 1)) := tmp_at (h.1.fx 10 (by simp))
        refine wpOp_val rfl rfl rfl (v := (.int .i64 ((r : Int) + 1))) (w' := w') ?_ ⟨h.1.pure 10 67 _ rfl (by decide) (by decide) (by decide) (by decide) (by decide) (by decide), h.2.put 10 67 _ (by decide) (.inl (by decide))⟩
        simp [go_sem, f10]
      · have hr := (ready_get hi rfl).2
        have e10 : a.tmps[67]?.getD undef = (.int .i64 ((r : Int) + 1)) := tmp_at (h.1.pu (10, 67) (by simp) (hr { on := 10, ground := .data } (by simp) rfl))
        refine wpOp_val rfl rfl rfl (v := (.int .i64 (r : Nat))) (w' := w') ?_ ⟨h.1.pure 11 68 _ rfl (by decide) (by decide) (by decide) (by decide) (by decide) (by decide), h.2.put 11 68 _ (by decide) (.inl (by decide))⟩
        simp [go_sem, e10, ur]
      · have hr := (ready_get hi rfl).2
        have e9 : a.tmps[66]?.getD undef = (.slice a1 n q1) := tmp_at (h.1.pu (9, 66) (by simp) (hr { on := 9, ground := .data } (by simp) rfl))
        have e11 : a.tmps[68]?.getD undef = (.int .i64 (r : Nat)) := tmp_at (h.1.pu (11, 68) (by simp) (hr { on := 11, ground := .data } (by simp) rfl))
        refine wpOp_val rfl rfl rfl (v := (.slice a2 (n - r) q2)) (w' := w') ?_ ⟨h.1.pure 12 69 _ rfl (by decide) (by decide) (by decide) (by decide) (by decide) (by decide), h.2.put 12 69 _ (by decide) (.inl (by decide))⟩
        simp [go_sem, e9, e11, hs2]
      · obtain ⟨hb, hr⟩ := ready_get hi rfl
        have hp : q9.getD 8 false = true := hr { on := 8, ground := .data } (by simp) rfl
        have hpp : ∀ i' c', 2 = i' + 1 → [(5, 62), (8, 65), (13, 70), (14, 13)][i']? = some c' → q9.getD c'.1 false = true := by
          intro i' c' e hc
          obtain rfl : i' = 1 := by omega
          injection hc with hc
          subst hc
          exact hp
        obtain ⟨B, v, hL, hA, hv0, hv1⟩ := h.1.at 2 (13, 70) rfl hb hpp
        have hv : a.tmps.getD 65 undef = v := (hv1 1 (8, 65) rfl rfl).symm
        have hch : ∀ j' c, [(5, 62), (8, 65), (13, 70), (14, 13)][j']? = some c → j' = 2 ∨ (c.1 ≠ 13 ∧ c.2 ≠ 70) := chain_other [(5, 62), (8, 65), (13, 70), (14, 13)] 2 13 70 (by decide)
        have e12 : a.tmps.getD 69 undef = (.slice a2 (n - r) q2) := h.1.pu (12, 69) (by simp) (hr { on := 12, ground := .data } (by simp) rfl)
        obtain ⟨aa, qq, w2, hrr, L2⟩ := LyP.app hL (HSV.out _ _ hL.rk.lv) HLE.out.2.2.2.2.1 HLE.out.2.2.2.2.2
        exact wpOp_law rfl rfl (step_run (by rfl) _ _ (by rfl) (by rfl) (tmp_ev hv) (tmp_ev e12) hrr ⟨h.1.next 2 13 70 _ B rfl hb hpp L2 hA (by decide) (by decide) (by decide) hch (by decide) (by decide), h.2.put 13 70 _ (by decide) (.inl (by decide))⟩)
      · obtain ⟨hb, hr⟩ := ready_get hi rfl
        have hp : q9.getD 13 false = true := hr { on := 13, ground := .data } (by simp) rfl
        have hpp : ∀ i' c', 3 = i' + 1 → [(5, 62), (8, 65), (13, 70), (14, 13)][i']? = some c' → q9.getD c'.1 false = true := by
          intro i' c' e hc
          obtain rfl : i' = 2 := by omega
          injection hc with hc
          subst hc
          exact hp
        obtain ⟨B, v, hL, hA, hv0, hv1⟩ := h.1.at 3 (14, 13) rfl hb hpp
        have hv : a.tmps.getD 70 undef = v := (hv1 2 (13, 70) rfl rfl).symm
        have hch : ∀ j' c, [(5, 62), (8, 65), (13, 70), (14, 13)][j']? = some c → j' = 3 ∨ (c.1 ≠ 14 ∧ c.2 ≠ 13) := chain_other [(5, 62), (8, 65), (13, 70), (14, 13)] 3 14 13 (by decide)
        have ev := tmp_at hv
        exact wpOp_val rfl rfl rfl (v := v) (w' := w') (by simp [go_sem, ev]) ⟨h.1.next 3 14 13 v B rfl hb hpp ⟨by have := hL.rk; rw [HL3.out.1] at this; rw [HL3.out.2.1]; exact this, hL.bx⟩ hA (by decide) (by decide) (by decide) hch (by decide) (by decide), h.2.put 14 13 _ (by decide) (.inr (hr { on := 0, ground := .phase } (by simp) rfl))⟩
    case hd =>
      clear K0
      intro q9 a w' h hr
      have b0 : q9.getD 0 false = true := ready_nil hr h.1.sz rfl (by intro e he; simp at he)
      have b1 : q9.getD 1 false = true := ready_nil hr h.1.sz rfl (by intro e he; simp at he)
      have b2 : q9.getD 2 false = true := ready_nil hr h.1.sz rfl (by intro e he; simp at he)
      have b3 : q9.getD 3 false = true := ready_nil hr h.1.sz rfl (by intro e he; simp at he; subst he; assumption)
      have b4 : q9.getD 4 false = true := ready_nil hr h.1.sz rfl (by intro e he; simp at he; rcases he with rfl | rfl <;> assumption)
      have b5 : q9.getD 5 false = true := ready_nil hr h.1.sz rfl (by intro e he; simp at he; rcases he with rfl | rfl <;> assumption)
      have b6 : q9.getD 6 false = true := ready_nil hr h.1.sz rfl (by intro e he; simp at he)
      have b7 : q9.getD 7 false = true := ready_nil hr h.1.sz rfl (by intro e he; simp at he; subst he; assumption)
      have b8 : q9.getD 8 false = true := ready_nil hr h.1.sz rfl (by intro e he; simp at he; rcases he with rfl | rfl | rfl <;> assumption)
      have b9 : q9.getD 9 false = true := ready_nil hr h.1.sz rfl (by intro e he; simp at he)
      have b10 : q9.getD 10 false = true := ready_nil hr h.1.sz rfl (by intro e he; simp at he)
      have b11 : q9.getD 11 false = true := ready_nil hr h.1.sz rfl (by intro e he; simp at he; subst he; assumption)
      have b12 : q9.getD 12 false = true := ready_nil hr h.1.sz rfl (by intro e he; simp at he; rcases he with rfl | rfl <;> assumption)
      have b13 : q9.getD 13 false = true := ready_nil hr h.1.sz rfl (by intro e he; simp at he; rcases he with rfl | rfl | rfl <;> assumption)
      have b14 : q9.getD 14 false = true := ready_nil hr h.1.sz rfl (by intro e he; simp at he; rcases he with rfl | rfl | rfl | rfl | rfl | rfl | rfl | rfl | rfl | rfl | rfl | rfl | rfl | rfl | rfl | rfl <;> assumption)
      obtain ⟨B, v, s, e1, e2, _, e4, _, e6⟩ := h.1.ex
      have hs : s = 4 := by have := (e4 3 (14, 13) rfl).1 b14; simp at e1; omega
      subst hs
      have hv : a.tmps.getD 13 undef = v := (e6 3 (14, 13) rfl rfl).symm
      have ha := act_puts a [13, 57, 58, 59, 60, 61, 62, 63, 64, 65, 66, 67, 68, 69, 70] _ h.2.df h.2.tz h.2.fx
      have HK0 : RK WB w6.heap.size T (w1.heap.size + 1) w1.heap.size (10 + 137 * n + n + 300 + 9000) 200 (insL l r y) (.slice a1 n q1) l v (insL l r y) w' := by have := e2.rk; rw [HL3.out.2.1] at this; exact this
      have hli : (insL l r y).length = n + 1 := by rw [insL_len l r y HRN.out, HN.out]
      have HLI : Hid ((insL l r y).length = n + 1 ∧ Gl (insL l r y)) := ⟨hli, insL_gl HG.out.1 r y hy⟩
      obtain ⟨a3, q3, ev⟩ := HK0.lu.form
      rw [hli] at ev
      subst ev
      have HK : Hid (RK WB w6.heap.size T (w1.heap.size + 1) w1.heap.size (10 + 137 * n + n + 300 + 9000) 200 (insL l r y) (.slice a1 n q1) l (.slice a3 (n + 1) q3) (insL l r y) w') := HK0
      obtain ⟨f, hf⟩ : ∃ f : Nat → Value, (fun d => a.tmps.getD d undef) = f := ⟨_, rfl⟩
      rw [hf] at ha
      have h13 : f 13 = .slice a3 (n + 1) q3 := by rw [← hf]; exact hv
      clear b0 b1 b2 b3 b4 b5 b6 b7 b8 b9 b10 b11 b12 b13 b14 e1 e2 e4 e6 hr h hf hv HK0 hli HSV HLE HL3 hs1 hs2 hcap wr1 ur
      subst ha
      have wd1 : IntKind.i64.wrap ((n : Int) + 1 - ((r : Int) + 1)) = (n : Int) - r := by rw [IntKind.wrap_i64]; omega
      have C4 := HK.out.run fun No k1 k2 t => is_row (l := insL l r y) t HLI.out.2 (by omega) (by rw [HLI.out.1]; omega) w6.heap.size a3 q3 (by rw [HLI.out.1]; have := HK.out.lu; rw [HLI.out.1] at this; exact this) (fun y e => k2 y (by rw [HLI.out.1] at e; exact e))
      rw [HLI.out.1] at C4
      simp only [putAll, Act.put, h13]
      go_wp2_with fail
      refine C4.mono ?_
      rintro e v4 ⟨rfl, K4⟩
      have C5 := K4.unp (by omega) (n + 1) (by omega)
      clear C4 K4 HK
      go_wp2_with fail
      refine C5.mono ?_
      rintro e v5 ⟨a5, q5, rfl, L5, K5⟩
      have C6 := same_any (n := n + 1) (F := fun i => (insL l r y).getD i nil) (lv_congr L5 fun i hi => by
        rw [rowf_in (by omega) (by rw [HLI.out.1]; omega)]; congr 1; omega) (by have := K5.lu; rw [HLI.out.1] at this; exact this) (by omega)
      have HK5 : Hid _ := K5
      clear C5 L5 K5
      go_wp2_with fail
      refine C6.mono ?_
      rintro e v6 ⟨rfl, b6⟩
      have er : rowf (insL l r y) ((r : Int) + 1) = y := by
        have := HRN.out
        rw [rowf_in (by omega) (by rw [HLI.out.1, ← HN.out]; omega), show ((r : Int) + 1 - 1).toNat = r by omega, List.getD_eq_getElem?_getD, insL_at l r y this]; rfl
      have el : ((insL l r y).length : Int) - 1 - (r : Int) = (n : Int) - r := by rw [HLI.out.1]; omega
      have ee : (insL l r y).eraseIdx r = l := insL_erase l r y HRN.out
      have C7 := (HK5.out.below b6).run fun No k1 k2 t => remove_ok t HLI.out.2 (by omega) (by rw [HLI.out.1]; omega) (by omega) r (by have := HRN.out; rw [HLI.out.1, ← HN.out]; omega) 1000 (by rw [HLI.out.1]; omega) (by omega)
      rw [er, el, ee, HLI.out.1] at C7
      clear C6 b6 HK5 er el ee
      go_wp2_with fail
      refine C7.mono ?_
      rintro e v7 ⟨rfl, K7⟩
      have K8 := K7.below (Go.Proofs.YtckgoedlgecokaaGreatDoor.b1 v7 (vb y.1 y.2.1 y.2.2))
      have bz := Bx.made v7 y
      have z0 := bz.c0
      have z1 := bz.c1
      have z2 := bz.c2
      have bw := HBX.out.below K8.bl
      have q0 := bw.c0
      have q11 := bw.c1
      have q22 := bw.c2
      have eqv := eqlV y
      have HK8 : Hid (RK WB w6.heap.size T (w1.heap.size + 1) w1.heap.size (10 + 137 * n + n + 300 + 9000 + (n + 1) + 300 + 300 + (200 + 8 * (n + 1 - r))) 200 l (.slice a1 n q1) l (.slice a3 (n + 1) q3) (insL l r y) (v7.alloc (vb y.1 y.2.1 y.2.2))) := K8.more (by omega)
      have C8 := HK8.out.run fun No k1 k2 t => is_row (l := l) t HG.out.1 (by omega) (by rw [HN.out]; omega) WB.heap.size a1 q1 (by rw [HN.out]; have := HK8.out.lv; rw [HN.out] at this; exact this) (fun y e => k1 y (by rw [HN.out] at e; exact e))
      rw [HN.out] at C8
      have HB0 : Hid (Below w.heap.size w WB) := HI.out.1
      clear C7 K7 K8 bz bw HI HK8 HBX
      unfold vv vl
      unfold vb at z0 z1 z2 q0 q11 q22 C8
      go_wp2_with fail
      refine C8.mono ?_
      rintro e v8 ⟨rfl, K9⟩
      have HB8 : Hid (Below w.heap.size w v8) := HB0.out.trans (K9.bl.mono HB0.out.size)
      clear C8 K9 z0 z1 z2 q0 q11 q22
      go_wp2
      go_ret
      exact ⟨rfl, HB8.out⟩
  · obtain ⟨y, hyv⟩ : ∃ y : V, y = (3, 0, ⟨#[118]⟩) := ⟨_, rfl⟩
    have hy : Gv y := by subst hyv; exact ⟨by decide, by decide⟩
    obtain ⟨W5, hW5⟩ : ∃ W5, w3.alloc (.cells #[.int .i64 x.1, .int .i64 x.2.1, .string x.2.2] 24) = W5 := ⟨_, rfl⟩
    rw [hW5] at HR4 y0 y1 y2 yf C
    have CS := mkS ⟨#[118]⟩ W5
    have HS : Hid (∀ W6, Below W5.heap.size W5 W6 → R3 W6 w.heap.size x ∧ Below w.heap.size w (set3 W0 w.heap.size y) ∧ w.heap.size < (set3 W0 w.heap.size y).heap.size ∧ Bx (set3 W0 w.heap.size y) w.heap.size y ∧ RJ (set3 W0 w.heap.size y) T (w1.heap.size + 1) w1.heap.size (10 + 137 * n + n + 300) 200 l (.slice a1 n q1) l (set3 W6 w.heap.size y)) := fun W6 b => ⟨HR4.out.2.below b, below_at (below_at (below_at HV.out.2.1 (a := ⟨w.heap.size, 0, none⟩) (Nat.le_refl _) _) (a := ⟨w.heap.size, 1, none⟩) (Nat.le_refl _) _) (a := ⟨w.heap.size, 2, none⟩) (Nat.le_refl _) _, by have := HV.out.2.2.bx.lt; simpa [set3, World.setCell] using this, (HV.out.2.2.set y).bx, (HR4.out.1.below b).base HV.out.2.2.bx.lt y⟩
    clear HR4 HV
    by_cases hf : fm x = true
    · have hx0 : x.1 = 0 := Classical.byContradiction fun q => hgv ⟨hf, q⟩
      have hch : chk x.1 x.2.1 x.2.2 = 0 := (chk_fm x).2 hf
      rw [hch] at C
      have h0 : (x.1 == 0) = true := by simpa using hx0
      clear hch hx0 hf
      go_wp2_with fail
      refine C.mono ?_
      rintro e w4 ⟨rfl, hw4⟩
      obtain rfl : W5 = w4 := hw4.symm
      clear C
      go_wp2_with fail
      refine CS.mono ?_
      rintro e w5 ⟨rfl, b5⟩
      obtain ⟨R5, s1, s2, s3, s4⟩ := HS.out w5 b5
      have d0 := R5.bx.c0
      have d1 := R5.bx.c1
      have d2 := R5.bx.c2
      have df := R5.fz
      obtain ⟨W6, hW6⟩ : ∃ W6, set3 w5 w.heap.size y = W6 := ⟨_, rfl⟩
      rw [hW6] at s4
      obtain ⟨WB, hWB⟩ : ∃ WB, set3 W0 w.heap.size y = WB := ⟨_, rfl⟩
      rw [hWB] at s1 s2 s3 s4
      have HI : Hid (Below w.heap.size w WB ∧ w.heap.size < WB.heap.size ∧ Bx WB w.heap.size y ∧ RJ WB T (w1.heap.size + 1) w1.heap.size (10 + 137 * n + n + 300) 200 l (.slice a1 n q1) l W6) := ⟨s1, s2, s3, s4⟩
      unfold set3 at hW6
      rw [hyv] at hW6
      simp only at hW6
      clear CS HS R5 s1 s2 s3 s4 hWB b5 x0 x1 x2 y0 y1 y2 yf hyv hgv
      unfold vl
      have wn1 : IntKind.i64.wrap ((n : Int) + 1) = (n : Int) + 1 := by rw [IntKind.wrap_i64]; omega
      have n0 : ¬ (n : Int) + 1 = 0 := by omega
      have hn1000 : n ≤ 1000 := by omega
      have hfu : ∀ r : Nat, (l.length : Int) - (r : Int) ≤ 1000 := fun r => by have := HN.out; omega
      have hlk : l.length < 200 := by rw [HN.out]; omega
      have hc4 : 10 + 137 * n + n + 300 ≤ 400000 := by omega
      have y0 := (HI.out.2.2.1.below HI.out.2.2.2.bl).c0
      have y1 := (HI.out.2.2.1.below HI.out.2.2.2.bl).c1
      have y2 := (HI.out.2.2.1.below HI.out.2.2.2.bl).c2
      obtain ⟨U, r, hU, u1, u2, u3, u4, u5, u6, hr⟩ := pos1_facts k n hn1000
      clear hn1000
      have C3 := HI.out.2.2.2.run fun No hq t => insert_ok (l := l) t HG.out.1 hc4 hlk (by decide) r (by rw [HN.out]; exact hr) y hy 1000 (hfu r) (by decide)
      rw [HN.out] at C3
      go_wp2_with fail
      refine C3.mono ?_
      rintro e w6 ⟨rfl, R6⟩
      clear C3 hfu hlk hc4 u1 u2 u3 u4 u5 u6 hU y0 y1 y2
      have wr1 : IntKind.i64.wrap ((r : Int) + 1 - 1) = (r : Int) := by rw [IntKind.wrap_i64]; omega
      have ur : IntKind.i64.wrap (r : Int) = (r : Int) := by rw [IntKind.wrap_i64]; omega
      have hrn : r ≤ l.length := by rw [HN.out]; exact hr
      have hcap := R6.cap
      have hs1 := slice_to a1 (q := q1) (n := n) (r := r) hr (by rw [← HN.out]; exact hcap)
      obtain ⟨a2, q2, hs2, hsv⟩ := slice_from (m := l) (a := a1) (n := n) (q := q1) hcap HN.out hr
      have K0 : RK WB w6.heap.size T (w1.heap.size + 1) w1.heap.size (10 + 137 * n + n + 300 + 9000) 200 (insL l r y) (.slice a1 n q1) l (.slice none 0 0) [] w6.drew := RK.of R6.drew rfl
      obtain ⟨LS, hLS⟩ : ∃ LS : Nat → List V, LS = fun s => if s = 0 then [] else if s = 1 then l.take r else if s = 2 then l.take r ++ [y] else insL l r y := ⟨_, rfl⟩
      have HLE : Hid ((LS 0).length + (l.take r).length ≤ 1000 ∧ LS 0 ++ l.take r = LS 1 ∧ (LS 1).length + [y].length ≤ 1000 ∧ LS 1 ++ [y] = LS 2 ∧ (LS 2).length + (l.drop r).length ≤ 1000 ∧ LS 2 ++ l.drop r = LS 3) := by
        have := HN.out
        subst hLS
        refine ⟨?_, rfl, ?_, rfl, ?_, ?_⟩
        · show 0 + (l.take r).length ≤ 1000
          rw [List.length_take]; omega
        · show (l.take r).length + 1 ≤ 1000
          rw [List.length_take]; omega
        · show (l.take r ++ [y]).length + (l.drop r).length ≤ 1000
          rw [List.length_append, List.length_take, List.length_drop, List.length_singleton]; omega
        · show l.take r ++ [y] ++ l.drop r = insL l r y
          unfold insL
          rw [List.append_assoc]; rfl
      have HRN : Hid (r ≤ l.length) := hrn
      have HSV : Hid (∀ (W : World) (B : Nat), Lv W B (.slice a1 n q1) l.length (fun i => l.getD i nil) → Sv W (.slice a2 (n - r) q2) (l.drop r)) := hsv
      have HBX : Hid (Bx WB w.heap.size y) := HI.out.2.2.1
      have HL3 : Hid (LS 3 = insL l r y ∧ LS 4 = insL l r y ∧ LS 0 = []) := by subst hLS; exact ⟨rfl, rfl, rfl⟩
      clear R6 hsv hLS
      go_wp2_with fail
      refine wp_region_any (by kernel_rfl) ?_
      refine wpAny_inv (fun l' a w' => Ir 15 131 [4, 8, 10] (fun x => if x = 4 then .pointer (some ⟨w.heap.size, 0, none⟩) else if x = 8 then (.slice a1 n q1) else (.int .i64 ((r : Int) + 1))) [(0, 57), (1, 58), (2, 59), (3, 60), (4, 61), (6, 63), (9, 66), (10, 67), (11, 68), (12, 69)] (fun i => if i = 0 then (.slice none 0 0) else if i = 1 then (.slice a1 n q1) else if i = 2 then (.int .i64 ((r : Int) + 1)) else if i = 3 then (.int .i64 (r : Nat)) else if i = 4 then (.slice a1 r q1) else if i = 6 then (.agg #[.int .i64 y.1, .int .i64 y.2.1, .string y.2.2]) else if i = 9 then (.slice a1 n q1) else if i = 10 then (.int .i64 ((r : Int) + 1)) else if i = 11 then (.int .i64 (r : Nat)) else if i = 12 then (.slice a2 (n - r) q2) else undef) [(7, 64)] (fun _ => #[.int .i64 y.1, .int .i64 y.2.1, .string y.2.2]) [(5, 62), (8, 65), (13, 70), (14, 13)] (.slice none 0 0) (fun s B v w' => LyP WB w6.heap.size T (w1.heap.size + 1) w1.heap.size (10 + 137 * n + n + 300 + 9000) (insL l r y) (.slice a1 n q1) l y LS s B v w') l' a w' ∧ Ex [13, 57, 58, 59, 60, 61, 62, 63, 64, 65, 66, 67, 68, 69, 70] _ l' a) (by intro l a w h; exact h.1.sz) ?hs ?hd _ _ _ _ (by decide) ⟨Ir.start rfl rfl (by intro x hx; simp at hx; rcases hx with rfl | rfl | rfl <;> rfl) ⟨by rw [HL3.out.2.2]; exact K0, fun g cs hg => by cases hg⟩, Ex.start rfl⟩
      case hs =>
        clear K0
        intro q9 a w' h i hi
        have hin : i < 15 := ready_lt hi
        have hii : i = 0 ∨ i = 1 ∨ i = 2 ∨ i = 3 ∨ i = 4 ∨ i = 5 ∨ i = 6 ∨ i = 7 ∨ i = 8 ∨ i = 9 ∨ i = 10 ∨ i = 11 ∨ i = 12 ∨ i = 13 ∨ i = 14 := by omega
        clear hin
        rcases hii with rfl | rfl | rfl | rfl | rfl | rfl | rfl | rfl | rfl | rfl | rfl | rfl | rfl | rfl | rfl
        · have f13 : a.tmps[13]?.getD undef = .slice none 0 0 := tmp_at (h.2.s13 (ready_get hi rfl).1)
          refine wpOp_val rfl rfl rfl (v := (.slice none 0 0)) (w' := w') ?_ ⟨h.1.pure 0 57 _ rfl (by decide) (by decide) (by decide) (by decide) (by decide) (by decide), h.2.put 0 57 _ (by decide) (.inl (by decide))⟩
          simp [go_sem, f13]
        · have f8 : a.tmps[8]?.getD undef = (.slice a1 n q1) := tmp_at (h.1.fx 8 (by simp))
          refine wpOp_val rfl rfl rfl (v := (.slice a1 n q1)) (w' := w') ?_ ⟨h.1.pure 1 58 _ rfl (by decide) (by decide) (by decide) (by decide) (by decide) (by decide), h.2.put 1 58 _ (by decide) (.inl (by decide))⟩
          simp [go_sem, f8]
        · have f10 : a.tmps[10]?.getD undef = (.int .i64 ((r : Int) + 1)) := tmp_at (h.1.fx 10 (by simp))
          refine wpOp_val rfl rfl rfl (v := (.int .i64 ((r : Int) + 1))) (w' := w') ?_ ⟨h.1.pure 2 59 _ rfl (by decide) (by decide) (by decide) (by decide) (by decide) (by decide), h.2.put 2 59 _ (by decide) (.inl (by decide))⟩
          simp [go_sem, f10]
        · have hr := (ready_get hi rfl).2
          have e2 : a.tmps[59]?.getD undef = (.int .i64 ((r : Int) + 1)) := tmp_at (h.1.pu (2, 59) (by simp) (hr { on := 2, ground := .data } (by simp) rfl))
          refine wpOp_val rfl rfl rfl (v := (.int .i64 (r : Nat))) (w' := w') ?_ ⟨h.1.pure 3 60 _ rfl (by decide) (by decide) (by decide) (by decide) (by decide) (by decide), h.2.put 3 60 _ (by decide) (.inl (by decide))⟩
          simp [go_sem, e2, ur]
        · have hr := (ready_get hi rfl).2
          have e1 : a.tmps[58]?.getD undef = (.slice a1 n q1) := tmp_at (h.1.pu (1, 58) (by simp) (hr { on := 1, ground := .data } (by simp) rfl))
          have e3 : a.tmps[60]?.getD undef = (.int .i64 (r : Nat)) := tmp_at (h.1.pu (3, 60) (by simp) (hr { on := 3, ground := .data } (by simp) rfl))
          refine wpOp_val rfl rfl rfl (v := (.slice a1 r q1)) (w' := w') ?_ ⟨h.1.pure 4 61 _ rfl (by decide) (by decide) (by decide) (by decide) (by decide) (by decide), h.2.put 4 61 _ (by decide) (.inl (by decide))⟩
          simp [go_sem, e1, e3, hs1]
        · obtain ⟨hb, hr⟩ := ready_get hi rfl
          have hpp : ∀ i' c', 0 = i' + 1 → [(5, 62), (8, 65), (13, 70), (14, 13)][i']? = some c' → q9.getD c'.1 false = true := fun i' c' e => absurd e (by omega)
          obtain ⟨B, v, hL, hA, hv0, hv1⟩ := h.1.at 0 (5, 62) rfl hb hpp
          have hv : a.tmps.getD 57 undef = v := (h.1.pu (0, 57) (by simp) (hr { on := 0, ground := .data } (by simp) rfl)).trans (hv0 rfl).symm
          have hch : ∀ j' c, [(5, 62), (8, 65), (13, 70), (14, 13)][j']? = some c → j' = 0 ∨ (c.1 ≠ 5 ∧ c.2 ≠ 62) := chain_other [(5, 62), (8, 65), (13, 70), (14, 13)] 0 5 62 (by decide)
          have e4 : a.tmps.getD 61 undef = (.slice a1 r q1) := h.1.pu (4, 61) (by simp) (hr { on := 4, ground := .data } (by simp) rfl)
          obtain ⟨aa, qq, w2, hrr, L2⟩ := LyP.app hL (sv_take hL.rk.lv HRN.out) HLE.out.1 HLE.out.2.1
          exact wpOp_law rfl rfl (step_run (by rfl) _ _ (by rfl) (by rfl) (tmp_ev hv) (tmp_ev e4) hrr ⟨h.1.next 0 5 62 _ B rfl hb hpp L2 hA (by decide) (by decide) (by decide) hch (by decide) (by decide), h.2.put 5 62 _ (by decide) (.inl (by decide))⟩)
        · have f4 : a.tmps[4]?.getD undef = .pointer (some ⟨w.heap.size, 0, none⟩) := tmp_at (h.1.fx 4 (by simp))
          obtain ⟨B9, v9, s9, _, hL9, _⟩ := h.1.ex
          have bx9 := HBX.out.below hL9.rk.bl
          have b0 := bx9.c0
          have b1 := bx9.c1
          have b2 := bx9.c2
          refine wpOp_val rfl rfl rfl (v := (.agg #[.int .i64 y.1, .int .i64 y.2.1, .string y.2.2])) (w' := w') ?_ ⟨h.1.pure 6 63 _ rfl (by decide) (by decide) (by decide) (by decide) (by decide) (by decide), h.2.put 6 63 _ (by decide) (.inl (by decide))⟩
          simp [go_sem, f4, b0, b1, b2]
        · have hr := (ready_get hi rfl).2
          have e6 : a.tmps[63]?.getD undef = (.agg #[.int .i64 y.1, .int .i64 y.2.1, .string y.2.2]) := tmp_at (h.1.pu (6, 63) (by simp) (hr { on := 6, ground := .data } (by simp) rfl))
          exact wpOp_val rfl rfl rfl (v := .slice (some ⟨w'.heap.size, 0, none⟩) 1 1) (w' := w'.alloc (.cells #[.int .i64 y.1, .int .i64 y.2.1, .string y.2.2] 24)) (by simp [go_sem, e6]) ⟨h.1.box 7 64 (fun s B v hL => LyP.box hL _) (by decide) (by decide) (by decide) (by decide) (by decide), h.2.put 7 64 _ (by decide) (.inl (by decide))⟩
        · obtain ⟨hb, hr⟩ := ready_get hi rfl
          have hp : q9.getD 5 false = true := hr { on := 5, ground := .data } (by simp) rfl
          have hpp : ∀ i' c', 1 = i' + 1 → [(5, 62), (8, 65), (13, 70), (14, 13)][i']? = some c' → q9.getD c'.1 false = true := by
            intro i' c' e hc
            obtain rfl : i' = 0 := by omega
            injection hc with hc
            subst hc
            exact hp
          obtain ⟨B, v, hL, hA, hv0, hv1⟩ := h.1.at 1 (8, 65) rfl hb hpp
          have hv : a.tmps.getD 62 undef = v := (hv1 0 (5, 62) rfl rfl).symm
          have hch : ∀ j' c, [(5, 62), (8, 65), (13, 70), (14, 13)][j']? = some c → j' = 1 ∨ (c.1 ≠ 8 ∧ c.2 ≠ 65) := chain_other [(5, 62), (8, 65), (13, 70), (14, 13)] 1 8 65 (by decide)
          obtain ⟨g, hg1, hg2⟩ := hA (7, 64) (by simp) (hr { on := 7, ground := .data } (by simp) rfl)
          obtain ⟨aa, qq, w2, hrr, L2⟩ := LyP.app hL (sv_box (hL.bx g _ hg2).2) HLE.out.2.2.1 HLE.out.2.2.2.1
          exact wpOp_law rfl rfl (step_run (by rfl) _ _ (by rfl) (by rfl) (tmp_ev hv) (tmp_ev hg1) hrr ⟨h.1.next 1 8 65 _ B rfl hb hpp L2 hA (by decide) (by decide) (by decide) hch (by decide) (by decide), h.2.put 8 65 _ (by decide) (.inl (by decide))⟩)
        · have f8 : a.tmps[8]?.getD undef = (.slice a1 n q1) := tmp_at (h.1.fx 8 (by simp))
          refine wpOp_val rfl rfl rfl (v := (.slice a1 n q1)) (w' := w') ?_ ⟨h.1.pure 9 66 _ rfl (by decide) (by decide) (by decide) (by decide) (by decide) (by decide), h.2.put 9 66 _ (by decide) (.inl (by decide))⟩
          simp [go_sem, f8]
        · have f10 : a.tmps[10]?.getD undef = (.int .i64 ((r : Int) + 1)) := tmp_at (h.1.fx 10 (by simp))
          refine wpOp_val rfl rfl rfl (v := (.int .i64 ((r : Int) + 1))) (w' := w') ?_ ⟨h.1.pure 10 67 _ rfl (by decide) (by decide) (by decide) (by decide) (by decide) (by decide), h.2.put 10 67 _ (by decide) (.inl (by decide))⟩
          simp [go_sem, f10]
        · have hr := (ready_get hi rfl).2
          have e10 : a.tmps[67]?.getD undef = (.int .i64 ((r : Int) + 1)) := tmp_at (h.1.pu (10, 67) (by simp) (hr { on := 10, ground := .data } (by simp) rfl))
          refine wpOp_val rfl rfl rfl (v := (.int .i64 (r : Nat))) (w' := w') ?_ ⟨h.1.pure 11 68 _ rfl (by decide) (by decide) (by decide) (by decide) (by decide) (by decide), h.2.put 11 68 _ (by decide) (.inl (by decide))⟩
          simp [go_sem, e10, ur]
        · have hr := (ready_get hi rfl).2
          have e9 : a.tmps[66]?.getD undef = (.slice a1 n q1) := tmp_at (h.1.pu (9, 66) (by simp) (hr { on := 9, ground := .data } (by simp) rfl))
          have e11 : a.tmps[68]?.getD undef = (.int .i64 (r : Nat)) := tmp_at (h.1.pu (11, 68) (by simp) (hr { on := 11, ground := .data } (by simp) rfl))
          refine wpOp_val rfl rfl rfl (v := (.slice a2 (n - r) q2)) (w' := w') ?_ ⟨h.1.pure 12 69 _ rfl (by decide) (by decide) (by decide) (by decide) (by decide) (by decide), h.2.put 12 69 _ (by decide) (.inl (by decide))⟩
          simp [go_sem, e9, e11, hs2]
        · obtain ⟨hb, hr⟩ := ready_get hi rfl
          have hp : q9.getD 8 false = true := hr { on := 8, ground := .data } (by simp) rfl
          have hpp : ∀ i' c', 2 = i' + 1 → [(5, 62), (8, 65), (13, 70), (14, 13)][i']? = some c' → q9.getD c'.1 false = true := by
            intro i' c' e hc
            obtain rfl : i' = 1 := by omega
            injection hc with hc
            subst hc
            exact hp
          obtain ⟨B, v, hL, hA, hv0, hv1⟩ := h.1.at 2 (13, 70) rfl hb hpp
          have hv : a.tmps.getD 65 undef = v := (hv1 1 (8, 65) rfl rfl).symm
          have hch : ∀ j' c, [(5, 62), (8, 65), (13, 70), (14, 13)][j']? = some c → j' = 2 ∨ (c.1 ≠ 13 ∧ c.2 ≠ 70) := chain_other [(5, 62), (8, 65), (13, 70), (14, 13)] 2 13 70 (by decide)
          have e12 : a.tmps.getD 69 undef = (.slice a2 (n - r) q2) := h.1.pu (12, 69) (by simp) (hr { on := 12, ground := .data } (by simp) rfl)
          obtain ⟨aa, qq, w2, hrr, L2⟩ := LyP.app hL (HSV.out _ _ hL.rk.lv) HLE.out.2.2.2.2.1 HLE.out.2.2.2.2.2
          exact wpOp_law rfl rfl (step_run (by rfl) _ _ (by rfl) (by rfl) (tmp_ev hv) (tmp_ev e12) hrr ⟨h.1.next 2 13 70 _ B rfl hb hpp L2 hA (by decide) (by decide) (by decide) hch (by decide) (by decide), h.2.put 13 70 _ (by decide) (.inl (by decide))⟩)
        · obtain ⟨hb, hr⟩ := ready_get hi rfl
          have hp : q9.getD 13 false = true := hr { on := 13, ground := .data } (by simp) rfl
          have hpp : ∀ i' c', 3 = i' + 1 → [(5, 62), (8, 65), (13, 70), (14, 13)][i']? = some c' → q9.getD c'.1 false = true := by
            intro i' c' e hc
            obtain rfl : i' = 2 := by omega
            injection hc with hc
            subst hc
            exact hp
          obtain ⟨B, v, hL, hA, hv0, hv1⟩ := h.1.at 3 (14, 13) rfl hb hpp
          have hv : a.tmps.getD 70 undef = v := (hv1 2 (13, 70) rfl rfl).symm
          have hch : ∀ j' c, [(5, 62), (8, 65), (13, 70), (14, 13)][j']? = some c → j' = 3 ∨ (c.1 ≠ 14 ∧ c.2 ≠ 13) := chain_other [(5, 62), (8, 65), (13, 70), (14, 13)] 3 14 13 (by decide)
          have ev := tmp_at hv
          exact wpOp_val rfl rfl rfl (v := v) (w' := w') (by simp [go_sem, ev]) ⟨h.1.next 3 14 13 v B rfl hb hpp ⟨by have := hL.rk; rw [HL3.out.1] at this; rw [HL3.out.2.1]; exact this, hL.bx⟩ hA (by decide) (by decide) (by decide) hch (by decide) (by decide), h.2.put 14 13 _ (by decide) (.inr (hr { on := 0, ground := .phase } (by simp) rfl))⟩
      case hd =>
        clear K0
        intro q9 a w' h hr
        have b0 : q9.getD 0 false = true := ready_nil hr h.1.sz rfl (by intro e he; simp at he)
        have b1 : q9.getD 1 false = true := ready_nil hr h.1.sz rfl (by intro e he; simp at he)
        have b2 : q9.getD 2 false = true := ready_nil hr h.1.sz rfl (by intro e he; simp at he)
        have b3 : q9.getD 3 false = true := ready_nil hr h.1.sz rfl (by intro e he; simp at he; subst he; assumption)
        have b4 : q9.getD 4 false = true := ready_nil hr h.1.sz rfl (by intro e he; simp at he; rcases he with rfl | rfl <;> assumption)
        have b5 : q9.getD 5 false = true := ready_nil hr h.1.sz rfl (by intro e he; simp at he; rcases he with rfl | rfl <;> assumption)
        have b6 : q9.getD 6 false = true := ready_nil hr h.1.sz rfl (by intro e he; simp at he)
        have b7 : q9.getD 7 false = true := ready_nil hr h.1.sz rfl (by intro e he; simp at he; subst he; assumption)
        have b8 : q9.getD 8 false = true := ready_nil hr h.1.sz rfl (by intro e he; simp at he; rcases he with rfl | rfl | rfl <;> assumption)
        have b9 : q9.getD 9 false = true := ready_nil hr h.1.sz rfl (by intro e he; simp at he)
        have b10 : q9.getD 10 false = true := ready_nil hr h.1.sz rfl (by intro e he; simp at he)
        have b11 : q9.getD 11 false = true := ready_nil hr h.1.sz rfl (by intro e he; simp at he; subst he; assumption)
        have b12 : q9.getD 12 false = true := ready_nil hr h.1.sz rfl (by intro e he; simp at he; rcases he with rfl | rfl <;> assumption)
        have b13 : q9.getD 13 false = true := ready_nil hr h.1.sz rfl (by intro e he; simp at he; rcases he with rfl | rfl | rfl <;> assumption)
        have b14 : q9.getD 14 false = true := ready_nil hr h.1.sz rfl (by intro e he; simp at he; rcases he with rfl | rfl | rfl | rfl | rfl | rfl | rfl | rfl | rfl | rfl | rfl | rfl | rfl | rfl | rfl | rfl <;> assumption)
        obtain ⟨B, v, s, e1, e2, _, e4, _, e6⟩ := h.1.ex
        have hs : s = 4 := by have := (e4 3 (14, 13) rfl).1 b14; simp at e1; omega
        subst hs
        have hv : a.tmps.getD 13 undef = v := (e6 3 (14, 13) rfl rfl).symm
        have ha := act_puts a [13, 57, 58, 59, 60, 61, 62, 63, 64, 65, 66, 67, 68, 69, 70] _ h.2.df h.2.tz h.2.fx
        have HK0 : RK WB w6.heap.size T (w1.heap.size + 1) w1.heap.size (10 + 137 * n + n + 300 + 9000) 200 (insL l r y) (.slice a1 n q1) l v (insL l r y) w' := by have := e2.rk; rw [HL3.out.2.1] at this; exact this
        have hli : (insL l r y).length = n + 1 := by rw [insL_len l r y HRN.out, HN.out]
        have HLI : Hid ((insL l r y).length = n + 1 ∧ Gl (insL l r y)) := ⟨hli, insL_gl HG.out.1 r y hy⟩
        obtain ⟨a3, q3, ev⟩ := HK0.lu.form
        rw [hli] at ev
        subst ev
        have HK : Hid (RK WB w6.heap.size T (w1.heap.size + 1) w1.heap.size (10 + 137 * n + n + 300 + 9000) 200 (insL l r y) (.slice a1 n q1) l (.slice a3 (n + 1) q3) (insL l r y) w') := HK0
        obtain ⟨f, hf⟩ : ∃ f : Nat → Value, (fun d => a.tmps.getD d undef) = f := ⟨_, rfl⟩
        rw [hf] at ha
        have h13 : f 13 = .slice a3 (n + 1) q3 := by rw [← hf]; exact hv
        clear b0 b1 b2 b3 b4 b5 b6 b7 b8 b9 b10 b11 b12 b13 b14 e1 e2 e4 e6 hr h hf hv HK0 hli HSV HLE HL3 hs1 hs2 hcap wr1 ur
        subst ha
        have wd1 : IntKind.i64.wrap ((n : Int) + 1 - ((r : Int) + 1)) = (n : Int) - r := by rw [IntKind.wrap_i64]; omega
        have C4 := HK.out.run fun No k1 k2 t => is_row (l := insL l r y) t HLI.out.2 (by omega) (by rw [HLI.out.1]; omega) w6.heap.size a3 q3 (by rw [HLI.out.1]; have := HK.out.lu; rw [HLI.out.1] at this; exact this) (fun y e => k2 y (by rw [HLI.out.1] at e; exact e))
        rw [HLI.out.1] at C4
        simp only [putAll, Act.put, h13]
        go_wp2_with fail
        refine C4.mono ?_
        rintro e v4 ⟨rfl, K4⟩
        have C5 := K4.unp (by omega) (n + 1) (by omega)
        clear C4 K4 HK
        go_wp2_with fail
        refine C5.mono ?_
        rintro e v5 ⟨a5, q5, rfl, L5, K5⟩
        have C6 := same_any (n := n + 1) (F := fun i => (insL l r y).getD i nil) (lv_congr L5 fun i hi => by
          rw [rowf_in (by omega) (by rw [HLI.out.1]; omega)]; congr 1; omega) (by have := K5.lu; rw [HLI.out.1] at this; exact this) (by omega)
        have HK5 : Hid _ := K5
        clear C5 L5 K5
        go_wp2_with fail
        refine C6.mono ?_
        rintro e v6 ⟨rfl, b6⟩
        have er : rowf (insL l r y) ((r : Int) + 1) = y := by
          have := HRN.out
          rw [rowf_in (by omega) (by rw [HLI.out.1, ← HN.out]; omega), show ((r : Int) + 1 - 1).toNat = r by omega, List.getD_eq_getElem?_getD, insL_at l r y this]; rfl
        have el : ((insL l r y).length : Int) - 1 - (r : Int) = (n : Int) - r := by rw [HLI.out.1]; omega
        have ee : (insL l r y).eraseIdx r = l := insL_erase l r y HRN.out
        have C7 := (HK5.out.below b6).run fun No k1 k2 t => remove_ok t HLI.out.2 (by omega) (by rw [HLI.out.1]; omega) (by omega) r (by have := HRN.out; rw [HLI.out.1, ← HN.out]; omega) 1000 (by rw [HLI.out.1]; omega) (by omega)
        rw [er, el, ee, HLI.out.1] at C7
        clear C6 b6 HK5 er el ee
        go_wp2_with fail
        refine C7.mono ?_
        rintro e v7 ⟨rfl, K7⟩
        have K8 := K7.below (Go.Proofs.YtckgoedlgecokaaGreatDoor.b1 v7 (vb y.1 y.2.1 y.2.2))
        have bz := Bx.made v7 y
        have z0 := bz.c0
        have z1 := bz.c1
        have z2 := bz.c2
        have bw := HBX.out.below K8.bl
        have q0 := bw.c0
        have q11 := bw.c1
        have q22 := bw.c2
        have eqv := eqlV y
        have HK8 : Hid (RK WB w6.heap.size T (w1.heap.size + 1) w1.heap.size (10 + 137 * n + n + 300 + 9000 + (n + 1) + 300 + 300 + (200 + 8 * (n + 1 - r))) 200 l (.slice a1 n q1) l (.slice a3 (n + 1) q3) (insL l r y) (v7.alloc (vb y.1 y.2.1 y.2.2))) := K8.more (by omega)
        have C8 := HK8.out.run fun No k1 k2 t => is_row (l := l) t HG.out.1 (by omega) (by rw [HN.out]; omega) WB.heap.size a1 q1 (by rw [HN.out]; have := HK8.out.lv; rw [HN.out] at this; exact this) (fun y e => k1 y (by rw [HN.out] at e; exact e))
        rw [HN.out] at C8
        have HB0 : Hid (Below w.heap.size w WB) := HI.out.1
        clear C7 K7 K8 bz bw HI HK8 HBX
        unfold vv vl
        unfold vb at z0 z1 z2 q0 q11 q22 C8
        go_wp2_with fail
        refine C8.mono ?_
        rintro e v8 ⟨rfl, K9⟩
        have HB8 : Hid (Below w.heap.size w v8) := HB0.out.trans (K9.bl.mono HB0.out.size)
        clear C8 K9 z0 z1 z2 q0 q11 q22
        go_wp2
        go_ret
        exact ⟨rfl, HB8.out⟩
    · have hch : chk x.1 x.2.1 x.2.2 = 2 := by show (if fm x = true then (0 : Int) else 2) = 2; rw [if_neg hf]
      rw [hch] at C
      clear hch hf
      go_wp2_with fail
      refine C.mono ?_
      rintro e w4 ⟨rfl, hw4⟩
      obtain rfl : W5 = w4 := hw4.symm
      clear C
      go_wp2_with fail
      refine CS.mono ?_
      rintro e w5 ⟨rfl, b5⟩
      obtain ⟨R5, s1, s2, s3, s4⟩ := HS.out w5 b5
      have d0 := R5.bx.c0
      have d1 := R5.bx.c1
      have d2 := R5.bx.c2
      have df := R5.fz
      obtain ⟨W6, hW6⟩ : ∃ W6, set3 w5 w.heap.size y = W6 := ⟨_, rfl⟩
      rw [hW6] at s4
      obtain ⟨WB, hWB⟩ : ∃ WB, set3 W0 w.heap.size y = WB := ⟨_, rfl⟩
      rw [hWB] at s1 s2 s3 s4
      have HI : Hid (Below w.heap.size w WB ∧ w.heap.size < WB.heap.size ∧ Bx WB w.heap.size y ∧ RJ WB T (w1.heap.size + 1) w1.heap.size (10 + 137 * n + n + 300) 200 l (.slice a1 n q1) l W6) := ⟨s1, s2, s3, s4⟩
      unfold set3 at hW6
      rw [hyv] at hW6
      simp only at hW6
      clear CS HS R5 s1 s2 s3 s4 hWB b5 x0 x1 x2 y0 y1 y2 yf hyv hgv
      unfold vl
      have wn1 : IntKind.i64.wrap ((n : Int) + 1) = (n : Int) + 1 := by rw [IntKind.wrap_i64]; omega
      have n0 : ¬ (n : Int) + 1 = 0 := by omega
      have hn1000 : n ≤ 1000 := by omega
      have hfu : ∀ r : Nat, (l.length : Int) - (r : Int) ≤ 1000 := fun r => by have := HN.out; omega
      have hlk : l.length < 200 := by rw [HN.out]; omega
      have hc4 : 10 + 137 * n + n + 300 ≤ 400000 := by omega
      have y0 := (HI.out.2.2.1.below HI.out.2.2.2.bl).c0
      have y1 := (HI.out.2.2.1.below HI.out.2.2.2.bl).c1
      have y2 := (HI.out.2.2.1.below HI.out.2.2.2.bl).c2
      obtain ⟨U, r, hU, u1, u2, u3, u4, u5, u6, hr⟩ := pos1_facts k n hn1000
      clear hn1000
      have C3 := HI.out.2.2.2.run fun No hq t => insert_ok (l := l) t HG.out.1 hc4 hlk (by decide) r (by rw [HN.out]; exact hr) y hy 1000 (hfu r) (by decide)
      rw [HN.out] at C3
      go_wp2_with fail
      refine C3.mono ?_
      rintro e w6 ⟨rfl, R6⟩
      clear C3 hfu hlk hc4 u1 u2 u3 u4 u5 u6 hU y0 y1 y2
      have wr1 : IntKind.i64.wrap ((r : Int) + 1 - 1) = (r : Int) := by rw [IntKind.wrap_i64]; omega
      have ur : IntKind.i64.wrap (r : Int) = (r : Int) := by rw [IntKind.wrap_i64]; omega
      have hrn : r ≤ l.length := by rw [HN.out]; exact hr
      have hcap := R6.cap
      have hs1 := slice_to a1 (q := q1) (n := n) (r := r) hr (by rw [← HN.out]; exact hcap)
      obtain ⟨a2, q2, hs2, hsv⟩ := slice_from (m := l) (a := a1) (n := n) (q := q1) hcap HN.out hr
      have K0 : RK WB w6.heap.size T (w1.heap.size + 1) w1.heap.size (10 + 137 * n + n + 300 + 9000) 200 (insL l r y) (.slice a1 n q1) l (.slice none 0 0) [] w6.drew := RK.of R6.drew rfl
      obtain ⟨LS, hLS⟩ : ∃ LS : Nat → List V, LS = fun s => if s = 0 then [] else if s = 1 then l.take r else if s = 2 then l.take r ++ [y] else insL l r y := ⟨_, rfl⟩
      have HLE : Hid ((LS 0).length + (l.take r).length ≤ 1000 ∧ LS 0 ++ l.take r = LS 1 ∧ (LS 1).length + [y].length ≤ 1000 ∧ LS 1 ++ [y] = LS 2 ∧ (LS 2).length + (l.drop r).length ≤ 1000 ∧ LS 2 ++ l.drop r = LS 3) := by
        have := HN.out
        subst hLS
        refine ⟨?_, rfl, ?_, rfl, ?_, ?_⟩
        · show 0 + (l.take r).length ≤ 1000
          rw [List.length_take]; omega
        · show (l.take r).length + 1 ≤ 1000
          rw [List.length_take]; omega
        · show (l.take r ++ [y]).length + (l.drop r).length ≤ 1000
          rw [List.length_append, List.length_take, List.length_drop, List.length_singleton]; omega
        · show l.take r ++ [y] ++ l.drop r = insL l r y
          unfold insL
          rw [List.append_assoc]; rfl
      have HRN : Hid (r ≤ l.length) := hrn
      have HSV : Hid (∀ (W : World) (B : Nat), Lv W B (.slice a1 n q1) l.length (fun i => l.getD i nil) → Sv W (.slice a2 (n - r) q2) (l.drop r)) := hsv
      have HBX : Hid (Bx WB w.heap.size y) := HI.out.2.2.1
      have HL3 : Hid (LS 3 = insL l r y ∧ LS 4 = insL l r y ∧ LS 0 = []) := by subst hLS; exact ⟨rfl, rfl, rfl⟩
      clear R6 hsv hLS
      go_wp2_with fail
      refine wp_region_any (by kernel_rfl) ?_
      refine wpAny_inv (fun l' a w' => Ir 15 131 [4, 8, 10] (fun x => if x = 4 then .pointer (some ⟨w.heap.size, 0, none⟩) else if x = 8 then (.slice a1 n q1) else (.int .i64 ((r : Int) + 1))) [(0, 57), (1, 58), (2, 59), (3, 60), (4, 61), (6, 63), (9, 66), (10, 67), (11, 68), (12, 69)] (fun i => if i = 0 then (.slice none 0 0) else if i = 1 then (.slice a1 n q1) else if i = 2 then (.int .i64 ((r : Int) + 1)) else if i = 3 then (.int .i64 (r : Nat)) else if i = 4 then (.slice a1 r q1) else if i = 6 then (.agg #[.int .i64 y.1, .int .i64 y.2.1, .string y.2.2]) else if i = 9 then (.slice a1 n q1) else if i = 10 then (.int .i64 ((r : Int) + 1)) else if i = 11 then (.int .i64 (r : Nat)) else if i = 12 then (.slice a2 (n - r) q2) else undef) [(7, 64)] (fun _ => #[.int .i64 y.1, .int .i64 y.2.1, .string y.2.2]) [(5, 62), (8, 65), (13, 70), (14, 13)] (.slice none 0 0) (fun s B v w' => LyP WB w6.heap.size T (w1.heap.size + 1) w1.heap.size (10 + 137 * n + n + 300 + 9000) (insL l r y) (.slice a1 n q1) l y LS s B v w') l' a w' ∧ Ex [13, 57, 58, 59, 60, 61, 62, 63, 64, 65, 66, 67, 68, 69, 70] _ l' a) (by intro l a w h; exact h.1.sz) ?hs ?hd _ _ _ _ (by decide) ⟨Ir.start rfl rfl (by intro x hx; simp at hx; rcases hx with rfl | rfl | rfl <;> rfl) ⟨by rw [HL3.out.2.2]; exact K0, fun g cs hg => by cases hg⟩, Ex.start rfl⟩
      case hs =>
        clear K0
        intro q9 a w' h i hi
        have hin : i < 15 := ready_lt hi
        have hii : i = 0 ∨ i = 1 ∨ i = 2 ∨ i = 3 ∨ i = 4 ∨ i = 5 ∨ i = 6 ∨ i = 7 ∨ i = 8 ∨ i = 9 ∨ i = 10 ∨ i = 11 ∨ i = 12 ∨ i = 13 ∨ i = 14 := by omega
        clear hin
        rcases hii with rfl | rfl | rfl | rfl | rfl | rfl | rfl | rfl | rfl | rfl | rfl | rfl | rfl | rfl | rfl
        · have f13 : a.tmps[13]?.getD undef = .slice none 0 0 := tmp_at (h.2.s13 (ready_get hi rfl).1)
          refine wpOp_val rfl rfl rfl (v := (.slice none 0 0)) (w' := w') ?_ ⟨h.1.pure 0 57 _ rfl (by decide) (by decide) (by decide) (by decide) (by decide) (by decide), h.2.put 0 57 _ (by decide) (.inl (by decide))⟩
          simp [go_sem, f13]
        · have f8 : a.tmps[8]?.getD undef = (.slice a1 n q1) := tmp_at (h.1.fx 8 (by simp))
          refine wpOp_val rfl rfl rfl (v := (.slice a1 n q1)) (w' := w') ?_ ⟨h.1.pure 1 58 _ rfl (by decide) (by decide) (by decide) (by decide) (by decide) (by decide), h.2.put 1 58 _ (by decide) (.inl (by decide))⟩
          simp [go_sem, f8]
        · have f10 : a.tmps[10]?.getD undef = (.int .i64 ((r : Int) + 1)) := tmp_at (h.1.fx 10 (by simp))
          refine wpOp_val rfl rfl rfl (v := (.int .i64 ((r : Int) + 1))) (w' := w') ?_ ⟨h.1.pure 2 59 _ rfl (by decide) (by decide) (by decide) (by decide) (by decide) (by decide), h.2.put 2 59 _ (by decide) (.inl (by decide))⟩
          simp [go_sem, f10]
        · have hr := (ready_get hi rfl).2
          have e2 : a.tmps[59]?.getD undef = (.int .i64 ((r : Int) + 1)) := tmp_at (h.1.pu (2, 59) (by simp) (hr { on := 2, ground := .data } (by simp) rfl))
          refine wpOp_val rfl rfl rfl (v := (.int .i64 (r : Nat))) (w' := w') ?_ ⟨h.1.pure 3 60 _ rfl (by decide) (by decide) (by decide) (by decide) (by decide) (by decide), h.2.put 3 60 _ (by decide) (.inl (by decide))⟩
          simp [go_sem, e2, ur]
        · have hr := (ready_get hi rfl).2
          have e1 : a.tmps[58]?.getD undef = (.slice a1 n q1) := tmp_at (h.1.pu (1, 58) (by simp) (hr { on := 1, ground := .data } (by simp) rfl))
          have e3 : a.tmps[60]?.getD undef = (.int .i64 (r : Nat)) := tmp_at (h.1.pu (3, 60) (by simp) (hr { on := 3, ground := .data } (by simp) rfl))
          refine wpOp_val rfl rfl rfl (v := (.slice a1 r q1)) (w' := w') ?_ ⟨h.1.pure 4 61 _ rfl (by decide) (by decide) (by decide) (by decide) (by decide) (by decide), h.2.put 4 61 _ (by decide) (.inl (by decide))⟩
          simp [go_sem, e1, e3, hs1]
        · obtain ⟨hb, hr⟩ := ready_get hi rfl
          have hpp : ∀ i' c', 0 = i' + 1 → [(5, 62), (8, 65), (13, 70), (14, 13)][i']? = some c' → q9.getD c'.1 false = true := fun i' c' e => absurd e (by omega)
          obtain ⟨B, v, hL, hA, hv0, hv1⟩ := h.1.at 0 (5, 62) rfl hb hpp
          have hv : a.tmps.getD 57 undef = v := (h.1.pu (0, 57) (by simp) (hr { on := 0, ground := .data } (by simp) rfl)).trans (hv0 rfl).symm
          have hch : ∀ j' c, [(5, 62), (8, 65), (13, 70), (14, 13)][j']? = some c → j' = 0 ∨ (c.1 ≠ 5 ∧ c.2 ≠ 62) := chain_other [(5, 62), (8, 65), (13, 70), (14, 13)] 0 5 62 (by decide)
          have e4 : a.tmps.getD 61 undef = (.slice a1 r q1) := h.1.pu (4, 61) (by simp) (hr { on := 4, ground := .data } (by simp) rfl)
          obtain ⟨aa, qq, w2, hrr, L2⟩ := LyP.app hL (sv_take hL.rk.lv HRN.out) HLE.out.1 HLE.out.2.1
          exact wpOp_law rfl rfl (step_run (by rfl) _ _ (by rfl) (by rfl) (tmp_ev hv) (tmp_ev e4) hrr ⟨h.1.next 0 5 62 _ B rfl hb hpp L2 hA (by decide) (by decide) (by decide) hch (by decide) (by decide), h.2.put 5 62 _ (by decide) (.inl (by decide))⟩)
        · have f4 : a.tmps[4]?.getD undef = .pointer (some ⟨w.heap.size, 0, none⟩) := tmp_at (h.1.fx 4 (by simp))
          obtain ⟨B9, v9, s9, _, hL9, _⟩ := h.1.ex
          have bx9 := HBX.out.below hL9.rk.bl
          have b0 := bx9.c0
          have b1 := bx9.c1
          have b2 := bx9.c2
          refine wpOp_val rfl rfl rfl (v := (.agg #[.int .i64 y.1, .int .i64 y.2.1, .string y.2.2])) (w' := w') ?_ ⟨h.1.pure 6 63 _ rfl (by decide) (by decide) (by decide) (by decide) (by decide) (by decide), h.2.put 6 63 _ (by decide) (.inl (by decide))⟩
          simp [go_sem, f4, b0, b1, b2]
        · have hr := (ready_get hi rfl).2
          have e6 : a.tmps[63]?.getD undef = (.agg #[.int .i64 y.1, .int .i64 y.2.1, .string y.2.2]) := tmp_at (h.1.pu (6, 63) (by simp) (hr { on := 6, ground := .data } (by simp) rfl))
          exact wpOp_val rfl rfl rfl (v := .slice (some ⟨w'.heap.size, 0, none⟩) 1 1) (w' := w'.alloc (.cells #[.int .i64 y.1, .int .i64 y.2.1, .string y.2.2] 24)) (by simp [go_sem, e6]) ⟨h.1.box 7 64 (fun s B v hL => LyP.box hL _) (by decide) (by decide) (by decide) (by decide) (by decide), h.2.put 7 64 _ (by decide) (.inl (by decide))⟩
        · obtain ⟨hb, hr⟩ := ready_get hi rfl
          have hp : q9.getD 5 false = true := hr { on := 5, ground := .data } (by simp) rfl
          have hpp : ∀ i' c', 1 = i' + 1 → [(5, 62), (8, 65), (13, 70), (14, 13)][i']? = some c' → q9.getD c'.1 false = true := by
            intro i' c' e hc
            obtain rfl : i' = 0 := by omega
            injection hc with hc
            subst hc
            exact hp
          obtain ⟨B, v, hL, hA, hv0, hv1⟩ := h.1.at 1 (8, 65) rfl hb hpp
          have hv : a.tmps.getD 62 undef = v := (hv1 0 (5, 62) rfl rfl).symm
          have hch : ∀ j' c, [(5, 62), (8, 65), (13, 70), (14, 13)][j']? = some c → j' = 1 ∨ (c.1 ≠ 8 ∧ c.2 ≠ 65) := chain_other [(5, 62), (8, 65), (13, 70), (14, 13)] 1 8 65 (by decide)
          obtain ⟨g, hg1, hg2⟩ := hA (7, 64) (by simp) (hr { on := 7, ground := .data } (by simp) rfl)
          obtain ⟨aa, qq, w2, hrr, L2⟩ := LyP.app hL (sv_box (hL.bx g _ hg2).2) HLE.out.2.2.1 HLE.out.2.2.2.1
          exact wpOp_law rfl rfl (step_run (by rfl) _ _ (by rfl) (by rfl) (tmp_ev hv) (tmp_ev hg1) hrr ⟨h.1.next 1 8 65 _ B rfl hb hpp L2 hA (by decide) (by decide) (by decide) hch (by decide) (by decide), h.2.put 8 65 _ (by decide) (.inl (by decide))⟩)
        · have f8 : a.tmps[8]?.getD undef = (.slice a1 n q1) := tmp_at (h.1.fx 8 (by simp))
          refine wpOp_val rfl rfl rfl (v := (.slice a1 n q1)) (w' := w') ?_ ⟨h.1.pure 9 66 _ rfl (by decide) (by decide) (by decide) (by decide) (by decide) (by decide), h.2.put 9 66 _ (by decide) (.inl (by decide))⟩
          simp [go_sem, f8]
        · have f10 : a.tmps[10]?.getD undef = (.int .i64 ((r : Int) + 1)) := tmp_at (h.1.fx 10 (by simp))
          refine wpOp_val rfl rfl rfl (v := (.int .i64 ((r : Int) + 1))) (w' := w') ?_ ⟨h.1.pure 10 67 _ rfl (by decide) (by decide) (by decide) (by decide) (by decide) (by decide), h.2.put 10 67 _ (by decide) (.inl (by decide))⟩
          simp [go_sem, f10]
        · have hr := (ready_get hi rfl).2
          have e10 : a.tmps[67]?.getD undef = (.int .i64 ((r : Int) + 1)) := tmp_at (h.1.pu (10, 67) (by simp) (hr { on := 10, ground := .data } (by simp) rfl))
          refine wpOp_val rfl rfl rfl (v := (.int .i64 (r : Nat))) (w' := w') ?_ ⟨h.1.pure 11 68 _ rfl (by decide) (by decide) (by decide) (by decide) (by decide) (by decide), h.2.put 11 68 _ (by decide) (.inl (by decide))⟩
          simp [go_sem, e10, ur]
        · have hr := (ready_get hi rfl).2
          have e9 : a.tmps[66]?.getD undef = (.slice a1 n q1) := tmp_at (h.1.pu (9, 66) (by simp) (hr { on := 9, ground := .data } (by simp) rfl))
          have e11 : a.tmps[68]?.getD undef = (.int .i64 (r : Nat)) := tmp_at (h.1.pu (11, 68) (by simp) (hr { on := 11, ground := .data } (by simp) rfl))
          refine wpOp_val rfl rfl rfl (v := (.slice a2 (n - r) q2)) (w' := w') ?_ ⟨h.1.pure 12 69 _ rfl (by decide) (by decide) (by decide) (by decide) (by decide) (by decide), h.2.put 12 69 _ (by decide) (.inl (by decide))⟩
          simp [go_sem, e9, e11, hs2]
        · obtain ⟨hb, hr⟩ := ready_get hi rfl
          have hp : q9.getD 8 false = true := hr { on := 8, ground := .data } (by simp) rfl
          have hpp : ∀ i' c', 2 = i' + 1 → [(5, 62), (8, 65), (13, 70), (14, 13)][i']? = some c' → q9.getD c'.1 false = true := by
            intro i' c' e hc
            obtain rfl : i' = 1 := by omega
            injection hc with hc
            subst hc
            exact hp
          obtain ⟨B, v, hL, hA, hv0, hv1⟩ := h.1.at 2 (13, 70) rfl hb hpp
          have hv : a.tmps.getD 65 undef = v := (hv1 1 (8, 65) rfl rfl).symm
          have hch : ∀ j' c, [(5, 62), (8, 65), (13, 70), (14, 13)][j']? = some c → j' = 2 ∨ (c.1 ≠ 13 ∧ c.2 ≠ 70) := chain_other [(5, 62), (8, 65), (13, 70), (14, 13)] 2 13 70 (by decide)
          have e12 : a.tmps.getD 69 undef = (.slice a2 (n - r) q2) := h.1.pu (12, 69) (by simp) (hr { on := 12, ground := .data } (by simp) rfl)
          obtain ⟨aa, qq, w2, hrr, L2⟩ := LyP.app hL (HSV.out _ _ hL.rk.lv) HLE.out.2.2.2.2.1 HLE.out.2.2.2.2.2
          exact wpOp_law rfl rfl (step_run (by rfl) _ _ (by rfl) (by rfl) (tmp_ev hv) (tmp_ev e12) hrr ⟨h.1.next 2 13 70 _ B rfl hb hpp L2 hA (by decide) (by decide) (by decide) hch (by decide) (by decide), h.2.put 13 70 _ (by decide) (.inl (by decide))⟩)
        · obtain ⟨hb, hr⟩ := ready_get hi rfl
          have hp : q9.getD 13 false = true := hr { on := 13, ground := .data } (by simp) rfl
          have hpp : ∀ i' c', 3 = i' + 1 → [(5, 62), (8, 65), (13, 70), (14, 13)][i']? = some c' → q9.getD c'.1 false = true := by
            intro i' c' e hc
            obtain rfl : i' = 2 := by omega
            injection hc with hc
            subst hc
            exact hp
          obtain ⟨B, v, hL, hA, hv0, hv1⟩ := h.1.at 3 (14, 13) rfl hb hpp
          have hv : a.tmps.getD 70 undef = v := (hv1 2 (13, 70) rfl rfl).symm
          have hch : ∀ j' c, [(5, 62), (8, 65), (13, 70), (14, 13)][j']? = some c → j' = 3 ∨ (c.1 ≠ 14 ∧ c.2 ≠ 13) := chain_other [(5, 62), (8, 65), (13, 70), (14, 13)] 3 14 13 (by decide)
          have ev := tmp_at hv
          exact wpOp_val rfl rfl rfl (v := v) (w' := w') (by simp [go_sem, ev]) ⟨h.1.next 3 14 13 v B rfl hb hpp ⟨by have := hL.rk; rw [HL3.out.1] at this; rw [HL3.out.2.1]; exact this, hL.bx⟩ hA (by decide) (by decide) (by decide) hch (by decide) (by decide), h.2.put 14 13 _ (by decide) (.inr (hr { on := 0, ground := .phase } (by simp) rfl))⟩
      case hd =>
        clear K0
        intro q9 a w' h hr
        have b0 : q9.getD 0 false = true := ready_nil hr h.1.sz rfl (by intro e he; simp at he)
        have b1 : q9.getD 1 false = true := ready_nil hr h.1.sz rfl (by intro e he; simp at he)
        have b2 : q9.getD 2 false = true := ready_nil hr h.1.sz rfl (by intro e he; simp at he)
        have b3 : q9.getD 3 false = true := ready_nil hr h.1.sz rfl (by intro e he; simp at he; subst he; assumption)
        have b4 : q9.getD 4 false = true := ready_nil hr h.1.sz rfl (by intro e he; simp at he; rcases he with rfl | rfl <;> assumption)
        have b5 : q9.getD 5 false = true := ready_nil hr h.1.sz rfl (by intro e he; simp at he; rcases he with rfl | rfl <;> assumption)
        have b6 : q9.getD 6 false = true := ready_nil hr h.1.sz rfl (by intro e he; simp at he)
        have b7 : q9.getD 7 false = true := ready_nil hr h.1.sz rfl (by intro e he; simp at he; subst he; assumption)
        have b8 : q9.getD 8 false = true := ready_nil hr h.1.sz rfl (by intro e he; simp at he; rcases he with rfl | rfl | rfl <;> assumption)
        have b9 : q9.getD 9 false = true := ready_nil hr h.1.sz rfl (by intro e he; simp at he)
        have b10 : q9.getD 10 false = true := ready_nil hr h.1.sz rfl (by intro e he; simp at he)
        have b11 : q9.getD 11 false = true := ready_nil hr h.1.sz rfl (by intro e he; simp at he; subst he; assumption)
        have b12 : q9.getD 12 false = true := ready_nil hr h.1.sz rfl (by intro e he; simp at he; rcases he with rfl | rfl <;> assumption)
        have b13 : q9.getD 13 false = true := ready_nil hr h.1.sz rfl (by intro e he; simp at he; rcases he with rfl | rfl | rfl <;> assumption)
        have b14 : q9.getD 14 false = true := ready_nil hr h.1.sz rfl (by intro e he; simp at he; rcases he with rfl | rfl | rfl | rfl | rfl | rfl | rfl | rfl | rfl | rfl | rfl | rfl | rfl | rfl | rfl | rfl <;> assumption)
        obtain ⟨B, v, s, e1, e2, _, e4, _, e6⟩ := h.1.ex
        have hs : s = 4 := by have := (e4 3 (14, 13) rfl).1 b14; simp at e1; omega
        subst hs
        have hv : a.tmps.getD 13 undef = v := (e6 3 (14, 13) rfl rfl).symm
        have ha := act_puts a [13, 57, 58, 59, 60, 61, 62, 63, 64, 65, 66, 67, 68, 69, 70] _ h.2.df h.2.tz h.2.fx
        have HK0 : RK WB w6.heap.size T (w1.heap.size + 1) w1.heap.size (10 + 137 * n + n + 300 + 9000) 200 (insL l r y) (.slice a1 n q1) l v (insL l r y) w' := by have := e2.rk; rw [HL3.out.2.1] at this; exact this
        have hli : (insL l r y).length = n + 1 := by rw [insL_len l r y HRN.out, HN.out]
        have HLI : Hid ((insL l r y).length = n + 1 ∧ Gl (insL l r y)) := ⟨hli, insL_gl HG.out.1 r y hy⟩
        obtain ⟨a3, q3, ev⟩ := HK0.lu.form
        rw [hli] at ev
        subst ev
        have HK : Hid (RK WB w6.heap.size T (w1.heap.size + 1) w1.heap.size (10 + 137 * n + n + 300 + 9000) 200 (insL l r y) (.slice a1 n q1) l (.slice a3 (n + 1) q3) (insL l r y) w') := HK0
        obtain ⟨f, hf⟩ : ∃ f : Nat → Value, (fun d => a.tmps.getD d undef) = f := ⟨_, rfl⟩
        rw [hf] at ha
        have h13 : f 13 = .slice a3 (n + 1) q3 := by rw [← hf]; exact hv
        clear b0 b1 b2 b3 b4 b5 b6 b7 b8 b9 b10 b11 b12 b13 b14 e1 e2 e4 e6 hr h hf hv HK0 hli HSV HLE HL3 hs1 hs2 hcap wr1 ur
        subst ha
        have wd1 : IntKind.i64.wrap ((n : Int) + 1 - ((r : Int) + 1)) = (n : Int) - r := by rw [IntKind.wrap_i64]; omega
        have C4 := HK.out.run fun No k1 k2 t => is_row (l := insL l r y) t HLI.out.2 (by omega) (by rw [HLI.out.1]; omega) w6.heap.size a3 q3 (by rw [HLI.out.1]; have := HK.out.lu; rw [HLI.out.1] at this; exact this) (fun y e => k2 y (by rw [HLI.out.1] at e; exact e))
        rw [HLI.out.1] at C4
        simp only [putAll, Act.put, h13]
        go_wp2_with fail
        refine C4.mono ?_
        rintro e v4 ⟨rfl, K4⟩
        have C5 := K4.unp (by omega) (n + 1) (by omega)
        clear C4 K4 HK
        go_wp2_with fail
        refine C5.mono ?_
        rintro e v5 ⟨a5, q5, rfl, L5, K5⟩
        have C6 := same_any (n := n + 1) (F := fun i => (insL l r y).getD i nil) (lv_congr L5 fun i hi => by
          rw [rowf_in (by omega) (by rw [HLI.out.1]; omega)]; congr 1; omega) (by have := K5.lu; rw [HLI.out.1] at this; exact this) (by omega)
        have HK5 : Hid _ := K5
        clear C5 L5 K5
        go_wp2_with fail
        refine C6.mono ?_
        rintro e v6 ⟨rfl, b6⟩
        have er : rowf (insL l r y) ((r : Int) + 1) = y := by
          have := HRN.out
          rw [rowf_in (by omega) (by rw [HLI.out.1, ← HN.out]; omega), show ((r : Int) + 1 - 1).toNat = r by omega, List.getD_eq_getElem?_getD, insL_at l r y this]; rfl
        have el : ((insL l r y).length : Int) - 1 - (r : Int) = (n : Int) - r := by rw [HLI.out.1]; omega
        have ee : (insL l r y).eraseIdx r = l := insL_erase l r y HRN.out
        have C7 := (HK5.out.below b6).run fun No k1 k2 t => remove_ok t HLI.out.2 (by omega) (by rw [HLI.out.1]; omega) (by omega) r (by have := HRN.out; rw [HLI.out.1, ← HN.out]; omega) 1000 (by rw [HLI.out.1]; omega) (by omega)
        rw [er, el, ee, HLI.out.1] at C7
        clear C6 b6 HK5 er el ee
        go_wp2_with fail
        refine C7.mono ?_
        rintro e v7 ⟨rfl, K7⟩
        have K8 := K7.below (Go.Proofs.YtckgoedlgecokaaGreatDoor.b1 v7 (vb y.1 y.2.1 y.2.2))
        have bz := Bx.made v7 y
        have z0 := bz.c0
        have z1 := bz.c1
        have z2 := bz.c2
        have bw := HBX.out.below K8.bl
        have q0 := bw.c0
        have q11 := bw.c1
        have q22 := bw.c2
        have eqv := eqlV y
        have HK8 : Hid (RK WB w6.heap.size T (w1.heap.size + 1) w1.heap.size (10 + 137 * n + n + 300 + 9000 + (n + 1) + 300 + 300 + (200 + 8 * (n + 1 - r))) 200 l (.slice a1 n q1) l (.slice a3 (n + 1) q3) (insL l r y) (v7.alloc (vb y.1 y.2.1 y.2.2))) := K8.more (by omega)
        have C8 := HK8.out.run fun No k1 k2 t => is_row (l := l) t HG.out.1 (by omega) (by rw [HN.out]; omega) WB.heap.size a1 q1 (by rw [HN.out]; have := HK8.out.lv; rw [HN.out] at this; exact this) (fun y e => k1 y (by rw [HN.out] at e; exact e))
        rw [HN.out] at C8
        have HB0 : Hid (Below w.heap.size w WB) := HI.out.1
        clear C7 K7 K8 bz bw HI HK8 HBX
        unfold vv vl
        unfold vb at z0 z1 z2 q0 q11 q22 C8
        go_wp2_with fail
        refine C8.mono ?_
        rintro e v8 ⟨rfl, K9⟩
        have HB8 : Hid (Below w.heap.size w v8) := HB0.out.trans (K9.bl.mono HB0.out.size)
        clear C8 K9 z0 z1 z2 q0 q11 q22
        go_wp2
        go_ret
        exact ⟨rfl, HB8.out⟩
end Go.Proofs.YtckgoedlgecokaaGreatDoor
