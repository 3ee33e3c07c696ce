/- The walk of TableCells. -/
import Derived.Test.YtonopchpnhninabCg20
namespace Go.Proofs.Ytonopchpnhninab
open Go.RowKit

structure Cs (P : Nat → Prop) (W w : World) (X : Nat) (xs ys : Value) (S hb c : Nat) (pa pb : Value) : Prop where
  st : ∃ s na nb, Tw2 P w S hb c s pa pb na nb
  lo : ∀ g, g ≤ X + 1 → P g
  bel : Below X W w
  xc : w.cell? ⟨X, 3, none⟩ = some xs
  yc : w.cell? ⟨X + 1, 3, none⟩ = some ys
  sz : X + 1 < w.heap.size
variable {P : Nat → Prop} {W w w' : World} {X : Nat} {xs ys : Value} {S hb c : Nat} {pa pb : Value}
theorem Cs.kept (h : Cs P W w X xs ys S hb c pa pb) {c' : Nat} (ht : ∃ s na nb, Tw2 P w' S hb c' s pa pb na nb) (k : Keep P w w') : Cs P W w' X xs ys S hb c' pa pb :=
  ⟨ht, h.lo, h.bel.trans (k.below (by have := h.sz; omega) (fun g hg => h.lo g (by omega))), by rw [World.cell?_of_block (w := w) (k.block X (by have := h.sz; omega) (h.lo X (by omega)))]; exact h.xc, by rw [World.cell?_of_block (w := w) (k.block (X + 1) h.sz (h.lo (X + 1) (by omega)))]; exact h.yc, Nat.lt_of_lt_of_le h.sz k.size⟩
theorem Cs.below (h : Cs P W w X xs ys S hb c pa pb) (k : Below w.heap.size w w') : Cs P W w' X xs ys S hb c pa pb := by
  obtain ⟨s, na, nb, ht⟩ := h.st
  exact h.kept ⟨s, na, nb, ht.below k⟩ (Keep.of k)
theorem Cs.setA (h : Cs P W w X xs ys S hb c pa pb) (hc : c ≤ 700000) (k v : V) (hr : Rng k) : Calls Try.prog 11 #[pa, vv k, vv v] w fun e w' => ∃ x, e = .returned (.int .i64 x) ∧ Cs P W w' X xs ys S hb (c + 7) pa pb := by
  obtain ⟨s, na, nb, ht⟩ := h.st
  refine (ht.set hc k v hr).mono ?_
  rintro e w' ⟨x, s', na', rfl, h', kk⟩
  exact ⟨x, rfl, h.kept ⟨_, _, _, h'⟩ kk⟩
theorem Cs.setB (h : Cs P W w X xs ys S hb c pa pb) (hc : c ≤ 700000) (k v : V) (hr : Rng k) : Calls Try.prog 11 #[pb, vv k, vv v] w fun e w' => ∃ x, e = .returned (.int .i64 x) ∧ Cs P W w' X xs ys S hb (c + 7) pa pb := by
  obtain ⟨s, na, nb, ht⟩ := h.st
  refine (ht.swap.set hc k v hr).mono ?_
  rintro e w' ⟨x, s', na', rfl, h', kk⟩
  exact ⟨x, rfl, h.kept ⟨_, _, _, h'.swap⟩ kk⟩

/-- Two structs of four cells are stored anew. -/
theorem two_set {w : World} {X : Nat} {a0 a1 a2 a3 b0 b1 b2 b3 : Value} (h1 : R4 w X a0 a1 a2 a3) (h2 : R4 w (X + 1) b0 b1 b2 b3) (u0 u1 u2 u3 v0 v1 v2 v3 : Value) :
    R4 (set4 w X u0 u1 u2 u3) (X + 1) b0 b1 b2 b3 ∧ R4 (set4 (set4 w X u0 u1 u2 u3) (X + 1) v0 v1 v2 v3) X u0 u1 u2 u3 ∧ R4 (set4 (set4 w X u0 u1 u2 u3) (X + 1) v0 v1 v2 v3) (X + 1) v0 v1 v2 v3 ∧ Keep (fun g => g ≠ X ∧ g ≠ X + 1) w (set4 (set4 w X u0 u1 u2 u3) (X + 1) v0 v1 v2 v3) := by
  have r2 := h2.kept ((Keep.refl (fun g => g ≠ X) w).set4 (N := X) (fun q => q rfl) u0 u1 u2 u3) (by show X + 1 ≠ X; omega)
  have r1 := h1.set u0 u1 u2 u3
  exact ⟨r2, r1.kept ((Keep.refl (fun g => g ≠ X + 1) _).set4 (N := X + 1) (fun q => q rfl) v0 v1 v2 v3) (by show X ≠ X + 1; omega), r2.set v0 v1 v2 v3, ((Keep.refl (fun g => g ≠ X ∧ g ≠ X + 1) w).set4 (N := X) (fun q => q.1 rfl) u0 u1 u2 u3).set4 (N := X + 1) (fun q => q.2 rfl) v0 v1 v2 v3⟩
theorem lim_ok (lim : Int) : ∃ M, wrap64 ((IntKind.u64.wrap lim).tmod 3000) = M ∧ 0 ≤ M ∧ M ≤ 400000 := by
  refine ⟨_, rfl, ?_⟩
  rw [IntKind.wrap_u64, Int.tmod_eq_emod_of_nonneg (by omega), ← IntWalk.i64_left, IntKind.wrap_i64]
  omega

set_option maxRecDepth 100000 in
set_option maxHeartbeats 8000000 in
theorem tc_walk (l x y : Int) (a : Option Addr) (L cap : Nat) (hL : L ≤ cap) (l' x' y' : Int) (a' : Option Addr) (L' cap' : Nat) (hL' : L' ≤ cap') (lim : Int) (W : World) (Q Q' : Nat → Int × V × V × Int) (hO : Ops W.heap.size W a L Q) (hO' : Ops W.heap.size W a' L' Q') :
    Calls Try.prog 4 #[cv l x y (.slice a L cap), cv l' x' y' (.slice a' L' cap'), .int .i64 lim] W fun e w' => e = .returned (.bool true) ∧ Below W.heap.size W w' := by
  have CF := fun w => fixed_any w
  have CC := fun w => cut_any l x y a L cap hL w
  have CC' := fun w => cut_any l' x' y' a' L' cap' hL' w
  have CN := fun n h0 h1 w => H.new_walk w n h0 h1
  have HO : Hid (Ops W.heap.size W a (min L 300) Q) := hO.cut (Nat.min_le_left _ _)
  have HO' : Hid (Ops W.heap.size W a' (min L' 300) Q') := hO'.cut (Nat.min_le_left _ _)
  unfold cv at CC CC' ⊢
  have B0 := b2 W (.cells #[.int .i64 l, .int .i64 x, .int .i64 y, .slice a L cap] 24) (.cells #[.int .i64 l', .int .i64 x', .int .i64 y', .slice a' L' cap'] 24)
  have R0 := (R4.made W (.int .i64 l) (.int .i64 x) (.int .i64 y) (.slice a L cap) 24).below (b1 _ (.cells #[.int .i64 l', .int .i64 x', .int .i64 y', .slice a' L' cap'] 24))
  have R0' := R4.made (W.alloc (.cells #[.int .i64 l, .int .i64 x, .int .i64 y, .slice a L cap] 24)) (.int .i64 l') (.int .i64 x') (.int .i64 y') (.slice a' L' cap') 24
  have e1 : (W.alloc (.cells #[.int .i64 l, .int .i64 x, .int .i64 y, .slice a L cap] 24)).heap.size = W.heap.size + 1 := by simp
  rw [e1] at R0'
  obtain ⟨Wx, hWx⟩ : ∃ Wx, W.alloc (.cells #[.int .i64 l, .int .i64 x, .int .i64 y, .slice a L cap] 24) = Wx := ⟨_, rfl⟩
  rw [hWx] at R0 R0' B0 e1
  obtain ⟨W0, hW0⟩ : ∃ W0, Wx.alloc (.cells #[.int .i64 l', .int .i64 x', .int .i64 y', .slice a' L' cap'] 24) = W0 := ⟨_, rfl⟩
  rw [hW0] at R0 R0' B0
  have HR0 : Hid (R4 W0 W.heap.size (.int .i64 l) (.int .i64 x) (.int .i64 y) (.slice a L cap) ∧ R4 W0 (W.heap.size + 1) (.int .i64 l') (.int .i64 x') (.int .i64 y') (.slice a' L' cap') ∧ Below W.heap.size W W0) := ⟨R0, R0', B0⟩
  clear R0 B0 R0' hO hO'
  generalize hX : W.heap.size = X at *
  have HX : Hid (W.heap.size = X) := hX
  go_enter Try.func4, Try.ntmps4
  go_wp2_with fail
  refine (CF _).mono ?_; rintro e w1 ⟨rfl, hb1⟩
  have HR1 : Hid (R4 w1 X (.int .i64 l) (.int .i64 x) (.int .i64 y) (.slice a L cap) ∧ R4 w1 (X + 1) (.int .i64 l') (.int .i64 x') (.int .i64 y') (.slice a' L' cap') ∧ Below X W w1) := ⟨HR0.out.1.below hb1, HR0.out.2.1.below hb1, bthen HR0.out.2.2 (Nat.le_of_lt HR0.out.1.lt) hb1⟩
  clear hb1 HR0 CF hW0 hWx e1
  obtain ⟨M, hM, hM0, hM1⟩ := lim_ok lim
  have HM : Hid (0 ≤ M ∧ M ≤ 400000) := ⟨hM0, hM1⟩
  have CNM := CN M hM0 hM1 w1
  clear CN hM0 hM1
  go_wp2_with fail
  refine CNM.mono ?_; rintro e w2 ⟨rfl, hw2⟩
  have hp := new_hp w1 M (fun g => g < w1.heap.size) (fun g q => q)
  have Bn := b2 w1 (.map #[] 0) (.cells #[.int .i64 M, .int .i64 0, .int .i64 0, .slice none 0 0, .map (some w1.heap.size)] 85)
  rw [← hw2] at hp Bn
  have HR2 : Hid (R4 w2 X (.int .i64 l) (.int .i64 x) (.int .i64 y) (.slice a L cap) ∧ R4 w2 (X + 1) (.int .i64 l') (.int .i64 x') (.int .i64 y') (.slice a' L' cap') ∧ Below X W w2 ∧ H.Hp (fun g => g < w1.heap.size) w2 (w1.heap.size + 1) w1.heap.size 0 (.slice none 0 0) (H.newSt M)) := ⟨HR1.out.1.below Bn, HR1.out.2.1.below Bn, bthen HR1.out.2.2 (Nat.le_of_lt HR1.out.1.lt) Bn, hp⟩
  have HLX : Hid (X + 1 < w1.heap.size) := HR1.out.2.1.lt
  generalize hS : w1.heap.size = hb at *
  obtain ⟨P, hP⟩ : ∃ P : Nat → Prop, (fun g => g < hb) = P := ⟨_, rfl⟩
  rw [hP] at HR2
  have HP : Hid (∀ g, g ≤ X + 1 → P g) := fun g q => by rw [← hP]; exact Nat.lt_of_le_of_lt q HLX.out
  clear hp Bn hw2 HR1 CNM hM hP
  have HFr : Hid (∀ w4, Below w2.heap.size w2 w4 → ∀ w6, Keep (fun g => g ≠ X ∧ g ≠ X + 1) w4 w6 → Below X W w6 ∧ H.Hp P w6 (hb + 1) hb 0 (.slice none 0 0) (H.newSt M)) := fun w4 q4 w6 q6 => by
    have hle : X ≤ w4.heap.size := by have := q4.size; have := HR2.out.1.lt; omega
    refine ⟨(bthen HR2.out.2.2.1 (Nat.le_of_lt HR2.out.1.lt) q4).trans (q6.below hle (fun g hg => ⟨by omega, by omega⟩)), Hp.frame (HR2.out.2.2.2.below q4) q6.os q6.tape q6.output q6.size (fun g hg hn => q6.block g hg ⟨fun e => hn (e ▸ HP.out X (by omega)), fun e => hn (e ▸ HP.out (X + 1) (by omega))⟩)⟩
  have c0 := HR2.out.1.c0
  have c1 := HR2.out.1.c1
  have c2 := HR2.out.1.c2
  have c3 := HR2.out.1.c3
  have d0 := HR2.out.2.1.c0
  have d1 := HR2.out.2.1.c1
  have d2 := HR2.out.2.1.c2
  have d3 := HR2.out.2.1.c3
  have CCd := CC w2.drew
  clear CC
  go_upto_region 6 with fail
  go_cut [7] from 16 to 122 (fun hv wx => hv = .pointer (some ⟨hb + 1, 0, none⟩) ∧ Hid (R4 wx X (.int .i64 l) (.int .i64 (cN x)) (.int .i64 (cN y)) (.slice a (min L 300) cap) ∧ R4 wx (X + 1) (.int .i64 l') (.int .i64 (cN x')) (.int .i64 (cN y')) (.slice a' (min L' 300) cap') ∧ Below X W wx ∧ H.Hp P wx (hb + 1) hb 0 (.slice none 0 0) (H.newSt M)))
  case first =>
    go_region_with (first
      | (go_at_call_of 7 (Value.slice a L cap); refine CCd.mono ?_; rintro e w3 ⟨rfl, hb3⟩; have hB3 : Below w2.heap.size w2 w3 := bthen (bdrew1 w2) (Nat.le_refl _) hb3; have HB3 : Hid (Below w2.heap.size w2 w3) := hB3; have f0 := (HR2.out.2.1.below hB3).c0; have f1 := (HR2.out.2.1.below hB3).c1; have f2 := (HR2.out.2.1.below hB3).c2; have f3 := (HR2.out.2.1.below hB3).c3; have CCn := CC' w3; clear hb3 hB3)
      | (go_at_call_of 7 (Value.slice a' L' cap'); refine CCn.mono ?_; rintro e w4 ⟨rfl, hb4⟩; have hB4 : Below w2.heap.size w2 w4 := bthen HB3.out HB3.out.size hb4; have r1 := HR2.out.1.below hB4; have r2 := HR2.out.2.1.below hB4; obtain ⟨s1, s2, s3, s4⟩ := two_set r1 r2 (.int .i64 l) (.int .i64 (cN x)) (.int .i64 (cN y)) (.slice a (min L 300) cap) (.int .i64 l') (.int .i64 (cN x')) (.int .i64 (cN y')) (.slice a' (min L' 300) cap'); have s5 := HFr.out w4 hB4 _ s4; have r0 := r1.c0; have r01 := r1.c1; have r02 := r1.c2; have r03 := r1.c3; have r0f := r1.fz; have r20 := r2.c0; have r21 := r2.c1; have r22 := r2.c2; have r23 := r2.c3; have r2f := r2.fz; obtain ⟨W5, hW5⟩ : ∃ W5, set4 w4 X (.int .i64 l) (.int .i64 (cN x)) (.int .i64 (cN y)) (.slice a (min L 300) cap) = W5 := ⟨_, rfl⟩; rw [hW5] at s1 s2 s3 s4 s5; obtain ⟨W6, hW6⟩ : ∃ W6, set4 W5 (X + 1) (.int .i64 l') (.int .i64 (cN x')) (.int .i64 (cN y')) (.slice a' (min L' 300) cap') = W6 := ⟨_, rfl⟩; rw [hW6] at s2 s3 s4 s5; have HF6 : Hid (R4 W6 X (.int .i64 l) (.int .i64 (cN x)) (.int .i64 (cN y)) (.slice a (min L 300) cap) ∧ R4 W6 (X + 1) (.int .i64 l') (.int .i64 (cN x')) (.int .i64 (cN y')) (.slice a' (min L' 300) cap') ∧ Below X W W6 ∧ H.Hp P W6 (hb + 1) hb 0 (.slice none 0 0) (H.newSt M)) := ⟨s2, s3, s5.1, s5.2⟩; have g0 := s1.c0; have g1 := s1.c1; have g2 := s1.c2; have g3 := s1.c3; have gf := s1.fz; unfold set4 at hW5 hW6; clear r1 r2 s1 s2 s3 s4 s5 hb4 hB4))
    all_goals
      go_wp2_with fail
      go_meet
      exact ⟨rfl, HF6⟩
  case rest =>
    obtain ⟨rfl, HF6⟩ := hcut
    clear CCd CC' HFr HR2 c0 c1 c2 c3 d0 d1 d2 d3 hS
    obtain ⟨r1, r2, hbl, hp⟩ := HF6.out
    have T0 : Tw2 P wc (hb + 1) hb 0 (H.newSt M) (.pointer none) (.pointer none) 0 0 := .nn hp (H.Inv.new M HM.out.1 HM.out.2) rfl
    have CN1 := T0.new (by omega) (cN x) (cN y)
    have c1 := r1.c1
    have c2 := r1.c2
    have HR7 : Hid (∀ wx, Keep P wc wx → R4 wx X (.int .i64 l) (.int .i64 (cN x)) (.int .i64 (cN y)) (.slice a (min L 300) cap) ∧ R4 wx (X + 1) (.int .i64 l') (.int .i64 (cN x')) (.int .i64 (cN y')) (.slice a' (min L' 300) cap') ∧ Below X W wx) := fun wx k =>
      ⟨r1.kept k (HP.out X (by omega)), r2.kept k (HP.out (X + 1) (by omega)), hbl.trans (k.below (Nat.le_of_lt r1.lt) (fun g hg => HP.out g (by omega)))⟩
    unfold tp at CN1
    clear r1 r2 hbl hp T0 HF6
    go_wp2_with fail
    refine CN1.mono ?_; rintro e w7 ⟨pa, s7, na, ea, rfl, h7, k7, q7, qg7⟩
    have CN2 := h7.swap.new (by omega) (cN x') (cN y')
    obtain ⟨_, r2, _⟩ := HR7.out w7 k7
    have d1 := r2.c1
    have d2 := r2.c2
    have HK7 : Hid (Keep P wc w7) := k7
    obtain ⟨ba, hba⟩ : ∃ ba, (ea != 0) = ba := ⟨_, rfl⟩
    rw [hba] at q7
    unfold tp at CN2
    clear r2 h7 k7 CN1 c1 c2
    go_wp2_with fail
    refine CN2.mono ?_; rintro e w8 ⟨pb, s8, nb, eb, rfl, h8, k8, q8, qg8⟩
    obtain ⟨bb, hbb⟩ : ∃ bb, (eb != 0) = bb := ⟨_, rfl⟩
    rw [hbb] at q8
    have hna : (ba != ba) = false := by simp
    have hnb : (bb != bb) = false := by simp
    obtain ⟨r1, r2, hbl⟩ := HR7.out w8 (HK7.out.trans k8)
    have HC8 : Hid (Cs P W w8 X (.slice a (min L 300) cap) (.slice a' (min L' 300) cap') (hb + 1) hb 10 pa pb) := ⟨⟨_, _, _, h8⟩, HP.out, hbl, r1.c3, r2.c3, r2.lt⟩
    have HCk : Hid (∀ wx s na nb c, Tw2 P wx (hb + 1) hb c s pa pb na nb → IntKind.i64.wrap (na + nb) = na + nb) := fun wx s na nb c h => by
      have := h.sum
      rw [IntKind.wrap_i64]; omega
    have hwr := HCk.out _ _ _ _ _ h8
    have hnn : (na + nb != na + nb) = false := by simp
    have D1 := h8.cells
    have H8 : Hid (∀ wx, Below w8.heap.size w8 wx → Tw2 P wx (hb + 1) hb 10 s8 pa pb na nb ∧ Cs P W wx X (.slice a (min L 300) cap) (.slice a' (min L' 300) cap') (hb + 1) hb 10 pa pb) := fun wx k => ⟨h8.below k, HC8.out.below k⟩
    clear r1 r2 hbl h8 k8 HK7 HR7 CN2 d1 d2
    go_wp2_with fail
    refine D1.mono ?_; rintro e w9 ⟨rfl, hb9⟩
    have D2 := (H8.out w9 hb9).1.swap.cells
    have HB9 : Hid (Below w8.heap.size w8 w9) := hb9
    clear hb9 D1
    go_wp2_with fail
    refine D2.mono ?_; rintro e w10 ⟨rfl, hb10⟩
    have hB10 : Below w8.heap.size w8 w10 := bthen HB9.out HB9.out.size hb10
    have D3 := (H8.out w10 hB10).1.live
    have HC10 : Hid (Cs P W w10 X (.slice a (min L 300) cap) (.slice a' (min L' 300) cap') (hb + 1) hb 10 pa pb) := (H8.out w10 hB10).2
    unfold tp at D3
    clear hb10 hB10 D2 HB9 H8 HC8
    go_wp2_with fail
    refine D3.mono ?_; rintro e w11 ⟨rfl, hw11⟩; rw [hw11]; clear hw11 D3
    obtain ⟨L1, hL1⟩ : ∃ L1, min L 300 = L1 := ⟨_, rfl⟩
    obtain ⟨L2, hL2⟩ : ∃ L2, min L' 300 = L2 := ⟨_, rfl⟩
    have hL3 : L1 ≤ 300 := by omega
    have hLc : L1 ≤ cap := by omega
    have hLd : L2 ≤ cap' := by omega
    rw [hL1] at HC10 HO
    rw [hL2] at HC10 HO'
    clear q7 q8 qg7 qg8 hna hnb hwr hnn hba hbb
    go_wp2_with fail
    go_loopw [12] (fun iw wr => ∃ k : Nat, iw = .int .i64 (k : Nat) ∧ k ≤ L1 ∧ Hid (Cs P W wr X (.slice a L1 cap) (.slice a' L2 cap') (hb + 1) hb (10 + 14 * k) pa pb)) (fun iw _ => L1 - (intOf iw).toNat)
    case atStart => exact ⟨0, rfl, by omega, HC10⟩
    case round =>
      obtain ⟨k, rfl, hk, HC⟩ := hrel
      clear HC10
      have xc := HC.out.xc
      have yc := HC.out.yc
      have HBl : Hid (Below X W wr) := HC.out.bel
      by_cases hlt : k < L1
      · have hlt' : (k : Int) < (L1 : Int) := by omega
        by_cases hlt2 : k < L2
        · have hlt2' : (k : Int) < (L2 : Int) := by omega
          obtain ⟨lb, off, ha, hlb, o0, o1, o2, o3, o4, o5, o6, o7⟩ := (HO.out.below HC.out.bel).at hlt
          subst ha
          have CS := (HC.out.below (bdrew1 wr)).setA (by omega) (Q k).2.1 (Q k).2.2.1 (HO.out.1 k hlt).1
          have HR : Hid (Rng (Q' k).2.1) := (HO'.out.1 k hlt2).1
          unfold vv vl at CS
          clear o0 o7
          go_upto_region 14 with fail
          go_cut [12] from 73 to 122 (fun iw wx => iw = .int .i64 (k : Nat) ∧ Hid (Cs P W wx X (.slice (some ⟨lb, off, none⟩) L1 cap) (.slice a' L2 cap') (hb + 1) hb (10 + 14 * k + 7) pa pb))
          case first =>
            go_region_with (go_at_call 11; refine CS.mono ?_; rintro e w5 ⟨re, rfl, hc5⟩; have HC5 : Hid (Cs P W w5 X (.slice (some ⟨lb, off, none⟩) L1 cap) (.slice a' L2 cap') (hb + 1) hb (10 + 14 * k + 7) pa pb) := hc5; clear hc5)
            all_goals
              go_wp2_with fail
              go_meet
              exact ⟨rfl, HC5⟩
          case rest =>
            obtain ⟨rfl, HC5⟩ := hcut
            clear CS o1 o2 o3 o4 o5 o6 xc yc HC HBl
            have xc := HC5.out.xc
            have yc := HC5.out.yc
            obtain ⟨lb2, off2, ha2, hlb2, o0, o1, o2, o3, o4, o5, o6, o7⟩ := (HO'.out.below HC5.out.bel).at hlt2
            subst ha2
            have CS := (HC5.out.below (bdrew1 wc)).setB (by omega) (Q' k).2.1 (Q' k).2.2.1 HR.out
            unfold vv vl at CS
            clear o0 o7
            go_upto_region 15 with fail
            obtain ⟨wd, hwd⟩ : ∃ wd, wd = wc := ⟨_, rfl⟩
            rw [← hwd] at HC5 CS xc yc o1 o2 o3 o4 o5 o6 ⊢
            clear hwd
            go_cut [12] from 73 to 122 (fun iw wx => iw = .int .i64 (k : Nat) ∧ Hid (Cs P W wx X (.slice (some ⟨lb, off, none⟩) L1 cap) (.slice (some ⟨lb2, off2, none⟩) L2 cap') (hb + 1) hb (10 + 14 * k + 7 + 7) pa pb))
            case first =>
              go_region_with (go_at_call 11; refine CS.mono ?_; rintro e w5 ⟨re, rfl, hc6⟩; have HC6 : Hid (Cs P W w5 X (.slice (some ⟨lb, off, none⟩) L1 cap) (.slice (some ⟨lb2, off2, none⟩) L2 cap') (hb + 1) hb (10 + 14 * k + 7 + 7) pa pb) := hc6; clear hc6)
              all_goals
                go_wp2_with fail
                go_meet
                exact ⟨rfl, HC6⟩
            case rest =>
              obtain ⟨rfl, HC6⟩ := hcut
              clear CS o1 o2 o3 o4 o5 o6 xc yc HC5
              obtain ⟨s', na', nb', h8⟩ := HC6.out.st
              have hwr := HCk.out _ _ _ _ _ h8
              have hnn : (na' + nb' != na' + nb') = false := by simp
              have D1 := h8.cells
              have H8 : Hid (∀ wx, Below wc.heap.size wc wx → Tw2 P wx (hb + 1) hb (10 + 14 * k + 7 + 7) s' pa pb na' nb' ∧ Cs P W wx X (.slice (some ⟨lb, off, none⟩) L1 cap) (.slice (some ⟨lb2, off2, none⟩) L2 cap') (hb + 1) hb (10 + 14 * k + 7 + 7) pa pb) := fun wx k => ⟨h8.below k, HC6.out.below k⟩
              clear h8 HC6
              go_wp2_with fail
              refine D1.mono ?_; rintro e w9 ⟨rfl, hb9⟩
              have D2 := (H8.out w9 hb9).1.swap.cells
              have HB9 : Hid (Below wc.heap.size wc w9) := hb9
              clear hb9 D1
              go_wp2_with fail
              refine D2.mono ?_; rintro e w10 ⟨rfl, hb10⟩
              have hB10 : Below wc.heap.size wc w10 := bthen HB9.out HB9.out.size hb10
              have D3 := (H8.out w10 hB10).1.live
              have HC10 : Hid (Cs P W w10 X (.slice (some ⟨lb, off, none⟩) L1 cap) (.slice (some ⟨lb2, off2, none⟩) L2 cap') (hb + 1) hb (10 + 14 * k + 7 + 7) pa pb) := (H8.out w10 hB10).2
              unfold tp at D3
              clear hb10 hB10 D2 HB9 H8
              go_wp2_with fail
              refine D3.mono ?_; rintro e w11 ⟨rfl, hw11⟩; rw [hw11]; clear hw11 D3
              go_wp2_with fail
              go_round
              case rel => exact ⟨k + 1, by go_num, by omega, by rw [show 10 + 14 * (k + 1) = 10 + 14 * k + 7 + 7 by omega]; exact HC10⟩
              case measure => simp [intOf]; omega
        · have hA : ¬ (k : Int) < (L2 : Int) := by omega
          clear HC
          go_wp2_with fail
          go_ret
          exact ⟨rfl, HBl.out⟩
      · have hA : ¬ (k : Int) < (L1 : Int) := by omega
        clear HC
        go_wp2_with fail
        go_ret
        exact ⟨rfl, HBl.out⟩
end Go.Proofs.Ytonopchpnhninab
