/- The walk of suffixed. -/
import Derived.Test.YtmejlldabdjpjaaGreatCg04
import Derived.Deep.CutRange
import Derived.RegionDies
namespace Go.Proofs.YtmejlldabdjpjaaGreat
open Go.RowKit
section
variable {b m : Nat} {T l l' : List Tok} {W : World} {X : Nat} {k : Int} {t : List UInt8} {n p : Int} {v : Value} {ks : F} {w w' : World}
theorem Lf.drew (h : Lf b m T l W X k t n p v ks w) : Lf b m T l W X k t n p v ks w.drew := ⟨h.tk.drew, h.res.drew, h.box.drew, h.tn.keep fun _ _ _ => rfl, h.lt⟩
/-- Behind a call that has a row in the newest block. -/
theorem Lf.call {o : Obj} (h : Lf b m T l W X k t n p v ks w) (ps : PS b m T l' w') (hk : Ky (fun k => k = b ∨ some k = some w.heap.size) (w.alloc o) w') : Lf b m T l' W X k t n p v ks w' := by
  have hlt := h.lt
  have hX := h.box.lt
  have hR := h.res.lt
  have hs := h.tk.ky.size
  have hne : ∀ x, x < w.heap.size → x ≠ b → ¬ (x = b ∨ some x = some w.heap.size) := fun x hx hb e => e.elim hb fun e => by simp at e; omega
  refine ⟨⟨ps, (h.tk.ky.alloc o).onto hk fun i hi e => e.elim id fun e => by simp at e; omega⟩, (h.res.alloc o).ky hk (hne _ hR (by omega)), (h.box.alloc o).ky hk (hne _ hX (by omega)), ?_, h.lt⟩
  refine (h.tn.mono (Q := fun g => (W.heap.size < g ∧ g ≠ X) ∧ g < w.heap.size) fun g hg hl => ⟨hg, hl⟩).alloc o |>.ky hk (fun g hg => hne g hg.2 (by omega)) |>.mono fun g hg _ => hg.1
/-- Another tree is stored there: the world behind it, named. -/
theorem Lf.putN {k' : Int} {t' : List UInt8} {n' p' : Int} {v' : Value} {ks' : F} (h : Lf b m T l W X k t n p v ks w) (ht : TN 42 w (fun g => W.heap.size < g ∧ g ≠ X) k' t' n' p' v' ks') :
    ∃ wF, ((((w.setCell ⟨X, 0, none⟩ (.int .i64 k')).setCell ⟨X, 1, none⟩ (.string ⟨t'.toArray⟩)).setCell ⟨X, 2, none⟩ (.int .i64 n')).setCell ⟨X, 3, none⟩ (.int .i64 p')).setCell ⟨X, 4, none⟩ v' = wF ∧ Lf b m T l W X k' t' n' p' v' ks' wF := ⟨_, rfl, h.put ht⟩
/-- It and another in a new row. -/
theorem Lf.two {k' : Int} {t' : List UInt8} {n' p' : Int} {v' : Value} {ks' : F} {Q : Nat → Prop} (h : Lf b m T l W X k t n p v ks w) (ht : TN 42 w Q k' t' n' p' v' ks') (hQ : ∀ g, Q g → W.heap.size < g ∧ g ≠ X) (q : Int) (tx : List UInt8) (N P : Int) :
    TN 42 (w.alloc (.cells #[.int .i64 k, .string ⟨t.toArray⟩, .int .i64 n, .int .i64 p, v, .int .i64 k', .string ⟨t'.toArray⟩, .int .i64 n', .int .i64 p', v'] 42)) (fun g => W.heap.size < g ∧ g ≠ X) q tx N P (.slice (some ⟨w.heap.size, 0, none⟩) 2 2) ((one k t n p ks).app (one k' t' n' p' ks')) := by
  have hlt := h.lt
  have hX := h.box.lt
  exact TN.made (cur := #[.int .i64 k, .string ⟨t.toArray⟩, .int .i64 n, .int .i64 p, v, .int .i64 k', .string ⟨t'.toArray⟩, .int .i64 n', .int .i64 p', v']) (c := 2) (h.tn.kf.app (ht.kf.mono fun g hg _ => hQ g hg)) (by constructor <;> omega) rfl (by unfold maxLen; omega) q tx N P
end
set_option maxRecDepth 20000 in
set_option maxHeartbeats 16000000 in
theorem suf_any (N : Nat) (H : ∀ n, n ≤ N → CC n) (b m : Nat) (T l : List Tok) (W : World) (h : PS b m T l W) (hr : pr (N + 1) .suf l ≠ .out) : Calls Tryz.prog 152 #[.pointer (some ⟨b, 0, none⟩)] W (PN b m T W (pr (N + 1) .suf l)) := by
  have hlt := h.lt
  have hbW : W.heap.size ≠ b := by omega
  obtain ⟨R, hR⟩ : ∃ R, pr (N + 1) .suf l = R := ⟨_, rfl⟩
  rw [hR] at hr ⊢
  rw [pr_succ] at hR
  simp only [stp'] at hR
  have CE := fun W h => stem_any N (H N (Nat.le_refl _)) b m T l W h
  cases he : stemP (pr N) l with
  | out => rw [he] at hR; exact absurd hR.symm hr
  | bad p =>
    rw [he] at hR CE
    simp only [PR.bind] at hR
    subst hR
    go_enter Tryz.func152, Tryz.ntmps152
    go_wp2_with (go_at_call 161; refine (CE _ (h.alloc _) (by simp)).mono ?_; rintro e w1 ⟨he, hk⟩; unfold refp at he; subst he)
    exact ⟨rfl, rfl, ((Ky.refl (fun k => k = b) W).alloc _).trans hk⟩
  | ok g l1 =>
    rw [he] at hR CE
    simp only [PR.bind] at hR
    go_enter Tryz.func152, Tryz.ntmps152
    go_wp2_with (go_at_call 161; refine (CE _ (h.alloc _) (by simp)).mono ?_; rintro e w1 ⟨k, tt, n, p, a1, c1, ks, rfl, rfl, hTN, hTk⟩; have R1 := (Bx.new W 42 _).ky hTk.ky hbW; have T1 := (h.tk.alloc _).trans hTk)
    have hX1 : W.heap.size < w1.heap.size := R1.lt
    replace hR : Hid (pr N (.sufl (one k tt n p ks)) l1 = R) := hR
    have hL : Lf b m T l1 W w1.heap.size k tt n p (.slice a1 ks.len c1) ks (w1.alloc (.cells #[.int .i64 (k), .string ⟨(tt).toArray⟩, .int .i64 (n), .int .i64 (p), .slice a1 ks.len c1] 42)) := ⟨T1.alloc _, R1.alloc _, Bx.new _ _ _, (hTN.mono fun g hg hl => ⟨by simp at hg; omega, by omega⟩).alloc _, by omega⟩
    obtain ⟨X, hX⟩ : ∃ X, w1.heap.size = X := ⟨_, rfl⟩
    obtain ⟨wS, hwS⟩ : ∃ wS, w1.alloc (.cells #[.int .i64 (k), .string ⟨(tt).toArray⟩, .int .i64 (n), .int .i64 (p), .slice a1 ks.len c1] 42) = wS := ⟨_, rfl⟩
    rw [hX] at hX1 hL ⊢
    rw [hwS] at hL ⊢
    clear hwS hTN hTk R1 T1 CE he
    go_loopg [] (N + 2) (fun gf wx => ∃ (q : Nat) (k : Int) (tt : List UInt8) (n p : Int) (a' : Option Addr) (c' : Nat) (ks : F) (l' : List Tok), q ≤ N ∧ Lf b m T l' W X k tt n p (.slice a' ks.len c') ks wx ∧ Hid (pr q (.sufl (one k tt n p ks)) l' = R) ∧ q < gf)
    case atStart => exact ⟨N, k, tt, n, p, a1, c1, ks, l1, Nat.le_refl _, hL, hR, by omega⟩
    case round =>
      clear hL hR hX
      obtain ⟨q, k, tt, n, p, a1, c1, ks, l', hq, hL, hR, hfu⟩ := hrel
      obtain ⟨t, l2, rfl⟩ := hL.tk.ps.cons
      have hLl := hL.lt
      have hLP := hL.tk.ps
      cases q with
      | zero => exact absurd hR.out.symm hr
      | succ q =>
        have hR := hR.out
        rw [pr_succ] at hR
        simp only [stp', show (one k tt n p ks).at = p from rfl, List.tail_cons] at hR
        by_cases h19 : cls t = 19
        · have wt19 : rd t [91] = true := cls_rd (c := 19) (by omega) (by decide) (by decide)
          rw [if_pos (show hc (t :: l2) = 19 from h19)] at hR
          have CE := fun W h => (H q (by omega)).ex 0 b m T l2 W h
          cases he : pr q (.ex 0) l2 with
          | out => rw [he] at hR; exact absurd hR.symm hr
          | bad p2 =>
            rw [he] at hR CE
            simp only [PR.bind] at hR
            subst hR
            go_wp2_with (first | (go_at_call 87; refine (accept_t b m T l2 t _ _ hL.tk.ps (by assumption)).mono ?_; rintro e w2 ⟨rfl, hT2⟩; have L2 := hL.took hT2) | (go_at_call 149; refine (CE _ L2.tk.ps (by simp)).mono ?_; rintro e w3 ⟨he, hk⟩; unfold refp at he; subst he))
            exact ⟨rfl, rfl, L2.tk.ky.trans hk⟩
          | ok g l3 =>
            obtain ⟨t3, l4, rfl⟩ := (pr_ends he (hL.tk.ps.ends.tail (by omega))).cons
            rw [he] at hR CE
            simp only [PR.bind, need] at hR
            by_cases h20 : cls t3 = 20
            · have wt320 : rd t3 [93] = true := cls_rd (c := 20) (by omega) (by decide) (by decide)
              rw [if_pos (show hc (t3 :: l4) = 20 from h20)] at hR
              replace hR : Hid (pr q (.sufl (one 7 [] 0 p ((one k tt n p ks).app g))) l4 = R) := hR
              go_wp2_with (first | (go_at_call 87; refine (accept_t b m T l2 t _ _ hL.tk.ps (by assumption)).mono ?_; rintro e w2 ⟨rfl, hT2⟩; have L2 := hL.took hT2) | (go_at_call 149; refine (CE _ L2.tk.ps (by simp)).mono ?_; rintro e w4 ⟨k2, tt2, n2, p2, a2, c2, ks2, rfl, rfl, hTN, hTk⟩; have hX4 := L2.box.lt; have L5 := (L2.took hTk).alloc (.cells #[.int .i64 (k2), .string ⟨(tt2).toArray⟩, .int .i64 (n2), .int .i64 (p2), .slice a2 ks2.len c2] 42); have Q5 := Bx.new w4 42 #[.int .i64 k2, .string ⟨tt2.toArray⟩, .int .i64 n2, .int .i64 p2, .slice a2 ks2.len c2]; have M5 := (hTN.mono (Q := fun g => W.heap.size < g ∧ g ≠ X) (fun g hg _ => by omega)).alloc (.cells #[.int .i64 (k2), .string ⟨(tt2).toArray⟩, .int .i64 (n2), .int .i64 (p2), .slice a2 ks2.len c2] 42); have s4 : w4.heap.size ≠ b := (by have := hTk.ps.lt; omega); obtain ⟨w5, hw5⟩ : ∃ w5, w4.alloc (.cells #[.int .i64 (k2), .string ⟨(tt2).toArray⟩, .int .i64 (n2), .int .i64 (p2), .slice a2 ks2.len c2] 42) = w5 := ⟨_, rfl⟩; rw [hw5] at L5 Q5 M5) | (go_at_call 125; refine (expect_t b m T l4 t3 _ _ L5.tk.ps (by assumption)).mono ?_; rintro e w6 ⟨rfl, hT6⟩; have L6 := L5.took hT6; have Q6 := Q5.ky hT6.ky s4; have M6 := M5.ky hT6.ky (by omega); obtain ⟨p0, p1, p2', p3, p4⟩ := L6.box.five; obtain ⟨q0, q1, q2, q3, q4⟩ := L6.box.fiveA; obtain ⟨f0, f1, f2, f3, f4⟩ := L6.box.frozen5A; obtain ⟨r0, r1, r2, r3, r4⟩ := Q6.five))
              go_roundg (q + 1)
              case measure => omega
              case rel => exact ⟨q, _, _, _, _, _, _, _, l4, by omega, (L6.alloc _).put (L6.two M6 (fun _ e => e) 7 [] 0 p), hR, by omega⟩
            · have wt320 : rd t3 [93] = false := cls_nrd (c := 20) (by omega) (by decide) (by decide)
              rw [if_neg (show ¬ hc (t3 :: l4) = 20 from h20)] at hR
              subst hR
              go_wp2_with (first | (go_at_call 87; refine (accept_t b m T l2 t _ _ hL.tk.ps (by assumption)).mono ?_; rintro e w2 ⟨rfl, hT2⟩; have L2 := hL.took hT2) | (go_at_call 149; refine (CE _ L2.tk.ps (by simp)).mono ?_; rintro e w4 ⟨k2, tt2, n2, p2, a2, c2, ks2, rfl, rfl, hTN, hTk⟩; have L5 := (L2.took hTk).alloc (.cells #[.int .i64 (k2), .string ⟨(tt2).toArray⟩, .int .i64 (n2), .int .i64 (p2), .slice a2 ks2.len c2] 42)) | (go_at_call 125; refine (expect_f b m T l4 t3 _ _ L5.tk.ps (by assumption)).mono ?_; rintro e w6 ⟨he, hb6⟩; unfold refp at he; subst he))
              exact ⟨rfl, rfl, L5.tk.ky.trans (.of_below hb6)⟩
        · have wt19 : rd t [91] = false := cls_nrd (c := 19) (by omega) (by decide) (by decide)
          rw [if_neg (show ¬ hc (t :: l2) = 19 from h19)] at hR
          by_cases h21 : cls t = 21
          · have wt21 : rd t [46] = true := cls_rd (c := 21) (by omega) (by decide) (by decide)
            rw [if_pos (show hc (t :: l2) = 21 from h21)] at hR
            obtain ⟨t3, l4, rfl⟩ := tail_cons hL.tk.ps.ends (by omega)
            simp only [nam] at hR
            go_wp2_with (first | (go_at_call 87; refine (accept_f b m T (t3 :: l4) t _ _ hL.tk.ps (by assumption)).mono ?_; rintro e w2 ⟨rfl, hb2⟩; have hL := hL.below hb2) | (go_at_call 87; refine (accept_t b m T (t3 :: l4) t _ _ hL.tk.ps (by assumption)).mono ?_; rintro e w3 ⟨rfl, hT3⟩; have hL := hL.took hT3))
            have L4 := hL.drew
            obtain ⟨p0, p1, p2', p3, p4⟩ := L4.box.five
            by_cases h51 : cls t3 = 51
            · rw [if_pos (show hc (t3 :: l4) = 51 from h51)] at hR
              replace hR : Hid (pr q (.sufl (one 7 [] 0 p ((one k tt n p ks).app (one 5 t3.t 0 t3.p .nil)))) l4 = R) := hR
              go_region_with (go_at_call 162; refine (nameText_yes b m T l4 t3 _ L4.tk.ps h51).mono ?_; rintro e w5 ⟨rfl, hT5⟩; have L5 := L4.took hT5; obtain ⟨s0, s1, s2, s3, s4⟩ := L5.box.five; obtain ⟨q0, q1, q2, q3, q4⟩ := L5.box.fiveA; obtain ⟨f0, f1, f2, f3, f4⟩ := L5.box.frozen5A; obtain ⟨wF, hwF, LF⟩ := (L5.alloc _).putN (L5.two (k' := 5) (t' := t3.t) (n' := 0) (p' := t3.p) (v' := .slice none 0 0) (ks' := .nil) (TN.leaf _ _ (fun g => W.heap.size < g ∧ g ≠ X) _ _ _ _) (fun _ e => e) 7 [] 0 p))
              all_goals
                go_wp2_with fail
                go_roundg (q + 1)
                case measure => omega
                case rel => exact ⟨q, _, _, _, _, _, _, _, l4, by omega, LF, hR, by omega⟩
            · rw [if_neg (show ¬ hc (t3 :: l4) = 51 from h51)] at hR
              subst hR
              go_region_dies
              all_goals
                refine (nameText_no b m T l4 t3 _ L4.tk.ps h51).mono ?_
                rintro e w5 ⟨he, hb5⟩
                unfold refp at he
                subst he
                exact ⟨rfl, rfl, L4.tk.ky.trans (.of_below hb5)⟩
          · have wt21 : rd t [46] = false := cls_nrd (c := 21) (by omega) (by decide) (by decide)
            rw [if_neg (show ¬ hc (t :: l2) = 21 from h21)] at hR
            by_cases h17 : cls t = 17
            · have wt17 : rd t [40] = true := cls_rd (c := 17) (by omega) (by decide) (by decide)
              rw [if_pos (show hc (t :: l2) = 17 from h17)] at hR
              go_wp2_with (first | (go_at_call 87; refine (accept_f b m T l2 t _ _ hL.tk.ps (by assumption)).mono ?_; rintro e w2 ⟨rfl, hb2⟩; have hL := hL.below hb2) | (go_at_call 87; refine (accept_t b m T l2 t _ _ hL.tk.ps (by assumption)).mono ?_; rintro e w3 ⟨rfl, hT3⟩; have hL := hL.took hT3))
              have L4 := hL.drew
              obtain ⟨p0, p1, p2', p3, p4⟩ := L4.box.five
              have hx4 : X < w3.heap.size := L4.box.lt
              have hs4 : W.heap.size ≤ w3.heap.size := L4.tk.ky.size
              obtain ⟨u0, u1, u2, u3, u4⟩ := hL.box.fiveA
              have hfew : (one k tt n p ks).len + l2.length ≤ T.length := by
                obtain ⟨i, _, h6, h7⟩ := hLP.plc
                simp only [one, F.len, List.length_cons] at h7 ⊢
                omega
              have Hrow : Row b m T l2 (w3.drew.alloc (.cells #[.int .i64 (k), .string ⟨(tt).toArray⟩, .int .i64 (n), .int .i64 (p), .slice a1 ks.len c1] 42)) (fun g => W.heap.size < g ∧ g ≠ X) (some ⟨w3.heap.size, 0, none⟩) 1 (one k tt n p ks) :=
                ⟨L4.tk.ps.alloc _, L4.tn.row1 (fun _ e _ => e) (show W.heap.size < w3.heap.size ∧ w3.heap.size ≠ X from ⟨by omega, by omega⟩), fun x hx => by omega, fun x hx => by (have hx : w3.heap.size + 1 ≤ x := by simpa using hx); omega, hfew⟩
              have CA := args_any q (H q (by omega)) b m T l2 _ _ _ _ _ Hrow
              cases he : argP (pr q) (one k tt n p ks) l2 with
              | out => rw [he] at hR; exact absurd hR.symm hr
              | bad p5 =>
                rw [he] at hR CA
                simp only [PR.bind] at hR
                subst hR
                go_region_dies
                all_goals
                  refine (CA (by simp)).mono ?_
                  rintro e w5 ⟨he, hk⟩
                  unfold refp at he
                  subst he
                  exact ⟨rfl, rfl, (L4.tk.ky.alloc _).onto hk fun i hi e => e.elim id fun e => by (have e : i = w3.heap.size := by simpa [Value.ownBlock] using e); omega⟩
              | ok g l3 =>
                rw [he] at hR CA
                simp only [PR.bind] at hR
                replace hR : Hid (pr q (.sufl (one 8 [] 0 p g)) l3 = R) := hR
                go_region_with (go_at_call 163; refine (CA (by simp)).mono ?_; rintro e w5 ⟨a5, c5, rfl, hkl, hps, hk⟩; have L5 := L4.call hps hk; obtain ⟨s0, s1, s2, s3, s4⟩ := L5.box.five; obtain ⟨f0, f1, f2, f3, f4⟩ := L5.box.frozen5)
                all_goals
                  go_wp2_with fail
                  go_roundg (q + 1)
                  case measure => omega
                  case rel => exact ⟨q, _, _, _, _, _, _, _, l3, by omega, L5.put (hkl.node 8 [] 0 p), hR, by omega⟩
            · have wt17 : rd t [40] = false := cls_nrd (c := 17) (by omega) (by decide) (by decide)
              rw [if_neg (show ¬ hc (t :: l2) = 17 from h17)] at hR
              subst hR
              go_wp2_with (go_at_call 87; refine (accept_f b m T l2 t _ _ hL.tk.ps (by assumption)).mono ?_; rintro e w2 ⟨rfl, hb2⟩; have hL := hL.below hb2; obtain ⟨q0, q1, q2, q3, q4⟩ := hL.res.five; obtain ⟨f0, f1, f2, f3, f4⟩ := hL.res.frozen5; obtain ⟨p0, p1, p2, p3, p4⟩ := hL.box.five)
              refine bodyPost_ret (v := (.agg #[.int .i64 (k), .string ⟨(tt).toArray⟩, .int .i64 (n), .int .i64 (p), .slice a1 ks.len c1])) (by simp [results, Tryz.results152, go_sem, q0, q1, q2, q3, q4]) rfl ?_
              exact PN.five hL.tn hL.tk (fun g hg => hg.1) hlt.2
end Go.Proofs.YtmejlldabdjpjaaGreat
