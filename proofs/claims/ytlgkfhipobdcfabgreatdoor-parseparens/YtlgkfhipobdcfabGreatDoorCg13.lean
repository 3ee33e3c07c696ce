/- The walk of expression. -/
import Derived.Test.YtlgkfhipobdcfabGreatDoorCg12
import Derived.Test.YtlgkfhipobdcfabGreatDoorCg08
import Derived.Laws.StructEq
namespace Go.Proofs.YtlgkfhipobdcfabGreatDoor
open Go.RowKit

/-- A tree whose kids a composite lays. -/
theorem TN.made {E : TypeId} {w : World} {Q : Nat → Prop} {cur : Array Value} {f : F} {c : Nat} (h : KF E w Q cur.toList f) (hQ : Q w.heap.size) (hc : f.len = c) (hl : c ≤ maxLen) (k : Int) (t : List UInt8) (n p : Int) : TN E (w.alloc (.cells cur E)) Q k t n p (.slice (some ⟨w.heap.size, 0, none⟩) c c) f := by
  subst hc
  have hs : cur.size = f.len * 5 := by rw [← h.len]; simp
  refine ⟨.cons ⟨by simpa using hs, .inr ⟨w.heap.size, f.len, cur, rfl, Nat.zero_le _, Go.heap_alloc_new w _, Nat.le_refl _, hl, hs, by rw [← hs]; exact List.take_of_length_le (by simp)⟩⟩ (fun g hg => ?_) (h.keep fun g _ hl => (World.grownBy_alloc w _ none).block g hl (by simp)) .nil⟩
  have e2 : w.heap.size = g := by simpa [Value.ownBlock] using hg
  rw [← e2]; exact hQ
theorem TN.five {E : TypeId} {w : World} {P : Nat → Prop} {k : Int} {t : List UInt8} {n p : Int} {v : Value} {ks : F} {X : Nat} (h : TN E w P k t n p v ks) (hX : ¬ P X) (u0 u1 u2 u3 u4 : Value) : TN E (((((w.setCell ⟨X, 0, none⟩ u0).setCell ⟨X, 1, none⟩ u1).setCell ⟨X, 2, none⟩ u2).setCell ⟨X, 3, none⟩ u3).setCell ⟨X, 4, none⟩ u4) P k t n p v ks :=
  ((((h.set hX u0).set hX u1).set hX u2).set hX u3).set hX u4
theorem Bx.five_put {X : Nat} {e : TypeId} {a b c d f : Value} {w : World} (h : Bx X e #[a, b, c, d, f] w) (u0 u1 u2 u3 u4 : Value) : Bx X e #[u0, u1, u2, u3, u4] (((((w.setCell ⟨X, 0, none⟩ u0).setCell ⟨X, 1, none⟩ u1).setCell ⟨X, 2, none⟩ u2).setCell ⟨X, 3, none⟩ u3).setCell ⟨X, 4, none⟩ u4) :=
  ((((h.put (j := 0) u0).put (j := 1) u1).put (j := 2) u2).put (j := 3) u3).put (j := 4) u4
theorem Bx.five_set {X Y : Nat} {e : TypeId} {cur : Array Value} {w : World} (h : Bx X e cur w) (hX : X ≠ Y) (u0 u1 u2 u3 u4 : Value) : Bx X e cur (((((w.setCell ⟨Y, 0, none⟩ u0).setCell ⟨Y, 1, none⟩ u1).setCell ⟨Y, 2, none⟩ u2).setCell ⟨Y, 3, none⟩ u3).setCell ⟨Y, 4, none⟩ u4) :=
  ((((h.set hX u0).set hX u1).set hX u2).set hX u3).set hX u4
/-- A tree in its variable's block, with the parser and the result's block. -/
structure Lf (b m : Nat) (T l : List Tok) (W : World) (X : Nat) (k : Int) (t : List UInt8) (n p : Int) (v : Value) (ks : F) (w : World) : Prop where
  tk : Tk b m T l W w
  res : Bx W.heap.size 25 #[.int .i64 0, .string ⟨#[]⟩, .int .i64 0, .int .i64 0, .slice none 0 0] w
  box : Bx X 25 #[.int .i64 k, .string ⟨t.toArray⟩, .int .i64 n, .int .i64 p, v] w
  tn : TN 25 w (fun g => W.heap.size < g ∧ g ≠ X) k t n p v ks
  lt : b < W.heap.size ∧ m ≤ W.heap.size ∧ W.heap.size < X
section
variable {b m : Nat} {T l : List Tok} {W : World} {X : Nat} {k : Int} {t : List UInt8} {n p : Int} {v : Value} {ks : F} {w w' : World}
theorem Lf.below (h : Lf b m T l W X k t n p v ks w) (hb : Below w.heap.size w w') : Lf b m T l W X k t n p v ks w' := ⟨h.tk.below hb, h.res.below hb, h.box.below hb, h.tn.below hb, h.lt⟩
theorem Lf.alloc (h : Lf b m T l W X k t n p v ks w) (o : Obj) : Lf b m T l W X k t n p v ks (w.alloc o) := ⟨h.tk.alloc o, h.res.alloc o, h.box.alloc o, h.tn.alloc o, h.lt⟩
theorem Lf.took {l' : List Tok} (h : Lf b m T l W X k t n p v ks w) (hT : Tk b m T l' w w') : Lf b m T l' W X k t n p v ks w' := by
  have hlt := h.lt
  exact ⟨h.tk.trans hT, h.res.ky hT.ky (by omega), h.box.ky hT.ky (by omega), h.tn.ky hT.ky (by omega), h.lt⟩
/-- Another tree is stored there. -/
theorem Lf.put {k' : Int} {t' : List UInt8} {n' p' : Int} {v' : Value} {ks' : F} (h : Lf b m T l W X k t n p v ks w) (ht : TN 25 w (fun g => W.heap.size < g ∧ g ≠ X) k' t' n' p' v' ks') :
    Lf b m T l W X k' t' n' p' v' ks' (((((w.setCell ⟨X, 0, none⟩ (.int .i64 k')).setCell ⟨X, 1, none⟩ (.string ⟨t'.toArray⟩)).setCell ⟨X, 2, none⟩ (.int .i64 n')).setCell ⟨X, 3, none⟩ (.int .i64 p')).setCell ⟨X, 4, none⟩ v') := by
  have hlt := h.lt
  exact ⟨h.tk.five (by omega) hlt.2.1 _ _ _ _ _, h.res.five_set (by omega) _ _ _ _ _, h.box.five_put _ _ _ _ _, ht.five (by omega) _ _ _ _ _, h.lt⟩
end

set_option maxRecDepth 20000 in
set_option maxHeartbeats 8000000 in
theorem expr_any (N : Nat) (H : ∀ n, n ≤ N → CC n) (a : Nat) (b m : Nat) (T l : List Tok) (W : World) (h : PS b m T l W) (hr : pr (N + 1) (.ex a) l ≠ .out) : Calls Tryz.prog 79 #[.pointer (some ⟨b, 0, none⟩), .int .i64 a] W (PN b m T W (pr (N + 1) (.ex a) l)) := by
  have hlt := h.lt
  have hbW : W.heap.size ≠ b := by omega
  obtain ⟨R, hR⟩ : ∃ R, pr (N + 1) (.ex a) l = R := ⟨_, rfl⟩
  rw [hR] at hr ⊢
  rw [pr_succ] at hR
  simp only [stp'] at hR
  have CE := fun W h => (H N (Nat.le_refl _)).opd b m T l W h
  cases he : pr N .opd l with
  | out => rw [he] at hR; exact absurd hR.symm hr
  | bad p =>
    rw [he] at hR CE
    simp only [PR.bind] at hR
    subst hR
    go_enter Tryz.func79, Tryz.ntmps79
    go_wp2_with (go_at_call 90; refine (CE _ (h.alloc _) (by simp)).mono ?_; rintro e w1 ⟨he, hk⟩; unfold refp at he; subst he)
    exact ⟨rfl, rfl, ((Ky.refl (fun k => k = b) W).alloc _).trans hk⟩
  | ok g l1 =>
    rw [he] at hR CE
    simp only [PR.bind] at hR
    go_enter Tryz.func79, Tryz.ntmps79
    go_wp2_with (go_at_call 90; refine (CE _ (h.alloc _) (by simp)).mono ?_; rintro e w1 ⟨k, tt, n, p, a1, c1, ks, rfl, rfl, hTN, hTk⟩; have R1 := (Bx.new W 25 _).ky hTk.ky hbW; have T1 := (h.tk.alloc _).trans hTk)
    have hX1 : W.heap.size < w1.heap.size := R1.lt
    replace hR : Hid (pr N (.exl a (one k tt n p ks)) l1 = R) := hR
    have hL : Lf b m T l1 W w1.heap.size k tt n p (.slice a1 ks.len c1) ks (w1.alloc (.cells #[.int .i64 (k), .string ⟨(tt).toArray⟩, .int .i64 (n), .int .i64 (p), .slice a1 ks.len c1] 25)) := ⟨T1.alloc _, R1.alloc _, Bx.new _ _ _, (hTN.mono fun g hg hl => ⟨by simp at hg; omega, by omega⟩).alloc _, by omega⟩
    obtain ⟨X, hX⟩ : ∃ X, w1.heap.size = X := ⟨_, rfl⟩
    obtain ⟨wS, hwS⟩ : ∃ wS, w1.alloc (.cells #[.int .i64 (k), .string ⟨(tt).toArray⟩, .int .i64 (n), .int .i64 (p), .slice a1 ks.len c1] 25) = wS := ⟨_, rfl⟩
    rw [hX] at hX1 hL ⊢
    rw [hwS] at hL ⊢
    clear hwS hTN hTk R1 T1 CE he
    go_loopg [] (N + 2) (fun gf wx => ∃ (q : Nat) (k : Int) (tt : List UInt8) (n p : Int) (a' : Option Addr) (c' : Nat) (ks : F) (l' : List Tok), q ≤ N ∧ Lf b m T l' W X k tt n p (.slice a' ks.len c') ks wx ∧ Hid (pr q (.exl a (one k tt n p ks)) l' = R) ∧ q < gf)
    case atStart => exact ⟨N, k, tt, n, p, a1, c1, ks, l1, Nat.le_refl _, hL, hR, by omega⟩
    case round =>
      clear hL hR hX
      obtain ⟨q, k, tt, n, p, a1, c1, ks, l', hq, hL, hR, hfu⟩ := hrel
      obtain ⟨t, l2, rfl⟩ := hL.tk.ps.cons
      cases q with
      | zero => exact absurd hR.out.symm hr
      | succ q =>
        have hR := hR.out
        rw [pr_succ] at hR
        simp only [stp'] at hR
        by_cases hb : a < bnd (cls t)
        · rw [if_pos (show a < bnd (hc (t :: l2)) from hb)] at hR
          change (pr q (.ex (if bnd (cls t) = 4 then 3 else bnd (cls t))) l2).bind (fun g l1 => pr q (.exl a (one 11 t.t 0 p ((one k tt n p ks).app g))) l1) = R at hR
          have h56 : cls t ≠ 56 := by intro e; rw [e] at hb; exact absurd hb (by simp [bnd])
          obtain ⟨v, hv⟩ : ∃ v, bnd (cls t) = v := ⟨_, rfl⟩
          have CB := fun w => binding_any t w
          rw [hv] at hR hb CB
          have hva : (a : Int) < v := by omega
          obtain ⟨v', hv'⟩ : ∃ v', (if v = 4 then 3 else v) = v' := ⟨_, rfl⟩
          rw [hv'] at hR
          have CE := fun W h => (H q (by omega)).ex v' b m T l2 W h
          cases he : pr q (.ex v') l2 with
          | out => rw [he] at hR; exact absurd hR.symm hr
          | bad p2 =>
            rw [he] at hR CE
            simp only [PR.bind] at hR
            subst hR
            by_cases h4 : v = 4
            · rw [if_pos h4] at hv'
              subst hv' h4
              go_wp2_with (first | (go_at_call 19; refine (token_any b m T l2 t _ hL.tk.ps).mono ?_; rintro e w2 ⟨rfl, hb2⟩; have T2 := hL.tk.below hb2) | (go_at_call 91; refine (CB _).mono ?_; rintro e w3 ⟨rfl, hb3⟩; have T2 := T2.below hb3) | (go_at_call 53; refine (take_p b m T l2 t _ T2.ps h56).mono ?_; rintro e w3 ⟨rfl, hT3⟩; have T2 := (T2.trans hT3).alloc (.cells #[.int .i64 t.k, .string ⟨t.t.toArray⟩, .int .i64 t.v, .int .i64 t.p] 56)) | (go_at_call 79; refine (CE _ T2.ps (by simp)).mono ?_; rintro e w3 ⟨he, hk⟩; unfold refp at he; subst he))
              exact ⟨rfl, rfl, T2.ky.trans hk⟩
            · rw [if_neg h4] at hv'
              subst hv'
              have h4' : ¬ (v : Int) = 4 := by omega
              go_wp2_with (first | (go_at_call 19; refine (token_any b m T l2 t _ hL.tk.ps).mono ?_; rintro e w2 ⟨rfl, hb2⟩; have T2 := hL.tk.below hb2) | (go_at_call 91; refine (CB _).mono ?_; rintro e w3 ⟨rfl, hb3⟩; have T2 := T2.below hb3) | (go_at_call 53; refine (take_p b m T l2 t _ T2.ps h56).mono ?_; rintro e w3 ⟨rfl, hT3⟩; have T2 := (T2.trans hT3).alloc (.cells #[.int .i64 t.k, .string ⟨t.t.toArray⟩, .int .i64 t.v, .int .i64 t.p] 56)) | (go_at_call 79; refine (CE _ T2.ps (by simp)).mono ?_; rintro e w3 ⟨he, hk⟩; unfold refp at he; subst he))
              exact ⟨rfl, rfl, T2.ky.trans hk⟩
          | ok g l3 =>
            rw [he] at hR CE
            simp only [PR.bind] at hR
            have hR : Hid (pr q (.exl a (one 11 t.t 0 p ((one k tt n p ks).app g))) l3 = R) := hR
            by_cases h4 : v = 4
            · rw [if_pos h4] at hv'
              subst hv' h4
              go_wp2_with (first | (go_at_call 19; refine (token_any b m T l2 t _ hL.tk.ps).mono ?_; rintro e w2 ⟨rfl, hb2⟩; have L2 := hL.below hb2) | (go_at_call 91; refine (CB _).mono ?_; rintro e w3 ⟨rfl, hb3⟩; first | (have S2 := S2.below hb3; have L2 := L2.below hb3) | (have L2 := L2.below hb3)) | (go_at_call 53; refine (take_p b m T l2 t _ L2.tk.ps h56).mono ?_; rintro e w3 ⟨rfl, hT3⟩; have L2 := (L2.took hT3).alloc (.cells #[.int .i64 t.k, .string ⟨t.t.toArray⟩, .int .i64 t.v, .int .i64 t.p] 56); have S2 := Bx.new w3 56 #[.int .i64 t.k, .string ⟨t.t.toArray⟩, .int .i64 t.v, .int .i64 t.p]; have s1 : w3.heap.size ≠ b := by have := hT3.ps.lt; omega) | (go_at_call 79; refine (CE _ L2.tk.ps (by simp)).mono ?_; rintro e w4 ⟨k2, tt2, n2, p2, a2, c2, ks2, rfl, rfl, hTN, hTk⟩; have hX4 := L2.box.lt; have L5 := (L2.took hTk).alloc (.cells #[.int .i64 (k2), .string ⟨(tt2).toArray⟩, .int .i64 (n2), .int .i64 (p2), .slice a2 ks2.len c2] 25); have S5 := (S2.ky hTk.ky s1).alloc (.cells #[.int .i64 (k2), .string ⟨(tt2).toArray⟩, .int .i64 (n2), .int .i64 (p2), .slice a2 ks2.len c2] 25); have Q5 := Bx.new w4 25 #[.int .i64 k2, .string ⟨tt2.toArray⟩, .int .i64 n2, .int .i64 p2, .slice a2 ks2.len c2]; have M5 := (hTN.mono (Q := fun g => W.heap.size < g ∧ g ≠ X) (fun g hg _ => ⟨by have := L2.lt; omega, by omega⟩)).alloc (.cells #[.int .i64 (k2), .string ⟨(tt2).toArray⟩, .int .i64 (n2), .int .i64 (p2), .slice a2 ks2.len c2] 25); obtain ⟨w5, hw5⟩ : ∃ w5, w4.alloc (.cells #[.int .i64 (k2), .string ⟨(tt2).toArray⟩, .int .i64 (n2), .int .i64 (p2), .slice a2 ks2.len c2] 25) = w5 := ⟨_, rfl⟩; rw [hw5] at L5 S5 Q5 M5; obtain ⟨p0, p1, p2', p3, p4⟩ := L5.box.five; obtain ⟨q0, q1, q2, q3, q4⟩ := L5.box.fiveA; obtain ⟨f0, f1, f2, f3, f4⟩ := L5.box.frozen5A; have s1' := S5.c 1 _ rfl; obtain ⟨r0, r1, r2, r3, r4⟩ := Q5.five))
              have hX5 := L5.box.lt
              have hlt5 := L5.lt
              have M6 := TN.made (cur := #[.int .i64 k, .string ⟨tt.toArray⟩, .int .i64 n, .int .i64 p, .slice a1 ks.len c1, .int .i64 k2, .string ⟨tt2.toArray⟩, .int .i64 n2, .int .i64 p2, .slice a2 ks2.len c2]) (c := 2) (L5.tn.kf.app M5.kf) (by constructor <;> omega) rfl (by unfold maxLen; omega) 11 t.t 0 p
              go_roundg (q + 1)
              case measure => omega
              case rel => exact ⟨q, _, _, _, _, _, _, _, l3, by omega, (L5.alloc _).put M6, hR, by omega⟩
            · rw [if_neg h4] at hv'
              subst hv'
              have h4' : ¬ (v : Int) = 4 := by omega
              go_wp2_with (first | (go_at_call 19; refine (token_any b m T l2 t _ hL.tk.ps).mono ?_; rintro e w2 ⟨rfl, hb2⟩; have L2 := hL.below hb2) | (go_at_call 91; refine (CB _).mono ?_; rintro e w3 ⟨rfl, hb3⟩; first | (have S2 := S2.below hb3; have L2 := L2.below hb3) | (have L2 := L2.below hb3)) | (go_at_call 53; refine (take_p b m T l2 t _ L2.tk.ps h56).mono ?_; rintro e w3 ⟨rfl, hT3⟩; have L2 := (L2.took hT3).alloc (.cells #[.int .i64 t.k, .string ⟨t.t.toArray⟩, .int .i64 t.v, .int .i64 t.p] 56); have S2 := Bx.new w3 56 #[.int .i64 t.k, .string ⟨t.t.toArray⟩, .int .i64 t.v, .int .i64 t.p]; have s1 : w3.heap.size ≠ b := by have := hT3.ps.lt; omega) | (go_at_call 79; refine (CE _ L2.tk.ps (by simp)).mono ?_; rintro e w4 ⟨k2, tt2, n2, p2, a2, c2, ks2, rfl, rfl, hTN, hTk⟩; have hX4 := L2.box.lt; have L5 := (L2.took hTk).alloc (.cells #[.int .i64 (k2), .string ⟨(tt2).toArray⟩, .int .i64 (n2), .int .i64 (p2), .slice a2 ks2.len c2] 25); have S5 := (S2.ky hTk.ky s1).alloc (.cells #[.int .i64 (k2), .string ⟨(tt2).toArray⟩, .int .i64 (n2), .int .i64 (p2), .slice a2 ks2.len c2] 25); have Q5 := Bx.new w4 25 #[.int .i64 k2, .string ⟨tt2.toArray⟩, .int .i64 n2, .int .i64 p2, .slice a2 ks2.len c2]; have M5 := (hTN.mono (Q := fun g => W.heap.size < g ∧ g ≠ X) (fun g hg _ => ⟨by have := L2.lt; omega, by omega⟩)).alloc (.cells #[.int .i64 (k2), .string ⟨(tt2).toArray⟩, .int .i64 (n2), .int .i64 (p2), .slice a2 ks2.len c2] 25); obtain ⟨w5, hw5⟩ : ∃ w5, w4.alloc (.cells #[.int .i64 (k2), .string ⟨(tt2).toArray⟩, .int .i64 (n2), .int .i64 (p2), .slice a2 ks2.len c2] 25) = w5 := ⟨_, rfl⟩; rw [hw5] at L5 S5 Q5 M5; obtain ⟨p0, p1, p2', p3, p4⟩ := L5.box.five; obtain ⟨q0, q1, q2, q3, q4⟩ := L5.box.fiveA; obtain ⟨f0, f1, f2, f3, f4⟩ := L5.box.frozen5A; have s1' := S5.c 1 _ rfl; obtain ⟨r0, r1, r2, r3, r4⟩ := Q5.five))
              have hX5 := L5.box.lt
              have hlt5 := L5.lt
              have M6 := TN.made (cur := #[.int .i64 k, .string ⟨tt.toArray⟩, .int .i64 n, .int .i64 p, .slice a1 ks.len c1, .int .i64 k2, .string ⟨tt2.toArray⟩, .int .i64 n2, .int .i64 p2, .slice a2 ks2.len c2]) (c := 2) (L5.tn.kf.app M5.kf) (by constructor <;> omega) rfl (by unfold maxLen; omega) 11 t.t 0 p
              go_roundg (q + 1)
              case measure => omega
              case rel => exact ⟨q, _, _, _, _, _, _, _, l3, by omega, (L5.alloc _).put M6, hR, by omega⟩
        · rw [if_neg (show ¬ a < bnd (hc (t :: l2)) from hb)] at hR
          subst hR
          go_wp2_with (first | (go_at_call 19; refine (token_any b m T l2 t _ hL.tk.ps).mono ?_; rintro e w2 ⟨rfl, hb2⟩) | (go_at_call 91; refine (binding_any t _).mono ?_; rintro e w3 ⟨rfl, hb3⟩; have hB := hb2.trans (hb3.mono hb2.size); have R3 := hL.res.below hB; have L3 := hL.box.below hB; obtain ⟨q0, q1, q2, q3, q4⟩ := R3.five; obtain ⟨f0, f1, f2, f3, f4⟩ := R3.frozen5; obtain ⟨p0, p1, p2, p3, p4⟩ := L3.five))
          refine bodyPost_ret (v := (.agg #[.int .i64 (k), .string ⟨(tt).toArray⟩, .int .i64 (n), .int .i64 (p), .slice a1 ks.len c1])) (by simp [results, Tryz.results79, go_sem, q0, q1, q2, q3, q4]) rfl ?_
          exact PN.five (hL.tn.below hB) (hL.tk.below hB) (fun g hg => hg.1) hlt.2

end Go.Proofs.YtlgkfhipobdcfabGreatDoor

/- The scanner by steps that the kernel can count (no program in it), and the document's first example. -/
namespace Go.Proofs.YtlgkfhipobdcfabGreatDoor
open Go.RowKit

def spnF : Nat → (Nat → Bool) → List UInt8 → Nat
  | 0, _, _ => 0
  | _ + 1, _, [] => 0
  | n + 1, f, c :: t => if f (rnL (c :: t)) then wdL (c :: t) + spnF n f (t.drop (wdL (c :: t) - 1)) else 0
theorem spnF_eq (f : Nat → Bool) : ∀ (n : Nat) (l : List UInt8), l.length ≤ n → spnF n f l = spn f l
  | 0, l, h => by
    have : l = [] := List.eq_nil_of_length_eq_zero (by omega)
    subst this; rw [spn_nil]; rfl
  | n + 1, [], _ => by rw [spn_nil]; rfl
  | n + 1, c :: t, h => by
    rw [spn, spnF]
    split
    · rw [spnF_eq f n _ (by rw [List.length_drop]; simp at h; omega)]
    · rfl

def qtF : Nat → UInt8 → List UInt8 → Nat → List UInt8 → QR
  | 0, _, _, _, _ => .bad 4 0
  | _ + 1, _, [], _, _ => .bad 4 0
  | n + 1, q, c :: t, i, acc =>
    if c.toNat = 10 then .bad 4 0
    else if c = q then (if 10000 < acc.length then .bad 14 0 else .ok acc (i + 1))
    else if c.toNat = 92 then
      if t = [] then .bad 4 0
      else if (esc t).2 = 0 then .bad 4 i
      else qtF n q (t.drop (esc t).2) (i + 1 + (esc t).2) (acc ++ (esc t).1)
    else qtF n q t (i + 1) (acc ++ [c])
theorem qtF_eq (q : UInt8) : ∀ (n : Nat) (l : List UInt8) (i : Nat) (acc : List UInt8), l.length ≤ n → qtF n q l i acc = qt q l i acc
  | 0, l, i, acc, h => by
    have : l = [] := List.eq_nil_of_length_eq_zero (by omega)
    subst this; rw [qt_nil]; rfl
  | n + 1, [], i, acc, _ => by rw [qt_nil]; rfl
  | n + 1, c :: t, i, acc, h => by
    simp only [List.length_cons] at h
    rw [qt, qtF]
    rw [qtF_eq q n _ _ _ (show (t.drop (esc t).2).length ≤ n by rw [List.length_drop]; omega), qtF_eq q n t _ _ (by omega)]

def stpF (l : List UInt8) : St :=
  if rnL l = 32 ∨ rnL l = 9 ∨ rnL l = 10 ∨ rnL l = 13 then .skip 1
  else if Lib.hasPrefix l [45, 45] then .skip (spnF l.length (fun r => decide (r ≠ 10)) l)
  else if letB (rnL l) then
    if 40 < spnF l.length inNm l then .bad 14 0
    else .tok (if wordB (l.take (spnF l.length inNm l)) then 2 else 1) (l.take (spnF l.length inNm l)) 0 (spnF l.length inNm l)
  else if digB (rnL l) then
    if W.parE (l.take (spnF l.length inNm l)) ≠ 0 then .bad (W.parE (l.take (spnF l.length inNm l))) 0
    else .tok 3 (l.take (spnF l.length inNm l)) (W.parN (l.take (spnF l.length inNm l))) (spnF l.length inNm l)
  else if rnL l = 39 ∨ rnL l = 34 then
    match qtF (l.drop 1).length (l.headD 0) (l.drop 1) 1 [] with
    | .ok v n => .tok 4 v 0 n
    | .bad c o => .bad c o
  else if sgz l = 0 then .bad 4 0
  else .tok 5 (l.take (sgz l)) 0 (sgz l)
theorem stpF_eq (l : List UInt8) : stpF l = stp l := by
  unfold stpF stp
  rw [spnF_eq _ _ _ (Nat.le_refl _), spnF_eq _ _ _ (Nat.le_refl _), qtF_eq _ _ _ _ _ (Nat.le_refl _)]
  rfl
def scnF : Nat → List UInt8 → Nat → List Tok → Res
  | 0, _, p, acc => .ok (acc ++ [⟨6, [], 0, p⟩])
  | _ + 1, [], p, acc => .ok (acc ++ [⟨6, [], 0, p⟩])
  | m + 1, c :: u, p, acc =>
    match stpF (c :: u) with
    | .skip n => scnF m (u.drop (n - 1)) (p + n) acc
    | .tok k t v n => scnF m (u.drop (n - 1)) (p + n) (acc ++ [⟨k, t, v, p⟩])
    | .bad d o => .bad d (p + o)
theorem scnF_eq : ∀ (m : Nat) (l : List UInt8) (p : Nat) (acc : List Tok), l.length ≤ m → scnF m l p acc = scn l p acc
  | 0, l, p, acc, h => by
    have : l = [] := List.eq_nil_of_length_eq_zero (by omega)
    subst this; rw [scn_nil]; rfl
  | m + 1, [], p, acc, _ => by rw [scn_nil]; rfl
  | m + 1, c :: u, p, acc, h => by
    simp only [List.length_cons] at h
    rw [scn, scnF, stpF_eq]
    cases stp (c :: u) with
    | skip n => simp only; rw [scnF_eq m _ _ _ (by rw [List.length_drop]; omega)]
    | tok k t v n => simp only; rw [scnF_eq m _ _ _ (by rw [List.length_drop]; omega)]
    | bad d o => rfl
def scTF (l : List UInt8) : List Tok × Int × Int :=
  if 20000 < l.length then ([], 14, -1) else match scnF l.length l 0 [] with | .ok ts => (ts, 0, 0) | .bad c p => ([], c, p)
theorem scTF_eq (l : List UInt8) : scTF l = scT l := by
  have h := scnF_eq l.length l 0 [] (Nat.le_refl _)
  unfold scTF scT
  split
  · rfl
  · cases hs : scn l 0 [] with
    | ok ts => rw [hs] at h; simp only [h]
    | bad c p => rw [hs] at h; simp only [h]

def ex1 : List UInt8 := [120, 61, 49, 48, 32, 45, 45, 99, 10, 46, 46, 39, 97, 92, 54, 53, 92, 120, 52, 50, 92, 117, 123, 50, 48, 65, 67, 125, 39]
theorem scan_ex1 : scT ex1 = ([⟨1, [120], 0, 0⟩, ⟨5, [61], 0, 1⟩, ⟨3, [49, 48], 10, 2⟩, ⟨5, [46, 46], 0, 9⟩, ⟨4, [97, 65, 66, 226, 130, 172], 0, 11⟩, ⟨6, [], 0, 29⟩], 0, 0) := by
  rw [← scTF_eq]; kernel_rfl
theorem scan_ex2 : scT [97, 126, 98] = ([], 4, 1) := by
  rw [← scTF_eq]; kernel_rfl

/-! ### how structs are compared -/
theorem bytes_iff {s s' : ByteArray} : s.toList = s'.toList ↔ s = s' := by
  rw [ByteArray.toList_eq, ByteArray.toList_eq]
  constructor
  · intro h
    obtain ⟨⟨x⟩⟩ := s
    obtain ⟨⟨y⟩⟩ := s'
    simp at h
    rw [h]
  · intro h; rw [h]
theorem under27 : Tryz.prog.underlying 28 = some (.struct (Tryz.prog.fieldsOf 28)) := by kernel_rfl
theorem stood27 : Tryz.prog.stoodInHeld 28 = false := by kernel_rfl
theorem guard27 : Tryz.prog.eqGuardType Tryz.prog.depth 28 = false := by kernel_rfl
theorem under79 : Tryz.prog.underlying 56 = some (.struct (Tryz.prog.fieldsOf 56)) := by kernel_rfl
theorem stood79 : Tryz.prog.stoodInHeld 56 = false := by kernel_rfl
theorem guard79 : Tryz.prog.eqGuardType Tryz.prog.depth 56 = false := by kernel_rfl
theorem eql27 (a b c d : Int) (W : World) : (binOp .eql 28 (.agg #[.int .i64 a, .int .i64 b]) (.agg #[.int .i64 c, .int .i64 d])).run Tryz.prog W = .ok (.bool (decide (a = c ∧ b = d))) W := by
  rw [run_eql_struct, run_equalIn_agg W _ _ _ _ under27 stood27]
  simp [go_sem]
  by_cases h1 : a = c <;> by_cases h2 : b = d <;> simp [h1, h2]
theorem neq27 (a b c d : Int) (W : World) : (binOp .neq 28 (.agg #[.int .i64 a, .int .i64 b]) (.agg #[.int .i64 c, .int .i64 d])).run Tryz.prog W = .ok (.bool (!decide (a = c ∧ b = d))) W := by
  rw [run_neq_struct, run_equalIn_agg W _ _ _ _ under27 stood27]
  simp [go_sem]
  by_cases h1 : a = c <;> by_cases h2 : b = d <;> simp [h1, h2]
theorem eql79 (a c d a' c' d' : Int) (s s' : ByteArray) (W : World) : (binOp .eql 56 (.agg #[.int .i64 a, .string s, .int .i64 c, .int .i64 d]) (.agg #[.int .i64 a', .string s', .int .i64 c', .int .i64 d'])).run Tryz.prog W = .ok (.bool (decide (a = a' ∧ s = s' ∧ c = c' ∧ d = d'))) W := by
  rw [run_eql_struct, run_equalIn_agg W _ _ _ _ under79 stood79]
  simp [go_sem, bytes_iff]
  by_cases h1 : a = a' <;> by_cases h2 : s = s' <;> by_cases h3 : c = c' <;> by_cases h4 : d = d' <;> simp [h1, h2, h3, h4]
theorem neq79 (a c d a' c' d' : Int) (s s' : ByteArray) (W : World) : (binOp .neq 56 (.agg #[.int .i64 a, .string s, .int .i64 c, .int .i64 d]) (.agg #[.int .i64 a', .string s', .int .i64 c', .int .i64 d'])).run Tryz.prog W = .ok (.bool (!decide (a = a' ∧ s = s' ∧ c = c' ∧ d = d'))) W := by
  rw [run_neq_struct, run_equalIn_agg W _ _ _ _ under79 stood79]
  simp [go_sem, bytes_iff]
  by_cases h1 : a = a' <;> by_cases h2 : s = s' <;> by_cases h3 : c = c' <;> by_cases h4 : d = d' <;> simp [h1, h2, h3, h4]

end Go.Proofs.YtlgkfhipobdcfabGreatDoor
