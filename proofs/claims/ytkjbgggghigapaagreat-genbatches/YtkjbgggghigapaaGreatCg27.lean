import Derived.Test.YtkjbgggghigapaaGreatCg26
namespace Go.Proofs.YtkjbgggghigapaaGreat
open Go.RowKit
theorem enters64 : ∀ args w,(callFunc 65 args).run Tryz.prog w = .ok (.enter 65 args) w:=enters_of Tryz.func65 (by kernel_rfl) rfl
theorem enters65 : ∀ args w,(callFunc 66 args).run Tryz.prog w = .ok (.enter 66 args) w:=enters_of Tryz.func66 (by kernel_rfl) rfl
theorem enters67 : ∀ args w,(callFunc 68 args).run Tryz.prog w = .ok (.enter 68 args) w:=enters_of Tryz.func68 (by kernel_rfl) rfl
theorem last_len' {q : Nat} {l l' : List Tok} {g : F} (h : lastP (pr q) l = .ok g l') : l'.length ≤ l.tail.length:=by
  unfold lastP at h
  split at h
  · obtain ⟨_,rfl⟩:=ok_inj h;simp
  · split at h
    · obtain ⟨_,rfl⟩:=ok_inj h;exact Nat.le_refl _
    · obtain ⟨g2,m2,h3,h⟩:=bind_ok h
      obtain ⟨_,rfl⟩:=ok_inj h
      have:=pr_len h3
      simp only [st] at this
      split
      · simp at this ⊢;omega
      · omega
theorem last_len {q : Nat} {t : Tok} {l l' : List Tok} {g : F} (h : lastP (pr q) (t :: l) = .ok g l') : l'.length ≤ l.length:=last_len' h
theorem fun_len {q : Nat} {t : Tok} {l l' : List Tok} {g : F} (h : funP (pr q) (t :: l) = .ok g l') : l'.length ≤ l.length:=by
  unfold funP at h
  simp only [List.tail_cons] at h
  obtain ⟨k1,h⟩:=nam_ok h
  obtain ⟨k2,h⟩:=need_ok h
  obtain ⟨ps,l1,k3,h⟩:=bind_ok h
  obtain ⟨k4,h⟩:=need_ok h
  obtain ⟨b,l2,k5,h⟩:=bind_ok h
  obtain ⟨k6,h⟩:=need_ok h
  obtain ⟨_,rfl⟩:=ok_inj h
  have e5:=pr_len k5
  have e7 : l1.length ≤ l.tail.tail.length:=by
    unfold parP at k3
    split at k3
    · obtain ⟨_,rfl⟩:=ok_inj k3;exact Nat.le_refl _
    · obtain ⟨k7,k3⟩:=nam_ok k3
      have:=pr_len k3
      simp at this ⊢;omega
  simp at e5 e7 ⊢;omega
set_option maxRecDepth 20000 in
set_option maxHeartbeats 32000000 in
theorem block_any (N : Nat) (H : ∀ n,n ≤ N → CC n) (c : Bool) (b m : Nat) (T l : List Tok) (W : World) (h : PS b m T l W) (hr : pr (N + 1) (.blk c) l ≠ .out) : Calls Tryz.prog 42 #[.pointer (some ⟨b,0,none⟩),.bool c] W (PN b m T W (pr (N + 1) (.blk c) l)):=by
  have hlt:=h.lt
  have hbW : W.heap.size ≠ b:=by omega
  obtain ⟨t0,l0,rfl⟩:=h.cons
  obtain ⟨R,hR⟩ : ∃ R,pr (N + 1) (.blk c) (t0 :: l0) = R:=⟨_,rfl⟩
  rw [hR] at hr ⊢
  rw [pr_succ] at hR
  obtain ⟨P0,hP0⟩ : ∃ P0 : Int,(t0.p : Int) = P0:=⟨_,rfl⟩
  have CA:=fun w h=>at_any b m T l0 t0 w h
  rw [hP0] at CA
  replace hR : Hid ((pr N (.bk c .nil) (t0 :: l0)).bind (fun f l1=>.ok (one 20 [] 0 P0 f) l1) = R):=by rw [← hP0];exact hR
  go_enter Tryz.func42,Tryz.ntmps42
  go_wp2_with (go_at_call 45;refine (CA _ (h.alloc _)).mono ?_;rintro e w1 ⟨rfl,hb1⟩;have D:=Nd.begin ((h.tk.alloc _).below hb1) ((Bx.new W 54 _).below hb1) (by omega) 20 [] 0 P0)
  obtain ⟨X,hX⟩ : ∃ X,w1.heap.size = X:=⟨_,rfl⟩
  obtain ⟨wS,hwS⟩ : ∃ wS,w1.alloc (.cells #[.int .i64 (20),.string ⟨#[]⟩,.int .i64 (0),.int .i64 (P0),.slice none 0 0] 54) = wS:=⟨_,rfl⟩
  rw [hX] at D ⊢
  rw [hwS] at D ⊢
  clear hwS hX
  go_loopg [] (N + 2) (fun gf wx=>∃ (q : Nat) (a' : Option Addr) (c' : Nat) (f : F) (l' : List Tok),q ≤ N ∧ Nd b m T l' W X 20 [] 0 P0 a' c' f wx ∧ Hid ((pr q (.bk c f) l').bind (fun f l1=>.ok (one 20 [] 0 P0 f) l1) = R) ∧ q < gf)
  case atStart=>exact ⟨N,none,0,.nil,t0 :: l0,Nat.le_refl _,D,hR,by omega⟩
  case round =>
    clear D hR
    obtain ⟨q,a1,c1,f,l',hq,D,hR,hfu⟩:=hrel
    obtain ⟨t,l2,rfl⟩:=D.tk.ps.cons
    cases q with
    | zero=>exact absurd hR.out.symm hr
    | succ q =>
      have hR:=hR.out
      rw [pr_succ] at hR
      simp only [stp',show hc (t :: l2) = cls t from rfl,List.tail_cons] at hR
      by_cases h1 : cls t = 1
      · have wt1 : rd t [59] = true:=cls_rd (c:=1) (by omega) (by decide) (by decide)
        rw [if_pos h1] at hR
        replace hR : Hid ((pr q (.bk c f) l2).bind (fun f l1=>.ok (one 20 [] 0 P0 f) l1) = R):=hR
        go_wp2_with (go_at_call 63;refine (accept_t b m T _ t _ _ D.tk.ps (by assumption)).mono ?_;rintro e w5 ⟨rfl,hT5⟩;have D:=D.took hT5 (by simp))
        go_roundg (q + 1)
        case measure=>omega
        case rel=>exact ⟨q,a1,c1,f,l2,by omega,D,hR,by omega⟩
      · have wt1 : rd t [59] = false:=cls_nrd (c:=1) (by omega) (by decide) (by decide)
        rw [if_neg h1] at hR
        by_cases h2 : cls t = 2
        · have wt2 : rd t [114,101,116,117,114,110] = true:=cls_rd (c:=2) (by omega) (by decide) (by decide)
          rw [if_pos h2,bind_assoc] at hR
          have CB:=fun W h=>last_any q (H q (by omega)) b m T l2 t W h (by omega)
          cases he : lastP (pr q) (t :: l2) with
          | out=>rw [he] at hR;exact absurd hR.symm hr
          | bad p2 =>
            rw [he] at hR CB
            simp only [PR.bind] at hR
            subst hR
            go_wp2_with (first | (go_at_call 63;refine (accept_f b m T _ t _ _ D.tk.ps (by assumption)).mono ?_;rintro e w5 ⟨rfl,hb5⟩;have D:=D.below hb5) | (go_at_call 64;refine (is_v b m T _ t _ _ D.tk.ps (by assumption)).mono ?_;rintro e w6 ⟨rfl,hb6⟩;have D:=D.below hb6;obtain ⟨b0,b1,b2,b3,b4⟩:=D.box.five))
            have D1:=D.drew
            go_region_dies
            all_goals
              refine (CB _ D1.tk.ps (by simp)).mono ?_
              rintro e wb ⟨he,hk⟩
              unfold refp at he
              subst he
              exact ⟨rfl,rfl,D1.tk.ky.trans hk⟩
          | ok g l3 =>
            have hlen : l3.length ≤ l2.length:=last_len he
            rw [he] at hR CB
            simp only [PR.bind] at hR
            subst hR
            go_wp2_with (first | (go_at_call 63;refine (accept_f b m T _ t _ _ D.tk.ps (by assumption)).mono ?_;rintro e w5 ⟨rfl,hb5⟩;have D:=D.below hb5) | (go_at_call 64;refine (is_v b m T _ t _ _ D.tk.ps (by assumption)).mono ?_;rintro e w6 ⟨rfl,hb6⟩;have D:=D.below hb6;obtain ⟨b0,b1,b2,b3,b4⟩:=D.box.five))
            have D1:=D.drew
            have hD1:=D1.few
            simp only [List.length_cons] at hD1
            go_region_law (first | (refine step_goE (by rfl) 65 _ _ (by rfl) _ (by simp [Act.eval,Act.put]) enters64 (CB _ D1.tk.ps (by simp)) ?_;rintro e wb ⟨k,tt,n,p,a1,c1,ks,rfl,rfl,hTN,hTk⟩;refine ⟨_,rfl,?_⟩;obtain ⟨-,-,-,-,q4⟩:=(D1.took hTk (by simp only [List.length_cons];omega)).box.five;obtain ⟨-,-,-,-,q5⟩:=(D1.took hTk (by simp only [List.length_cons];omega)).box.fiveA) | (refine step_row2 (by rfl) _ _ (by rfl) D1.row hTN hTk (by omega) (by rfl) (by rfl) ?_;intro gg cc wc hrow hky;obtain ⟨w10,hw10,D4,B4⟩:=D1.grownN hrow.ps hrow.kl hrow.few hky;obtain ⟨-,-,-,-,r4⟩:=B4.five;obtain ⟨-,-,-,-,g4⟩:=B4.frozen5;obtain ⟨q0,q1,q2,q3,q4'⟩:=D4.res.five;obtain ⟨f0,f1,f2,f3,f4⟩:=D4.res.frozen5;obtain ⟨p0,p1,p2',p3,p4⟩:=D4.box.five))
            all_goals
              go_wp2_with fail
              refine bodyPost_ret (v:=.agg #[.int .i64 20,.string ⟨#[]⟩,.int .i64 0,.int .i64 P0,.slice (some ⟨gg,0,none⟩) (f.app (one k tt n p ks)).len cc]) (by simp [results,Tryz.results42,go_sem,q0,q1,q2,q3,q4']) rfl ?_
              exact D4.ret _ _ _ _ _
        · have wt2 : rd t [114,101,116,117,114,110] = false:=cls_nrd (c:=2) (by omega) (by decide) (by decide)
          rw [if_neg h2] at hR
          cases c with
          | false =>
            rw [if_neg (by simp)] at hR
            have CC1:=fun w h=>closes_any b m T l2 t w h
            cases hcl : closes (t :: l2) with
            | true =>
              rw [hcl] at CC1
              rw [hcl,if_pos rfl] at hR
              simp only [PR.bind] at hR
              subst hR
              go_wp2_with (first | (go_at_call 63;refine (accept_f b m T _ t _ _ D.tk.ps (by assumption)).mono ?_;rintro e w5 ⟨rfl,hb5⟩;have D:=D.below hb5) | (go_at_call 64;refine (is_v b m T _ t _ _ D.tk.ps (by assumption)).mono ?_;rintro e w6 ⟨rfl,hb6⟩;have D:=D.below hb6;obtain ⟨b0,b1,b2,b3,b4⟩:=D.box.five) | (go_at_call 67;refine (CC1 _ D.tk.ps).mono ?_;rintro e w7 ⟨rfl,hb7⟩;have D:=D.below hb7;obtain ⟨b0,b1,b2,b3,b4⟩:=D.box.five;obtain ⟨q0,q1,q2,q3,q4⟩:=D.res.five;obtain ⟨f0,f1,f2,f3,f4⟩:=D.res.frozen5))
              refine bodyPost_ret (v:=(.agg #[.int .i64 (20),.string ⟨#[]⟩,.int .i64 (0),.int .i64 (P0),.slice a1 f.len c1])) (by simp [results,Tryz.results42,go_sem,q0,q1,q2,q3,q4]) rfl ?_
              exact D.ret _ _ _ _ _
            | false =>
              rw [hcl] at CC1
              rw [hcl,if_neg (by simp)] at hR
              rw [bind_assoc] at hR
              have CB:=fun W h=>(H q (by omega)).stat b m T (t :: l2) W h
              cases he : pr q .stat (t :: l2) with
              | out=>rw [he] at hR;exact absurd hR.symm hr
              | bad p2 =>
                rw [he] at hR CB
                simp only [PR.bind] at hR
                subst hR
                go_wp2_with (first | (go_at_call 63;refine (accept_f b m T _ t _ _ D.tk.ps (by assumption)).mono ?_;rintro e w5 ⟨rfl,hb5⟩;have D:=D.below hb5) | (go_at_call 64;refine (is_v b m T _ t _ _ D.tk.ps (by assumption)).mono ?_;rintro e w6 ⟨rfl,hb6⟩;have D:=D.below hb6;obtain ⟨b0,b1,b2,b3,b4⟩:=D.box.five) | (go_at_call 67;refine (CC1 _ D.tk.ps).mono ?_;rintro e w7 ⟨rfl,hb7⟩;have D:=D.below hb7;obtain ⟨b0,b1,b2,b3,b4⟩:=D.box.five;obtain ⟨q0,q1,q2,q3,q4⟩:=D.res.five;obtain ⟨f0,f1,f2,f3,f4⟩:=D.res.frozen5))
                have D1:=D.drew
                go_region_dies
                all_goals
                  refine (CB _ D1.tk.ps (by simp)).mono ?_
                  rintro e wb ⟨he,hk⟩
                  unfold refp at he
                  subst he
                  exact ⟨rfl,rfl,D1.tk.ky.trans hk⟩
              | ok g l3 =>
                have hlen : l3.length ≤ l2.length:=by have:=pr_len he;simp only [st,List.length_cons] at this;omega
                rw [he] at hR CB
                simp only [PR.bind] at hR
                replace hR : Hid ((pr q (.bk false (f.app g)) l3).bind (fun f l1=>.ok (one 20 [] 0 P0 f) l1) = R):=hR
                go_wp2_with (first | (go_at_call 63;refine (accept_f b m T _ t _ _ D.tk.ps (by assumption)).mono ?_;rintro e w5 ⟨rfl,hb5⟩;have D:=D.below hb5) | (go_at_call 64;refine (is_v b m T _ t _ _ D.tk.ps (by assumption)).mono ?_;rintro e w6 ⟨rfl,hb6⟩;have D:=D.below hb6;obtain ⟨b0,b1,b2,b3,b4⟩:=D.box.five) | (go_at_call 67;refine (CC1 _ D.tk.ps).mono ?_;rintro e w7 ⟨rfl,hb7⟩;have D:=D.below hb7;obtain ⟨b0,b1,b2,b3,b4⟩:=D.box.five;obtain ⟨q0,q1,q2,q3,q4⟩:=D.res.five;obtain ⟨f0,f1,f2,f3,f4⟩:=D.res.frozen5))
                have D1:=D.drew
                have hD1:=D1.few
                simp only [List.length_cons] at hD1
                go_region_law (first | (refine step_goE (by rfl) 68 _ _ (by rfl) _ (by simp [Act.eval,Act.put]) enters67 (CB _ D1.tk.ps (by simp)) ?_;rintro e wb ⟨k,tt,n,p,a1,c1,ks,rfl,rfl,hTN,hTk⟩;refine ⟨_,rfl,?_⟩;obtain ⟨-,-,-,-,q4⟩:=(D1.took hTk (by simp only [List.length_cons];omega)).box.five;obtain ⟨-,-,-,-,q5⟩:=(D1.took hTk (by simp only [List.length_cons];omega)).box.fiveA) | (refine step_row2 (by rfl) _ _ (by rfl) D1.row hTN hTk (by omega) (by rfl) (by rfl) ?_;intro gg cc wc hrow hky;obtain ⟨w10,hw10,D4,B4⟩:=D1.grownN hrow.ps hrow.kl hrow.few hky;obtain ⟨-,-,-,-,r4⟩:=B4.five;obtain ⟨-,-,-,-,g4⟩:=B4.frozen5;obtain ⟨q0,q1,q2,q3,q4'⟩:=D4.res.five;obtain ⟨f0,f1,f2,f3,f4⟩:=D4.res.frozen5;obtain ⟨p0,p1,p2',p3,p4⟩:=D4.box.five))
                all_goals
                  go_wp2_with fail
                  go_roundg (q + 1)
                  case measure=>omega
                  case rel=>exact ⟨q,_,_,_,l3,by omega,D4,hR,by omega⟩
          | true =>
            by_cases h3 : cls t = 3
            · have wt3 : rd t [102,117,110,99,116,105,111,110] = true:=cls_rd (c:=3) (by omega) (by decide) (by decide)
              rw [if_pos ⟨rfl,h3⟩,bind_assoc] at hR
              have CB:=fun W h=>function_any q (H q (by omega)) b m T l2 t W h (by omega)
              cases he : funP (pr q) (t :: l2) with
              | out=>rw [he] at hR;exact absurd hR.symm hr
              | bad p2 =>
                rw [he] at hR CB
                simp only [PR.bind] at hR
                subst hR
                go_wp2_with (first | (go_at_call 63;refine (accept_f b m T _ t _ _ D.tk.ps (by assumption)).mono ?_;rintro e w5 ⟨rfl,hb5⟩;have D:=D.below hb5) | (go_at_call 64;refine (is_v b m T _ t _ _ D.tk.ps (by assumption)).mono ?_;rintro e w6 ⟨rfl,hb6⟩;have D:=D.below hb6;obtain ⟨b0,b1,b2,b3,b4⟩:=D.box.five))
                have D1:=D.drew
                go_region_dies
                all_goals
                  refine (CB _ D1.tk.ps (by simp)).mono ?_
                  rintro e wb ⟨he,hk⟩
                  unfold refp at he
                  subst he
                  exact ⟨rfl,rfl,D1.tk.ky.trans hk⟩
              | ok g l3 =>
                have hlen : l3.length ≤ l2.length:=fun_len he
                rw [he] at hR CB
                simp only [PR.bind] at hR
                replace hR : Hid ((pr q (.bk true (f.app g)) l3).bind (fun f l1=>.ok (one 20 [] 0 P0 f) l1) = R):=hR
                go_wp2_with (first | (go_at_call 63;refine (accept_f b m T _ t _ _ D.tk.ps (by assumption)).mono ?_;rintro e w5 ⟨rfl,hb5⟩;have D:=D.below hb5) | (go_at_call 64;refine (is_v b m T _ t _ _ D.tk.ps (by assumption)).mono ?_;rintro e w6 ⟨rfl,hb6⟩;have D:=D.below hb6;obtain ⟨b0,b1,b2,b3,b4⟩:=D.box.five))
                have D1:=D.drew
                have hD1:=D1.few
                simp only [List.length_cons] at hD1
                go_region_law (first | (refine step_goE (by rfl) 66 _ _ (by rfl) _ (by simp [Act.eval,Act.put]) enters65 (CB _ D1.tk.ps (by simp)) ?_;rintro e wb ⟨k,tt,n,p,a1,c1,ks,rfl,rfl,hTN,hTk⟩;refine ⟨_,rfl,?_⟩;obtain ⟨-,-,-,-,q4⟩:=(D1.took hTk (by simp only [List.length_cons];omega)).box.five;obtain ⟨-,-,-,-,q5⟩:=(D1.took hTk (by simp only [List.length_cons];omega)).box.fiveA) | (refine step_row2 (by rfl) _ _ (by rfl) D1.row hTN hTk (by omega) (by rfl) (by rfl) ?_;intro gg cc wc hrow hky;obtain ⟨w10,hw10,D4,B4⟩:=D1.grownN hrow.ps hrow.kl hrow.few hky;obtain ⟨-,-,-,-,r4⟩:=B4.five;obtain ⟨-,-,-,-,g4⟩:=B4.frozen5;obtain ⟨q0,q1,q2,q3,q4'⟩:=D4.res.five;obtain ⟨f0,f1,f2,f3,f4⟩:=D4.res.frozen5;obtain ⟨p0,p1,p2',p3,p4⟩:=D4.box.five))
                all_goals
                  go_wp2_with fail
                  go_roundg (q + 1)
                  case measure=>omega
                  case rel=>exact ⟨q,_,_,_,l3,by omega,D4,hR,by omega⟩
            · have wt3 : rd t [102,117,110,99,116,105,111,110] = false:=cls_nrd (c:=3) (by omega) (by decide) (by decide)
              rw [if_neg (fun e=>h3 e.2)] at hR
              have CC1:=fun w h=>closes_any b m T l2 t w h
              cases hcl : closes (t :: l2) with
              | true =>
                rw [hcl] at CC1
                rw [hcl,if_pos rfl] at hR
                simp only [PR.bind] at hR
                subst hR
                go_wp2_with (first | (go_at_call 63;refine (accept_f b m T _ t _ _ D.tk.ps (by assumption)).mono ?_;rintro e w5 ⟨rfl,hb5⟩;have D:=D.below hb5) | (go_at_call 64;refine (is_v b m T _ t _ _ D.tk.ps (by assumption)).mono ?_;rintro e w6 ⟨rfl,hb6⟩;have D:=D.below hb6;obtain ⟨b0,b1,b2,b3,b4⟩:=D.box.five) | (go_at_call 67;refine (CC1 _ D.tk.ps).mono ?_;rintro e w7 ⟨rfl,hb7⟩;have D:=D.below hb7;obtain ⟨b0,b1,b2,b3,b4⟩:=D.box.five;obtain ⟨q0,q1,q2,q3,q4⟩:=D.res.five;obtain ⟨f0,f1,f2,f3,f4⟩:=D.res.frozen5))
                refine bodyPost_ret (v:=(.agg #[.int .i64 (20),.string ⟨#[]⟩,.int .i64 (0),.int .i64 (P0),.slice a1 f.len c1])) (by simp [results,Tryz.results42,go_sem,q0,q1,q2,q3,q4]) rfl ?_
                exact D.ret _ _ _ _ _
              | false =>
                rw [hcl] at CC1
                rw [hcl,if_neg (by simp)] at hR
                rw [bind_assoc] at hR
                have CB:=fun W h=>(H q (by omega)).stat b m T (t :: l2) W h
                cases he : pr q .stat (t :: l2) with
                | out=>rw [he] at hR;exact absurd hR.symm hr
                | bad p2 =>
                  rw [he] at hR CB
                  simp only [PR.bind] at hR
                  subst hR
                  go_wp2_with (first | (go_at_call 63;refine (accept_f b m T _ t _ _ D.tk.ps (by assumption)).mono ?_;rintro e w5 ⟨rfl,hb5⟩;have D:=D.below hb5) | (go_at_call 64;refine (is_v b m T _ t _ _ D.tk.ps (by assumption)).mono ?_;rintro e w6 ⟨rfl,hb6⟩;have D:=D.below hb6;obtain ⟨b0,b1,b2,b3,b4⟩:=D.box.five) | (go_at_call 67;refine (CC1 _ D.tk.ps).mono ?_;rintro e w7 ⟨rfl,hb7⟩;have D:=D.below hb7;obtain ⟨b0,b1,b2,b3,b4⟩:=D.box.five;obtain ⟨q0,q1,q2,q3,q4⟩:=D.res.five;obtain ⟨f0,f1,f2,f3,f4⟩:=D.res.frozen5))
                  have D1:=D.drew
                  go_region_dies
                  all_goals
                    refine (CB _ D1.tk.ps (by simp)).mono ?_
                    rintro e wb ⟨he,hk⟩
                    unfold refp at he
                    subst he
                    exact ⟨rfl,rfl,D1.tk.ky.trans hk⟩
                | ok g l3 =>
                  have hlen : l3.length ≤ l2.length:=by have:=pr_len he;simp only [st,List.length_cons] at this;omega
                  rw [he] at hR CB
                  simp only [PR.bind] at hR
                  replace hR : Hid ((pr q (.bk true (f.app g)) l3).bind (fun f l1=>.ok (one 20 [] 0 P0 f) l1) = R):=hR
                  go_wp2_with (first | (go_at_call 63;refine (accept_f b m T _ t _ _ D.tk.ps (by assumption)).mono ?_;rintro e w5 ⟨rfl,hb5⟩;have D:=D.below hb5) | (go_at_call 64;refine (is_v b m T _ t _ _ D.tk.ps (by assumption)).mono ?_;rintro e w6 ⟨rfl,hb6⟩;have D:=D.below hb6;obtain ⟨b0,b1,b2,b3,b4⟩:=D.box.five) | (go_at_call 67;refine (CC1 _ D.tk.ps).mono ?_;rintro e w7 ⟨rfl,hb7⟩;have D:=D.below hb7;obtain ⟨b0,b1,b2,b3,b4⟩:=D.box.five;obtain ⟨q0,q1,q2,q3,q4⟩:=D.res.five;obtain ⟨f0,f1,f2,f3,f4⟩:=D.res.frozen5))
                  have D1:=D.drew
                  have hD1:=D1.few
                  simp only [List.length_cons] at hD1
                  go_region_law (first | (refine step_goE (by rfl) 68 _ _ (by rfl) _ (by simp [Act.eval,Act.put]) enters67 (CB _ D1.tk.ps (by simp)) ?_;rintro e wb ⟨k,tt,n,p,a1,c1,ks,rfl,rfl,hTN,hTk⟩;refine ⟨_,rfl,?_⟩;obtain ⟨-,-,-,-,q4⟩:=(D1.took hTk (by simp only [List.length_cons];omega)).box.five;obtain ⟨-,-,-,-,q5⟩:=(D1.took hTk (by simp only [List.length_cons];omega)).box.fiveA) | (refine step_row2 (by rfl) _ _ (by rfl) D1.row hTN hTk (by omega) (by rfl) (by rfl) ?_;intro gg cc wc hrow hky;obtain ⟨w10,hw10,D4,B4⟩:=D1.grownN hrow.ps hrow.kl hrow.few hky;obtain ⟨-,-,-,-,r4⟩:=B4.five;obtain ⟨-,-,-,-,g4⟩:=B4.frozen5;obtain ⟨q0,q1,q2,q3,q4'⟩:=D4.res.five;obtain ⟨f0,f1,f2,f3,f4⟩:=D4.res.frozen5;obtain ⟨p0,p1,p2',p3,p4⟩:=D4.box.five))
                  all_goals
                    go_wp2_with fail
                    go_roundg (q + 1)
                    case measure=>omega
                    case rel=>exact ⟨q,_,_,_,l3,by omega,D4,hR,by omega⟩
end Go.Proofs.YtkjbgggghigapaaGreat
