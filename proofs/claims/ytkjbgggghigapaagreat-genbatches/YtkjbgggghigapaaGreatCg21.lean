import Derived.Test.YtkjbgggghigapaaGreatCg03
import Derived.Deep.CutRange
import Derived.RegionDies
import Derived.Test.YtkjbgggghigapaaGreatCg20
import Derived.Test.YtkjbgggghigapaaGreatCg01
namespace Go.Proofs.YtkjbgggghigapaaGreat
open Go.RowKit
section
variable {b m : Nat} {T l l' : List Tok} {W : World} {X : Nat} {k : Int} {t : List UInt8} {n p : Int} {v : Value} {ks : F} {w w' : World}
theorem Lf.drew (h : Lf b m T l W X k t n p v ks w) : Lf b m T l W X k t n p v ks w.drew:=⟨h.tk.drew,h.res.drew,h.box.drew,h.tn.keep fun _ _ _=>rfl,h.lt⟩
theorem Lf.call {o : Obj} (h : Lf b m T l W X k t n p v ks w) (ps : PS b m T l' w') (hk : Ky (fun k=>k = b ∨ some k = some w.heap.size) (w.alloc o) w') : Lf b m T l' W X k t n p v ks w':=by
  have hlt:=h.lt
  have hX:=h.box.lt
  have hR:=h.res.lt
  have hs:=h.tk.ky.size
  have hne : ∀ x,x < w.heap.size → x ≠ b → ¬ (x = b ∨ some x = some w.heap.size):=fun x hx hb e=>e.elim hb fun e=>by simp at e;omega
  refine ⟨⟨ps,(h.tk.ky.alloc o).onto hk fun i hi e=>e.elim id fun e=>by simp at e;omega⟩,(h.res.alloc o).ky hk (hne _ hR (by omega)),(h.box.alloc o).ky hk (hne _ hX (by omega)),?_,h.lt⟩
  refine (h.tn.mono (Q:=fun g=>(W.heap.size < g ∧ g ≠ X) ∧ g < w.heap.size) fun g hg hl=>⟨hg,hl⟩).alloc o |>.ky hk (fun g hg=>hne g hg.2 (by omega)) |>.mono fun g hg _=>hg.1
theorem Lf.putN {k' : Int} {t' : List UInt8} {n' p' : Int} {v' : Value} {ks' : F} (h : Lf b m T l W X k t n p v ks w) (ht : TN 54 w (fun g=>W.heap.size < g ∧ g ≠ X) k' t' n' p' v' ks') :
    ∃ wF,((((w.setCell ⟨X,0,none⟩ (.int .i64 k')).setCell ⟨X,1,none⟩ (.string ⟨t'.toArray⟩)).setCell ⟨X,2,none⟩ (.int .i64 n')).setCell ⟨X,3,none⟩ (.int .i64 p')).setCell ⟨X,4,none⟩ v' = wF ∧ Lf b m T l W X k' t' n' p' v' ks' wF:=⟨_,rfl,h.put ht⟩
theorem Lf.two {k' : Int} {t' : List UInt8} {n' p' : Int} {v' : Value} {ks' : F} {Q : Nat → Prop} (h : Lf b m T l W X k t n p v ks w) (ht : TN 54 w Q k' t' n' p' v' ks') (hQ : ∀ g,Q g → W.heap.size < g ∧ g ≠ X) (q : Int) (tx : List UInt8) (N P : Int) :
    TN 54 (w.alloc (.cells #[.int .i64 k,.string ⟨t.toArray⟩,.int .i64 n,.int .i64 p,v,.int .i64 k',.string ⟨t'.toArray⟩,.int .i64 n',.int .i64 p',v'] 54)) (fun g=>W.heap.size < g ∧ g ≠ X) q tx N P (.slice (some ⟨w.heap.size,0,none⟩) 2 2) ((one k t n p ks).app (one k' t' n' p' ks')):=by
  have hlt:=h.lt
  have hX:=h.box.lt
  exact TN.made (cur:=#[.int .i64 k,.string ⟨t.toArray⟩,.int .i64 n,.int .i64 p,v,.int .i64 k',.string ⟨t'.toArray⟩,.int .i64 n',.int .i64 p',v']) (c:=2) (h.tn.kf.app (ht.kf.mono fun g hg _=>hQ g hg)) (by constructor <;> omega) rfl (by unfold maxLen;omega) q tx N P
end
set_option maxRecDepth 20000 in
set_option maxHeartbeats 16000000 in
theorem suf_any (N : Nat) (H : ∀ n,n ≤ N → CC n) (b m : Nat) (T l : List Tok) (W : World) (h : PS b m T l W) (hr : pr (N + 1) .suf l ≠ .out) : Calls Tryz.prog 127 #[.pointer (some ⟨b,0,none⟩)] W (PN b m T W (pr (N + 1) .suf l)):=by
  have hlt:=h.lt
  have hbW : W.heap.size ≠ b:=by omega
  obtain ⟨R,hR⟩ : ∃ R,pr (N + 1) .suf l = R:=⟨_,rfl⟩
  rw [hR] at hr ⊢
  rw [pr_succ] at hR
  simp only [stp'] at hR
  have CE:=fun W h=>stem_any N (H N (Nat.le_refl _)) b m T l W h
  cases he : stemP (pr N) l with
  | out=>rw [he] at hR;exact absurd hR.symm hr
  | bad p =>
    rw [he] at hR CE
    simp only [PR.bind] at hR
    subst hR
    go_enter Tryz.func127,Tryz.ntmps127
    go_wp2_with (go_at_call 142;refine (CE _ (h.alloc _) (by simp)).mono ?_;rintro e w1 ⟨he,hk⟩;unfold refp at he;subst he)
    exact ⟨rfl,rfl,((Ky.refl (fun k=>k = b) W).alloc _).trans hk⟩
  | ok g l1 =>
    rw [he] at hR CE
    simp only [PR.bind] at hR
    go_enter Tryz.func127,Tryz.ntmps127
    go_wp2_with (go_at_call 142;refine (CE _ (h.alloc _) (by simp)).mono ?_;rintro e w1 ⟨k,tt,n,p,a1,c1,ks,rfl,rfl,hTN,hTk⟩;have R1:=(Bx.new W 54 _).ky hTk.ky hbW;have T1:=(h.tk.alloc _).trans hTk)
    have hX1 : W.heap.size < w1.heap.size:=R1.lt
    replace hR : Hid (pr N (.sufl (one k tt n p ks)) l1 = R):=hR
    have hL : Lf b m T l1 W w1.heap.size k tt n p (.slice a1 ks.len c1) ks (w1.alloc (.cells #[.int .i64 (k),.string ⟨(tt).toArray⟩,.int .i64 (n),.int .i64 (p),.slice a1 ks.len c1] 54)):=⟨T1.alloc _,R1.alloc _,Bx.new _ _ _,(hTN.mono fun g hg hl=>⟨by simp at hg;omega,by omega⟩).alloc _,by omega⟩
    obtain ⟨X,hX⟩ : ∃ X,w1.heap.size = X:=⟨_,rfl⟩
    obtain ⟨wS,hwS⟩ : ∃ wS,w1.alloc (.cells #[.int .i64 (k),.string ⟨(tt).toArray⟩,.int .i64 (n),.int .i64 (p),.slice a1 ks.len c1] 54) = wS:=⟨_,rfl⟩
    rw [hX] at hX1 hL ⊢
    rw [hwS] at hL ⊢
    clear hwS hTN hTk R1 T1 CE he
    go_loopg [] (N + 2) (fun gf wx=>∃ (q : Nat) (k : Int) (tt : List UInt8) (n p : Int) (a' : Option Addr) (c' : Nat) (ks : F) (l' : List Tok),q ≤ N ∧ Lf b m T l' W X k tt n p (.slice a' ks.len c') ks wx ∧ Hid (pr q (.sufl (one k tt n p ks)) l' = R) ∧ q < gf)
    case atStart=>exact ⟨N,k,tt,n,p,a1,c1,ks,l1,Nat.le_refl _,hL,hR,by omega⟩
    case round =>
      clear hL hR hX
      obtain ⟨q,k,tt,n,p,a1,c1,ks,l',hq,hL,hR,hfu⟩:=hrel
      obtain ⟨t,l2,rfl⟩:=hL.tk.ps.cons
      have hLl:=hL.lt
      have hLP:=hL.tk.ps
      cases q with
      | zero=>exact absurd hR.out.symm hr
      | succ q =>
        have hR:=hR.out
        rw [pr_succ] at hR
        simp only [stp',show (one k tt n p ks).at = p from rfl,List.tail_cons] at hR
        by_cases h19 : cls t = 19
        · have wt19 : rd t [91] = true:=cls_rd (c:=19) (by omega) (by decide) (by decide)
          rw [if_pos (show hc (t :: l2) = 19 from h19)] at hR
          have CE:=fun W h=>(H q (by omega)).ex 0 b m T l2 W h
          cases he : pr q (.ex 0) l2 with
          | out=>rw [he] at hR;exact absurd hR.symm hr
          | bad p2 =>
            rw [he] at hR CE
            simp only [PR.bind] at hR
            subst hR
            go_wp2_with (first | (go_at_call 63;refine (accept_t b m T l2 t _ _ hL.tk.ps (by assumption)).mono ?_;rintro e w2 ⟨rfl,hT2⟩;have L2:=hL.took hT2) | (go_at_call 124;refine (CE _ L2.tk.ps (by simp)).mono ?_;rintro e w3 ⟨he,hk⟩;unfold refp at he;subst he))
            exact ⟨rfl,rfl,L2.tk.ky.trans hk⟩
          | ok g l3 =>
            obtain ⟨t3,l4,rfl⟩:=(pr_ends he (hL.tk.ps.ends.tail (by omega))).cons
            rw [he] at hR CE
            simp only [PR.bind,need] at hR
            by_cases h20 : cls t3 = 20
            · have wt320 : rd t3 [93] = true:=cls_rd (c:=20) (by omega) (by decide) (by decide)
              rw [if_pos (show hc (t3 :: l4) = 20 from h20)] at hR
              replace hR : Hid (pr q (.sufl (one 7 [] 0 p ((one k tt n p ks).app g))) l4 = R):=hR
              go_wp2_with (first | (go_at_call 63;refine (accept_t b m T l2 t _ _ hL.tk.ps (by assumption)).mono ?_;rintro e w2 ⟨rfl,hT2⟩;have L2:=hL.took hT2) | (go_at_call 124;refine (CE _ L2.tk.ps (by simp)).mono ?_;rintro e w4 ⟨k2,tt2,n2,p2,a2,c2,ks2,rfl,rfl,hTN,hTk⟩;have hX4:=L2.box.lt;have L5:=(L2.took hTk).alloc (.cells #[.int .i64 (k2),.string ⟨(tt2).toArray⟩,.int .i64 (n2),.int .i64 (p2),.slice a2 ks2.len c2] 54);have Q5:=Bx.new w4 54 #[.int .i64 k2,.string ⟨tt2.toArray⟩,.int .i64 n2,.int .i64 p2,.slice a2 ks2.len c2];have M5:=(hTN.mono (Q:=fun g=>W.heap.size < g ∧ g ≠ X) (fun g hg _=>by omega)).alloc (.cells #[.int .i64 (k2),.string ⟨(tt2).toArray⟩,.int .i64 (n2),.int .i64 (p2),.slice a2 ks2.len c2] 54);have s4 : w4.heap.size ≠ b:=(by have:=hTk.ps.lt;omega);obtain ⟨w5,hw5⟩ : ∃ w5,w4.alloc (.cells #[.int .i64 (k2),.string ⟨(tt2).toArray⟩,.int .i64 (n2),.int .i64 (p2),.slice a2 ks2.len c2] 54) = w5:=⟨_,rfl⟩;rw [hw5] at L5 Q5 M5) | (go_at_call 96;refine (expect_t b m T l4 t3 _ _ L5.tk.ps (by assumption)).mono ?_;rintro e w6 ⟨rfl,hT6⟩;have L6:=L5.took hT6;have Q6:=Q5.ky hT6.ky s4;have M6:=M5.ky hT6.ky (by omega);obtain ⟨p0,p1,p2',p3,p4⟩:=L6.box.five;obtain ⟨q0,q1,q2,q3,q4⟩:=L6.box.fiveA;obtain ⟨f0,f1,f2,f3,f4⟩:=L6.box.frozen5A;obtain ⟨r0,r1,r2,r3,r4⟩:=Q6.five))
              go_roundg (q + 1)
              case measure=>omega
              case rel=>exact ⟨q,_,_,_,_,_,_,_,l4,by omega,(L6.alloc _).put (L6.two M6 (fun _ e=>e) 7 [] 0 p),hR,by omega⟩
            · have wt320 : rd t3 [93] = false:=cls_nrd (c:=20) (by omega) (by decide) (by decide)
              rw [if_neg (show ¬ hc (t3 :: l4) = 20 from h20)] at hR
              subst hR
              go_wp2_with (first | (go_at_call 63;refine (accept_t b m T l2 t _ _ hL.tk.ps (by assumption)).mono ?_;rintro e w2 ⟨rfl,hT2⟩;have L2:=hL.took hT2) | (go_at_call 124;refine (CE _ L2.tk.ps (by simp)).mono ?_;rintro e w4 ⟨k2,tt2,n2,p2,a2,c2,ks2,rfl,rfl,hTN,hTk⟩;have L5:=(L2.took hTk).alloc (.cells #[.int .i64 (k2),.string ⟨(tt2).toArray⟩,.int .i64 (n2),.int .i64 (p2),.slice a2 ks2.len c2] 54)) | (go_at_call 96;refine (expect_f b m T l4 t3 _ _ L5.tk.ps (by assumption)).mono ?_;rintro e w6 ⟨he,hb6⟩;unfold refp at he;subst he))
              exact ⟨rfl,rfl,L5.tk.ky.trans (.of_below hb6)⟩
        · have wt19 : rd t [91] = false:=cls_nrd (c:=19) (by omega) (by decide) (by decide)
          rw [if_neg (show ¬ hc (t :: l2) = 19 from h19)] at hR
          by_cases h21 : cls t = 21
          · have wt21 : rd t [46] = true:=cls_rd (c:=21) (by omega) (by decide) (by decide)
            rw [if_pos (show hc (t :: l2) = 21 from h21)] at hR
            obtain ⟨t3,l4,rfl⟩:=tail_cons hL.tk.ps.ends (by omega)
            simp only [nam] at hR
            go_wp2_with (first | (go_at_call 63;refine (accept_f b m T (t3 :: l4) t _ _ hL.tk.ps (by assumption)).mono ?_;rintro e w2 ⟨rfl,hb2⟩;have hL:=hL.below hb2) | (go_at_call 63;refine (accept_t b m T (t3 :: l4) t _ _ hL.tk.ps (by assumption)).mono ?_;rintro e w3 ⟨rfl,hT3⟩;have hL:=hL.took hT3))
            have L4:=hL.drew
            obtain ⟨p0,p1,p2',p3,p4⟩:=L4.box.five
            by_cases h51 : cls t3 = 51
            · rw [if_pos (show hc (t3 :: l4) = 51 from h51)] at hR
              replace hR : Hid (pr q (.sufl (one 7 [] 0 p ((one k tt n p ks).app (one 5 t3.t 0 t3.p .nil)))) l4 = R):=hR
              go_region_with (go_at_call 143;refine (nameText_yes b m T l4 t3 _ L4.tk.ps h51).mono ?_;rintro e w5 ⟨rfl,hT5⟩;have L5:=L4.took hT5;obtain ⟨s0,s1,s2,s3,s4⟩:=L5.box.five;obtain ⟨q0,q1,q2,q3,q4⟩:=L5.box.fiveA;obtain ⟨f0,f1,f2,f3,f4⟩:=L5.box.frozen5A;obtain ⟨wF,hwF,LF⟩:=(L5.alloc _).putN (L5.two (k':=5) (t':=t3.t) (n':=0) (p':=t3.p) (v':=.slice none 0 0) (ks':=.nil) (TN.leaf _ _ (fun g=>W.heap.size < g ∧ g ≠ X) _ _ _ _) (fun _ e=>e) 7 [] 0 p))
              all_goals
                go_wp2_with fail
                go_roundg (q + 1)
                case measure=>omega
                case rel=>exact ⟨q,_,_,_,_,_,_,_,l4,by omega,LF,hR,by omega⟩
            · rw [if_neg (show ¬ hc (t3 :: l4) = 51 from h51)] at hR
              subst hR
              go_region_dies
              all_goals
                refine (nameText_no b m T l4 t3 _ L4.tk.ps h51).mono ?_
                rintro e w5 ⟨he,hb5⟩
                unfold refp at he
                subst he
                exact ⟨rfl,rfl,L4.tk.ky.trans (.of_below hb5)⟩
          · have wt21 : rd t [46] = false:=cls_nrd (c:=21) (by omega) (by decide) (by decide)
            rw [if_neg (show ¬ hc (t :: l2) = 21 from h21)] at hR
            by_cases h17 : cls t = 17
            · have wt17 : rd t [40] = true:=cls_rd (c:=17) (by omega) (by decide) (by decide)
              rw [if_pos (show hc (t :: l2) = 17 from h17)] at hR
              go_wp2_with (first | (go_at_call 63;refine (accept_f b m T l2 t _ _ hL.tk.ps (by assumption)).mono ?_;rintro e w2 ⟨rfl,hb2⟩;have hL:=hL.below hb2) | (go_at_call 63;refine (accept_t b m T l2 t _ _ hL.tk.ps (by assumption)).mono ?_;rintro e w3 ⟨rfl,hT3⟩;have hL:=hL.took hT3))
              have L4:=hL.drew
              obtain ⟨p0,p1,p2',p3,p4⟩:=L4.box.five
              have hx4 : X < w3.heap.size:=L4.box.lt
              have hs4 : W.heap.size ≤ w3.heap.size:=L4.tk.ky.size
              obtain ⟨u0,u1,u2,u3,u4⟩:=hL.box.fiveA
              have hfew : (one k tt n p ks).len + l2.length ≤ T.length:=by
                obtain ⟨i,_,h6,h7⟩:=hLP.plc
                simp only [one,F.len,List.length_cons] at h7 ⊢
                omega
              have Hrow : Row b m T l2 (w3.drew.alloc (.cells #[.int .i64 (k),.string ⟨(tt).toArray⟩,.int .i64 (n),.int .i64 (p),.slice a1 ks.len c1] 54)) (fun g=>W.heap.size < g ∧ g ≠ X) (some ⟨w3.heap.size,0,none⟩) 1 (one k tt n p ks) :=
                ⟨L4.tk.ps.alloc _,L4.tn.row1 (fun _ e _=>e) (show W.heap.size < w3.heap.size ∧ w3.heap.size ≠ X from ⟨by omega,by omega⟩),fun x hx=>by omega,fun x hx=>by (have hx : w3.heap.size + 1 ≤ x:=by simpa using hx);omega,hfew⟩
              have CA:=args_any q (H q (by omega)) b m T l2 _ _ _ _ _ Hrow
              cases he : argP (pr q) (one k tt n p ks) l2 with
              | out=>rw [he] at hR;exact absurd hR.symm hr
              | bad p5 =>
                rw [he] at hR CA
                simp only [PR.bind] at hR
                subst hR
                go_region_dies
                all_goals
                  refine (CA (by simp)).mono ?_
                  rintro e w5 ⟨he,hk⟩
                  unfold refp at he
                  subst he
                  exact ⟨rfl,rfl,(L4.tk.ky.alloc _).onto hk fun i hi e=>e.elim id fun e=>by (have e : i = w3.heap.size:=by simpa [Value.ownBlock] using e);omega⟩
              | ok g l3 =>
                rw [he] at hR CA
                simp only [PR.bind] at hR
                replace hR : Hid (pr q (.sufl (one 8 [] 0 p g)) l3 = R):=hR
                go_region_with (go_at_call 144;refine (CA (by simp)).mono ?_;rintro e w5 ⟨a5,c5,rfl,hkl,hps,hk⟩;have L5:=L4.call hps hk;obtain ⟨s0,s1,s2,s3,s4⟩:=L5.box.five;obtain ⟨f0,f1,f2,f3,f4⟩:=L5.box.frozen5)
                all_goals
                  go_wp2_with fail
                  go_roundg (q + 1)
                  case measure=>omega
                  case rel=>exact ⟨q,_,_,_,_,_,_,_,l3,by omega,L5.put (hkl.node 8 [] 0 p),hR,by omega⟩
            · have wt17 : rd t [40] = false:=cls_nrd (c:=17) (by omega) (by decide) (by decide)
              rw [if_neg (show ¬ hc (t :: l2) = 17 from h17)] at hR
              subst hR
              go_wp2_with (go_at_call 63;refine (accept_f b m T l2 t _ _ hL.tk.ps (by assumption)).mono ?_;rintro e w2 ⟨rfl,hb2⟩;have hL:=hL.below hb2;obtain ⟨q0,q1,q2,q3,q4⟩:=hL.res.five;obtain ⟨f0,f1,f2,f3,f4⟩:=hL.res.frozen5;obtain ⟨p0,p1,p2,p3,p4⟩:=hL.box.five)
              refine bodyPost_ret (v:=(.agg #[.int .i64 (k),.string ⟨(tt).toArray⟩,.int .i64 (n),.int .i64 (p),.slice a1 ks.len c1])) (by simp [results,Tryz.results127,go_sem,q0,q1,q2,q3,q4]) rfl ?_
              exact PN.five hL.tn hL.tk (fun g hg=>hg.1) hlt.2
end Go.Proofs.YtkjbgggghigapaaGreat


namespace Go.Proofs.YtkjbgggghigapaaGreat
open Go.RowKit
structure Rs (b m:Nat) (T l:List Tok) (W:World) (w:World):Prop where
 tk:Tk b m T l W w
 res:Bx W.heap.size 54 #[.int .i64 0,.string ⟨#[]⟩,.int .i64 0,.int .i64 0,.slice none 0 0] w
 lt:b<W.heap.size∧m≤W.heap.size
section
variable {b m:Nat} {T l l':List Tok} {W:World} {w w':World}
theorem Rs.below (h:Rs b m T l W w) (hb:Below w.heap.size w w'):Rs b m T l W w':=⟨h.tk.below hb,h.res.below hb,h.lt⟩
theorem Rs.alloc (h:Rs b m T l W w) (o:Obj):Rs b m T l W (w.alloc o):=⟨h.tk.alloc o,h.res.alloc o,h.lt⟩
theorem Rs.took (h:Rs b m T l W w) (hT:Tk b m T l' w w'):Rs b m T l' W w':=by
 have hlt:=h.lt
 exact ⟨h.tk.trans hT,h.res.ky hT.ky (by omega),h.lt⟩
theorem PS.rs (h:PS b m T l W):Rs b m T l W (W.alloc (.cells #[.int .i64 0,.string ⟨#[]⟩,.int .i64 0,.int .i64 0,.slice none 0 0] 54)):=⟨h.tk.alloc _,Bx.new _ _ _,by have:=h.lt;omega⟩
end
theorem Row.snoc2 {b m:Nat} {T l l':List Tok} {W w1 w2:World} {P:Nat→Prop} {a a':Option Addr} {c c' cc:Nat} {f ks:F} {k:Int} {t:List UInt8} {n p:Int} {g:Nat} {o:Obj} {xs:List Value} (h:Row b m T l W P a c f) (ht:TN 54 w1 (fun g=>W.heap.size≤g) k t n p (.slice a' ks.len c') ks) (hk:Tk b m T l' W w1)
 (hkf:KF 54 (w1.alloc o) (fun g=>P g∧some g≠Value.ownBlock (.slice a f.len c)) xs f)
 (own:w2.ownsRow 0 54 5 (.slice (some ⟨g,0,none⟩) (f.len+1) cc) (f.len+1) (xs++[.int .i64 k,.string ⟨t.toArray⟩,.int .i64 n,.int .i64 p,.slice a' ks.len c']))
 (hg:(w1.alloc o).grownBy w2 (Value.ownBlock (.slice a f.len c))) (hat:Value.ownBlock (.slice a f.len c)=some g∨g=(w1.alloc o).heap.size) (hl:f.len+1+l'.length≤T.length):
 Row b m T l' w2 P (some ⟨g,0,none⟩) cc (f.app (one k t n p ks))∧Ky (fun k=>k=b∨some k=Value.ownBlock (.slice a f.len c)) W w2:=by
 have hps:=h.ps.lt
 have hsz:=hk.ky.size
 obtain ⟨ys,hy,hyP,_⟩:=h.kl.out
 have hl1:(f.app (one k t n p ks)).len=f.len+1:=by rw[F.len_app];rfl
 have hK:Ky (fun k=>k=b∨some k=Value.ownBlock (.slice a f.len c)) W w2:=((hk.ky.mono fun _ _ e=>.inl e).alloc o).trans ⟨hg.os,hg.tape,hg.output,hg.size,fun i hi hn=>hg.block i hi fun e=>hn (.inr e)⟩
 have hkt:KF 54 (w1.alloc o) (fun g=>P g∧some g≠Value.ownBlock (.slice a f.len c)) [.int .i64 k,.string ⟨t.toArray⟩,.int .i64 n,.int .i64 p,.slice a' ks.len c'] (one k t n p ks):=by
  refine (ht.kf.mono (Q:=fun g=>W.heap.size≤g∧g<w1.heap.size) fun g h1 h2=>⟨h1,h2⟩).keep (w':=w1.alloc o) (fun k hk _=>(World.grownBy_alloc w1 o none).block k hk.2 (by simp)) |>.mono fun g hg _=>⟨h.hi g hg.1,fun e=>?_⟩
  have:=(hy.lt g e.symm).2
  omega
 refine ⟨⟨?_,?_,h.lo,fun x hx=>h.hi x (Nat.le_trans hK.size hx),by rw[hl1];omega⟩,hK⟩
 ·exact (hk.ps.alloc o).ky (S:=fun k=>some k=Value.ownBlock (.slice a f.len c)) ⟨hg.os,hg.tape,hg.output,hg.size,fun i hi hn=>hg.block i hi hn⟩ fun x hx e=>h.lo x hx (hyP x e.symm)
 ·have:=KL.snoc (n:=one k t n p ks) hyP hkf hkt own (fun k hk hn=>hg.block k hk hn) (fun x hx=>h.hi x (by simp at hx;omega)) (hat.imp id (fun e=>by omega))
  rw[hl1];exact this
theorem app_row2 {ops:Array Oper} {rest:List Oper} {o:Oper} {ac:Act} {Q:Exit→Act→World→Prop} {b m:Nat} {T l l':List Tok} {W w1:World} {P:Nat→Prop} {a a':Option Addr} {c c':Nat} {f ks:F} {k:Int} {t:List UInt8} {n p:Int} (hgd:o.guard=none) (s x:Operand)
 (ho:o.op= .call {callee:=.builtin .append,args:=#[s,x],argTypes:=#[52,52]}) (h:Row b m T l W P a c f) (ht:TN 54 w1 (fun g=>W.heap.size≤g) k t n p (.slice a' ks.len c') ks) (hk:Tk b m T l' W w1) (hl:f.len+1+l'.length≤T.length)
 (hs:ac.eval s= .slice a f.len c) (hx:ac.eval x= .slice (some ⟨w1.heap.size,0,none⟩) 1 1)
 (hK:∀g cc w2,Row b m T l' w2 P (some ⟨g,0,none⟩) cc (f.app (one k t n p ks))→Ky (fun k=>k=b∨some k=Value.ownBlock (.slice a f.len c)) W w2→(Value.ownBlock (.slice a f.len c)=some g∨W.heap.size≤g)→wpList Tryz.prog ops Q rest (ac.put o.dst (.slice (some ⟨g,0,none⟩) (f.app (one k t n p ks)).len cc)) w2):
 wpList Tryz.prog ops Q (o::rest) ac (w1.alloc (.cells #[.int .i64 k,.string ⟨t.toArray⟩,.int .i64 n,.int .i64 p,.slice a' ks.len c'] 54)):=by
 obtain ⟨i0,hi0,hz0,hz1,hz2⟩:=info_parts info24
 have hps:=h.ps.lt
 have hsm:=h.ps.small
 have hfew:=h.few
 have hsz:=hk.ky.size
 have hkl:=h.kl.keep (w':=w1.alloc (.cells #[.int .i64 k,.string ⟨t.toArray⟩,.int .i64 n,.int .i64 p,.slice a' ks.len c'] 54)) fun g hg hl=>(hk.ky.alloc _).block g hl (fun e=>h.lo g (by omega) hg)
 obtain ⟨xs,hown,_,hkf⟩:=hkl.out
 have hl1:(f.app (one k t n p ks)).len=f.len+1:=by rw[F.len_app];rfl
 refine wpList_append_lies _ hgd s x 52 ho 0 54 i0 _ 5 64 Tryz.underlying52 hi0 hz0 hz1 hz2 rfl (by omega) (.slice a f.len c) f.len xs hs hown ⟨w1.heap.size,0,none⟩ 1 1 [.int .i64 k,.string ⟨t.toArray⟩,.int .i64 n,.int .i64 p,.slice a' ks.len c'] hx rfl (World.news_of_block (cs:=#[.int .i64 k,.string ⟨t.toArray⟩,.int .i64 n,.int .i64 p,.slice a' ks.len c']) (t:=54) (fr:=(0,0)) (Go.heap_alloc_new w1 _)) (by simp[Value.oneCell']) (by omega) (by unfold maxLen;omega) (by omega) (Nat.zero_le _) (w1.heap.size+1) (by simp) ?_
 intro g cc w2 hown2 hg hat _
 obtain ⟨r1,r2⟩:=h.snoc2 ht hk hkf hown2 hg (hat.imp id fun e=>by simpa using e) hl
 have:=hK g cc w2 r1 r2 (hat.imp id fun e=>by omega)
 rw[hl1] at this
 exact this
theorem step_row2 {ops:Array Oper} {o:Oper} {ac:Act} {K:Act→World→Prop} {Q:Exit→Act→World→Prop} {E:Prop} {b m:Nat} {T l l':List Tok} {W w1:World} {P:Nat→Prop} {a a':Option Addr} {c c':Nat} {f ks:F} {k:Int} {t:List UInt8} {n p:Int} (hgd:o.guard=none) (s x:Operand)
 (ho:o.op= .call {callee:=.builtin .append,args:=#[s,x],argTypes:=#[52,52]}) (h:Row b m T l W P a c f) (ht:TN 54 w1 (fun g=>W.heap.size≤g) k t n p (.slice a' ks.len c') ks) (hk:Tk b m T l' W w1) (hl:f.len+1+l'.length≤T.length)
 (hs:ac.eval s= .slice a f.len c) (hx:ac.eval x= .slice (some ⟨w1.heap.size,0,none⟩) 1 1)
 (hK:∀g cc w2,Row b m T l' w2 P (some ⟨g,0,none⟩) cc (f.app (one k t n p ks))→Ky (fun k=>k=b∨some k=Value.ownBlock (.slice a f.len c)) W w2→K (ac.put o.dst (.slice (some ⟨g,0,none⟩) (f.app (one k t n p ks)).len cc)) w2):
 if Region.wanted o (yielded ops ac.tmps)=true then Oper.wp Tryz.prog o ac (w1.alloc (.cells #[.int .i64 k,.string ⟨t.toArray⟩,.int .i64 n,.int .i64 p,.slice a' ks.len c'] 54)) K Q else E:=by
 obtain ⟨i0,hi0,hz0,hz1,hz2⟩:=info_parts info24
 have hps:=h.ps.lt
 have hsm:=h.ps.small
 have hfew:=h.few
 have hsz:=hk.ky.size
 have hkl:=h.kl.keep (w':=w1.alloc (.cells #[.int .i64 k,.string ⟨t.toArray⟩,.int .i64 n,.int .i64 p,.slice a' ks.len c'] 54)) fun g hg hl=>(hk.ky.alloc _).block g hl (fun e=>h.lo g (by omega) hg)
 obtain ⟨xs,hown,_,hkf⟩:=hkl.out
 have hl1:(f.app (one k t n p ks)).len=f.len+1:=by rw[F.len_app];rfl
 refine step_append_lies _ hgd s x 52 ho 0 54 i0 _ 5 64 Tryz.underlying52 hi0 hz0 hz1 hz2 rfl (by omega) (.slice a f.len c) f.len xs hs hown ⟨w1.heap.size,0,none⟩ 1 1 [.int .i64 k,.string ⟨t.toArray⟩,.int .i64 n,.int .i64 p,.slice a' ks.len c'] hx rfl (World.news_of_block (cs:=#[.int .i64 k,.string ⟨t.toArray⟩,.int .i64 n,.int .i64 p,.slice a' ks.len c']) (t:=54) (fr:=(0,0)) (Go.heap_alloc_new w1 _)) (by simp[Value.oneCell']) (by omega) (by unfold maxLen;omega) (by omega) (Nat.zero_le _) (w1.heap.size+1) (by simp) ?_
 intro g cc w2 hown2 hg hat _
 obtain ⟨r1,r2⟩:=h.snoc2 ht hk hkf hown2 hg (hat.imp id fun e=>by simpa using e) hl
 have:=hK g cc w2 r1 r2
 rw[hl1] at this
 exact this
theorem bodyP_bind (rec:J→List Tok→PR) (l:List Tok) (k:F→List Tok→PR):bodyP rec l k=(bodyP rec l .ok).bind k:=by
 unfold bodyP need
 split
 ·cases he:rec (.blk false) l.tail with
  | ok f m=>simp only[he,PR.bind];by_cases hm:hc m=4<;>simp[hm]
  | bad p=>simp only[he,PR.bind]
  | out=>simp only[he,PR.bind]
 ·rfl
set_option maxRecDepth 20000 in
set_option maxHeartbeats 8000000 in
theorem body_any (N:Nat) (H:CC N) (b m:Nat) (T l:List Tok) (W:World) (h:PS b m T l W) (hr:bodyP (pr N) l .ok≠ .out):Calls Tryz.prog 98 #[.pointer (some ⟨b,0,none⟩)] W (PN b m T W (bodyP (pr N) l .ok)):=by
 have hlt:=h.lt
 obtain ⟨t,l1,rfl⟩:=h.cons
 have D:=h.rs
 unfold bodyP need at hr⊢
 by_cases h7:cls t=7
 ·have wt7:rd t [100,111]=true:=cls_rd (c:=7) (by omega) (by decide) (by decide)
  rw[if_pos (show hc (t::l1)=7 from h7)] at hr⊢
  have CE:=fun W h=>H.blk false b m T l1 W h
  change ((pr N (.blk false) l1).bind _)≠_ at hr
  change Calls _ _ _ _ (PN b m T W ((pr N (.blk false) l1).bind _))
  cases he:pr N (.blk false) l1 with
  | out=>rw[he] at hr;exact absurd rfl hr
  | bad p=>
    rw[he] at CE
    go_enter Tryz.func98,Tryz.ntmps98
    go_wp2_with (first | (go_at_call 96;refine (expect_t b m T l1 t _ _ D.tk.ps (by assumption)).mono ?_;rintro e w1 ⟨rfl,hT1⟩;have D:=D.took hT1;have r1:=D.res.lt) | (go_at_call 42;refine (CE _ D.tk.ps (by simp)).mono ?_;rintro e w2 ⟨he,hk⟩;unfold refp at he;subst he))
    exact ⟨rfl,rfl,D.tk.ky.trans hk⟩
  | ok g l2=>
    obtain ⟨t3,l4,rfl⟩:=(pr_ends he (h.ends.tail (by omega))).cons
    rw[he] at CE
    simp only[PR.bind]
    by_cases h4:cls t3=4
    ·have wt34:rd t3 [101,110,100]=true:=cls_rd (c:=4) (by omega) (by decide) (by decide)
     rw[if_pos (show hc (t3::l4)=4 from h4)]
     go_enter Tryz.func98,Tryz.ntmps98
     go_wp2_with (first | (go_at_call 96;refine (expect_t b m T l1 t _ _ D.tk.ps (by assumption)).mono ?_;rintro e w1 ⟨rfl,hT1⟩;have D:=D.took hT1;have r1:=D.res.lt) | (go_at_call 42;refine (CE _ D.tk.ps (by simp)).mono ?_;rintro e w2 ⟨k,tt,n,p,a1,c1,ks,rfl,rfl,hTN,hTk⟩;have D:=(D.took hTk).alloc (.cells #[.int .i64 (k),.string ⟨(tt).toArray⟩,.int .i64 (n),.int .i64 (p),.slice a1 ks.len c1] 54);have KT:=(hTN.mono (Q:=fun g=>W.heap.size<g) (fun g hg _=>by omega)).alloc (.cells #[.int .i64 (k),.string ⟨(tt).toArray⟩,.int .i64 (n),.int .i64 (p),.slice a1 ks.len c1] 54);have B:=Bx.new w2 54 #[.int .i64 k,.string ⟨tt.toArray⟩,.int .i64 n,.int .i64 p,.slice a1 ks.len c1];have s2:w2.heap.size≠b:=(by have:=hTk.ps.lt;omega)) | (go_at_call 96;refine (expect_t b m T l4 t3 _ _ D.tk.ps (by assumption)).mono ?_;rintro e w3 ⟨rfl,hT3⟩;have D:=D.took hT3;have B:=B.ky hT3.ky s2;have KT:=KT.ky hT3.ky (by omega);obtain ⟨q0,q1,q2,q3,q4⟩:=D.res.five;obtain ⟨f0,f1,f2,f3,f4⟩:=D.res.frozen5;obtain ⟨p0,p1,p2,p3,p4⟩:=B.five))
     refine bodyPost_ret (v:=(.agg #[.int .i64 (k),.string ⟨(tt).toArray⟩,.int .i64 (n),.int .i64 (p),.slice a1 ks.len c1])) (by simp[results,Tryz.results98,go_sem,q0,q1,q2,q3,q4]) rfl ?_
     exact PN.five KT D.tk (fun _ e=>e) hlt.2
    ·have wt34:rd t3 [101,110,100]=false:=cls_nrd (c:=4) (by omega) (by decide) (by decide)
     rw[if_neg (show ¬hc (t3::l4)=4 from h4)]
     go_enter Tryz.func98,Tryz.ntmps98
     go_wp2_with (first | (go_at_call 96;refine (expect_t b m T l1 t _ _ D.tk.ps (by assumption)).mono ?_;rintro e w1 ⟨rfl,hT1⟩;have D:=D.took hT1;have r1:=D.res.lt) | (go_at_call 42;refine (CE _ D.tk.ps (by simp)).mono ?_;rintro e w2 ⟨k,tt,n,p,a1,c1,ks,rfl,rfl,hTN,hTk⟩;have D:=(D.took hTk).alloc (.cells #[.int .i64 (k),.string ⟨(tt).toArray⟩,.int .i64 (n),.int .i64 (p),.slice a1 ks.len c1] 54);have KT:=(hTN.mono (Q:=fun g=>W.heap.size<g) (fun g hg _=>by omega)).alloc (.cells #[.int .i64 (k),.string ⟨(tt).toArray⟩,.int .i64 (n),.int .i64 (p),.slice a1 ks.len c1] 54);have B:=Bx.new w2 54 #[.int .i64 k,.string ⟨tt.toArray⟩,.int .i64 n,.int .i64 p,.slice a1 ks.len c1];have s2:w2.heap.size≠b:=(by have:=hTk.ps.lt;omega)) | (go_at_call 96;refine (expect_f b m T l4 t3 _ _ D.tk.ps (by assumption)).mono ?_;rintro e w3 ⟨he,hb3⟩;unfold refp at he;subst he))
     exact ⟨rfl,rfl,D.tk.ky.trans (.of_below hb3)⟩
 ·have wt7:rd t [100,111]=false:=cls_nrd (c:=7) (by omega) (by decide) (by decide)
  rw[if_neg (show ¬hc (t::l1)=7 from h7)]
  go_enter Tryz.func98,Tryz.ntmps98
  go_wp2_with (go_at_call 96;refine (expect_f b m T l1 t _ _ D.tk.ps (by assumption)).mono ?_;rintro e w1 ⟨he,hb1⟩;unfold refp at he;subst he)
  exact ⟨rfl,rfl,D.tk.ky.trans (.of_below hb1)⟩
set_option maxRecDepth 20000 in
set_option maxHeartbeats 8000000 in
theorem branch_any (N:Nat) (H:CC N) (b m:Nat) (T l:List Tok) (W:World) (P:Nat→Prop) (a:Option Addr) (c:Nat) (f:F) (h:Row b m T l W P a c f) (hr:brP (pr N) f l≠ .out):Calls Tryz.prog 125 #[.pointer (some ⟨b,0,none⟩),.slice a f.len c] W (PL b m T W P (.slice a f.len c) (brP (pr N) f l)):=by
 unfold brP at hr⊢
 have CE:=fun W h=>H.ex 0 b m T l W h
 cases he:pr N (.ex 0) l with
 | out=>rw[he] at hr;exact absurd rfl hr
 | bad p=>
   rw[he] at CE
   simp only[PR.bind]
   go_enter Tryz.func125,Tryz.ntmps125
   go_wp2_with (go_at_call 124;refine (CE _ h.ps (by simp)).mono ?_;rintro e w1 ⟨he,hk⟩;unfold refp at he;subst he)
   exact ⟨rfl,rfl,hk.mono fun _ _ e=>.inl e⟩
 | ok g l1=>
   have hlen:=pr_len he
   obtain ⟨t3,l4,rfl⟩:=(pr_ends he h.ps.ends).cons
   rw[he] at CE hr
   simp only[PR.bind,need] at hr⊢
   by_cases h13:cls t3=13
   ·have wt313:rd t3 [116,104,101,110]=true:=cls_rd (c:=13) (by omega) (by decide) (by decide)
    rw[if_pos (show hc (t3::l4)=13 from h13)] at hr⊢
    have CB:=fun W h=>H.blk false b m T l4 W h
    change ((pr N (.blk false) l4).bind _)≠_ at hr
    change Calls _ _ _ _ (PL b m T W P (.slice a f.len c) ((pr N (.blk false) l4).bind _))
    cases he2:pr N (.blk false) l4 with
    | out=>rw[he2] at hr;exact absurd rfl hr
    | bad p=>
      rw[he2] at CB
      go_enter Tryz.func125,Tryz.ntmps125
      go_wp2_with (first | (go_at_call 124;refine (CE _ h.ps (by simp)).mono ?_;rintro e w1 ⟨k,tt,n,p,a1,c1,ks,rfl,rfl,hTN,hTk⟩) | (at_builtin;refine app_row rfl _ _ rfl h hTN hTk (by simp only[st] at hlen;omega) rfl rfl ?_;intro gg cc w2 hrow hky hat;have hOB:=(OB.refl W a f.len c).app (Nat.le_refl _) hat) | (go_at_call 96;refine (expect_t b m T l4 t3 _ _ hrow.ps (by assumption)).mono ?_;rintro e w3 ⟨rfl,hT3⟩;have hfew:=hrow.few;have hrow:=hrow.took hT3;have hky:=hky.onto hT3.ky (fun _ _ e=>.inl e)) | (go_at_call 42;refine (CB _ hrow.ps (by simp)).mono ?_;rintro e w4 ⟨he,hk4⟩;unfold refp at he;subst he))
      exact ⟨rfl,rfl,hky.onto hk4 fun _ _ e=>.inl e⟩
    | ok g2 l5=>
      have hlen2:=pr_len he2
      rw[he2] at CB
      simp only[PR.bind]
      go_enter Tryz.func125,Tryz.ntmps125
      go_wp2_with (first | (go_at_call 124;refine (CE _ h.ps (by simp)).mono ?_;rintro e w1 ⟨k,tt,n,p,a1,c1,ks,rfl,rfl,hTN,hTk⟩) | (at_builtin;refine app_row rfl _ _ rfl h hTN hTk (by simp only[st] at hlen;omega) rfl rfl ?_;intro gg cc w2 hrow hky hat;have hOB:=(OB.refl W a f.len c).app (Nat.le_refl _) hat) | (go_at_call 96;refine (expect_t b m T l4 t3 _ _ hrow.ps (by assumption)).mono ?_;rintro e w3 ⟨rfl,hT3⟩;have hfew:=hrow.few;have hrow:=hrow.took hT3;have hky:=hky.onto hT3.ky (fun _ _ e=>.inl e)) | (go_at_call 42;refine (CB _ hrow.ps (by simp)).mono ?_;rintro e w4 ⟨k',tt',n',p',a1',c1',ks',rfl,rfl,hTN',hTk'⟩) | (at_builtin;refine app_row2 rfl _ _ rfl hrow hTN' hTk' (by simp only[st,List.length_cons] at hlen2 hfew;omega) rfl rfl ?_;intro gg cc w5 hrow2 hky2 hat2))
      go_ret
      exact ⟨_,_,rfl,hrow2.kl,hrow2.ps,hOB.ky hky hky2⟩
   ·have wt313:rd t3 [116,104,101,110]=false:=cls_nrd (c:=13) (by omega) (by decide) (by decide)
    rw[if_neg (show ¬hc (t3::l4)=13 from h13)]
    go_enter Tryz.func125,Tryz.ntmps125
    go_wp2_with (first | (go_at_call 124;refine (CE _ h.ps (by simp)).mono ?_;rintro e w1 ⟨k,tt,n,p,a1,c1,ks,rfl,rfl,hTN,hTk⟩) | (at_builtin;refine app_row rfl _ _ rfl h hTN hTk (by simp only[st] at hlen;omega) rfl rfl ?_;intro gg cc w2 hrow hky hat;have hOB:=(OB.refl W a f.len c).app (Nat.le_refl _) hat) | (go_at_call 96;refine (expect_f b m T l4 t3 _ _ hrow.ps (by assumption)).mono ?_;rintro e w3 ⟨he,hb3⟩;unfold refp at he;subst he))
    exact ⟨rfl,rfl,hky.trans (.of_below hb3)⟩
end Go.Proofs.YtkjbgggghigapaaGreat


namespace Go.Proofs.YtkjbgggghigapaaGreat
def Sz (j:J) (l:List Tok) (f:F) (l':List Tok):Prop:=
 match j with
 | .lst a=>f.len+l'.length≤a.len+l.length
 | .nms a=>f.len+l'.length≤a.len+l.length
 | .ifs a=>f.len+l'.length≤a.len+l.length
 | .asg a=>f.len+l'.length≤a.len+l.length
 | .bk _ a=>f.len+l'.length≤a.len+l.length
 | .tab a=>f.len+l'.length≤a.len+l.length
 | .exl _ g=>g.len=1→f.len=1
 | .sufl g=>g.len=1→f.len=1
 | _=>f.len=1
theorem bind_ok {x:PR} {k:F→List Tok→PR} {f:F} {l:List Tok} (h:x.bind k= .ok f l):∃g m,x= .ok g m∧k g m= .ok f l:=by
 cases x with
 | ok g m=>exact ⟨g,m,rfl,h⟩
 | bad p=>cases h
 | out=>cases h
theorem need_ok {c:Nat} {l:List Tok} {k:List Tok→PR} {f:F} {m:List Tok} (h:need c l k= .ok f m):hc l=c∧k l.tail= .ok f m:=by
 unfold need at h
 split at h
 ·next e=>exact ⟨e,h⟩
 ·cases h
theorem nam_ok {q:Int} {l:List Tok} {k:F→List Tok→PR} {f:F} {m:List Tok} (h:nam q l k= .ok f m):hc l=51∧k (one q (ht l) 0 (ha l) .nil) l.tail= .ok f m:=by
 unfold nam at h
 split at h
 ·next e=>exact ⟨e,h⟩
 ·cases h
theorem ok_inj {f g:F} {l m:List Tok} (h:PR.ok f l= .ok g m):f=g∧l=m:=by cases h;exact ⟨rfl,rfl⟩
theorem one_len (k:Int) (t:List UInt8) (n p:Int) (ks:F):(one k t n p ks).len=1:=rfl
section
variable {rec:J→List Tok→PR} (ih:∀j l f l',rec j l= .ok f l'→Sz j l f l') (il:∀j l f l',rec j l= .ok f l'→l'.length+st j≤l.length)
include ih il
theorem sz_body {l m:List Tok} {k:F→List Tok→PR} {f:F} (h:bodyP rec l k= .ok f m):∃b l1,b.len=1∧l1.length+2≤l.length∧k b l1= .ok f m:=by
 obtain ⟨h1,h⟩:=need_ok h
 obtain ⟨b,l1,h2,h⟩:=bind_ok h
 obtain ⟨h3,h⟩:=need_ok h
 have e1:=tail_len (l:=l) (by rw[h1];decide)
 have e2:=tail_len (l:=l1) (by rw[h3];decide)
 have e3:=il _ _ _ _ h2
 exact ⟨b,l1.tail,ih _ _ _ _ h2,by omega,h⟩
theorem sz_br {a f:F} {l m:List Tok} (h:brP rec a l= .ok f m):f.len=a.len+2∧m.length+2≤l.length:=by
 obtain ⟨e,l1,h1,h⟩:=bind_ok h
 obtain ⟨h2,h⟩:=need_ok h
 obtain ⟨b,l2,h3,h⟩:=bind_ok h
 obtain ⟨rfl,rfl⟩:=ok_inj h
 have e1:e.len=1:=ih _ _ _ _ h1
 have e2:b.len=1:=ih _ _ _ _ h3
 have e3:=il _ _ _ _ h1
 have e4:=il _ _ _ _ h3
 have e5:=tail_len (l:=l1) (by rw[h2];decide)
 simp only[st] at e3 e4
 exact ⟨by rw[F.len_app,F.len_app,e1,e2],by omega⟩
theorem sz_step (j:J) (l:List Tok) (f:F) (l':List Tok) (h:stp' rec j l= .ok f l'):Sz j l f l':=by
 cases j with
 | blk c=>
   obtain ⟨g,m,_,h⟩:=bind_ok h
   obtain ⟨rfl,_⟩:=ok_inj h
   rfl
 | bk c a=>
   simp only[Sz]
   simp only[stp'] at h
   split at h
   ·have:=ih _ _ _ _ h
    simp only[Sz] at this
    simp at this;omega
   ·next hn=>
    split at h
    ·next h2=>
     obtain ⟨g,m,h1,h⟩:=bind_ok h
     obtain ⟨rfl,rfl⟩:=ok_inj h
     have e1:=tail_len (l:=l) (by rw[h2];decide)
     unfold lastP at h1
     rw[F.len_app]
     split at h1
     ·obtain ⟨rfl,rfl⟩:=ok_inj h1;simp[one_len];omega
     ·split at h1
      ·obtain ⟨rfl,rfl⟩:=ok_inj h1;rw[one_len];omega
      ·obtain ⟨g2,m2,h3,h1⟩:=bind_ok h1
       obtain ⟨rfl,rfl⟩:=ok_inj h1
       have:=il _ _ _ _ h3
       rw[one_len]
       simp only[st] at this
       split<;>simp<;>omega
    ·split at h
     ·next h2=>
      obtain ⟨g,m,h1,h⟩:=bind_ok h
      have:=ih _ _ _ _ h
      simp only[Sz] at this
      rw[F.len_app] at this
      have e1:=tail_len (l:=l) (by rw[h2.2];decide)
      unfold funP at h1
      obtain ⟨k1,h1⟩:=nam_ok h1
      obtain ⟨k2,h1⟩:=need_ok h1
      obtain ⟨ps,l1,k3,h1⟩:=bind_ok h1
      obtain ⟨k4,h1⟩:=need_ok h1
      obtain ⟨b,l2,k5,h1⟩:=bind_ok h1
      obtain ⟨k6,h1⟩:=need_ok h1
      obtain ⟨rfl,rfl⟩:=ok_inj h1
      have e2:=tail_len (l:=l.tail) (by rw[k1];decide)
      have e3:=tail_len (l:=l.tail.tail) (by rw[k2];decide)
      have e4:=tail_len (l:=l1) (by rw[k4];decide)
      have e5:=il _ _ _ _ k5
      have e6:=tail_len (l:=l2) (by rw[k6];decide)
      have e7:l1.length≤l.tail.tail.tail.length:=by
       unfold parP at k3
       split at k3
       ·obtain ⟨rfl,rfl⟩:=ok_inj k3;exact Nat.le_refl _
       ·obtain ⟨k7,k3⟩:=nam_ok k3
        have:=il _ _ _ _ k3
        simp at this⊢;omega
      rw[one_len] at this
      omega
     ·split at h
      ·obtain ⟨rfl,rfl⟩:=ok_inj h;exact Nat.le_refl _
      ·obtain ⟨g,m,h1,h⟩:=bind_ok h
       have:=ih _ _ _ _ h
       simp only[Sz] at this
       have e1:g.len=1:=ih _ _ _ _ h1
       have e2:=il _ _ _ _ h1
       rw[F.len_app] at this
       simp only[st] at e2
       omega
 | lst a=>
   simp only[Sz]
   obtain ⟨g,m,h1,h⟩:=bind_ok h
   have e1:g.len=1:=ih _ _ _ _ h1
   have e2:=il _ _ _ _ h1
   simp only[st] at e2
   split at h
   ·have:=ih _ _ _ _ h
    simp only[Sz] at this
    rw[F.len_app] at this
    simp at this;omega
   ·obtain ⟨rfl,rfl⟩:=ok_inj h
    rw[F.len_app];omega
 | nms a=>
   simp only[Sz]
   simp only[stp'] at h
   split at h
   ·next h2=>
    obtain ⟨k1,h⟩:=nam_ok h
    have:=ih _ _ _ _ h
    simp only[Sz] at this
    rw[F.len_app,one_len] at this
    have e1:=tail_len (l:=l) (by rw[h2];decide)
    have e2:=tail_len (l:=l.tail) (by rw[k1];decide)
    omega
   ·obtain ⟨rfl,rfl⟩:=ok_inj h;exact Nat.le_refl _
 | ifs a=>
   simp only[Sz]
   obtain ⟨g,m,h1,h⟩:=bind_ok h
   obtain ⟨e1,e2⟩:=sz_br ih il h1
   split at h
   ·have:=ih _ _ _ _ h
    simp only[Sz] at this
    simp at this;omega
   ·split at h
    ·next h2=>
     obtain ⟨b,m2,h3,h⟩:=bind_ok h
     obtain ⟨k1,h⟩:=need_ok h
     obtain ⟨rfl,rfl⟩:=ok_inj h
     have e3:b.len=1:=ih _ _ _ _ h3
     have e4:=il _ _ _ _ h3
     have e5:=tail_len (l:=m) (by rw[h2];decide)
     rw[F.len_app]
     simp;omega
    ·obtain ⟨k1,h⟩:=need_ok h
     obtain ⟨rfl,rfl⟩:=ok_inj h
     simp;omega
 | asg a=>
   simp only[Sz]
   simp only[stp',tgt] at h
   split at h
   ·next h2=>
    obtain ⟨g,m,h1,h⟩:=bind_ok h
    split at h
    ·have:=ih _ _ _ _ h
     simp only[Sz] at this
     have e1:g.len=1:=ih _ _ _ _ h1
     have e2:=il _ _ _ _ h1
     rw[F.len_app] at this
     have e3:=tail_len (l:=l) (by rw[h2];decide)
     simp only[st] at e2;omega
    ·cases h
   ·obtain ⟨rfl,rfl⟩:=ok_inj h;exact Nat.le_refl _
 | ex a=>
   obtain ⟨g,m,h1,h⟩:=bind_ok h
   exact ih _ _ _ _ h (ih _ _ _ _ h1)
 | exl a g=>
   intro hg
   simp only[stp'] at h
   split at h
   ·obtain ⟨g2,m,h1,h⟩:=bind_ok h
    exact ih _ _ _ _ h rfl
   ·obtain ⟨rfl,_⟩:=ok_inj h;exact hg
 | opd=>
   simp only[stp',tabP] at h
   split at h
   ·have :Sz .suf l f l':=ih _ _ _ _ h
    exact this
   ·split at h
    ·obtain ⟨g,m,_,h⟩:=bind_ok h
     obtain ⟨_,h⟩:=need_ok h
     obtain ⟨rfl,_⟩:=ok_inj h;rfl
    ·split at h
     ·obtain ⟨g,m,_,h⟩:=bind_ok h
      obtain ⟨rfl,_⟩:=ok_inj h;rfl
     ·split at h
      ·obtain ⟨rfl,_⟩:=ok_inj h;rfl
      ·split at h
       ·obtain ⟨rfl,_⟩:=ok_inj h;rfl
       ·split at h
        ·obtain ⟨rfl,_⟩:=ok_inj h;rfl
        ·split at h
         ·obtain ⟨rfl,_⟩:=ok_inj h;rfl
         ·split at h
          ·obtain ⟨rfl,_⟩:=ok_inj h;rfl
          ·cases h
 | suf=>
   obtain ⟨g,m,h1,h⟩:=bind_ok h
   refine ih _ _ _ _ h ?_
   unfold stemP at h1
   split at h1
   ·obtain ⟨g2,m2,_,h1⟩:=bind_ok h1
    obtain ⟨_,h1⟩:=need_ok h1
    obtain ⟨rfl,_⟩:=ok_inj h1;rfl
   ·obtain ⟨_,h1⟩:=nam_ok h1
    obtain ⟨rfl,_⟩:=ok_inj h1;rfl
 | sufl g=>
   intro hg
   simp only[stp'] at h
   split at h
   ·obtain ⟨g2,m,_,h⟩:=bind_ok h
    obtain ⟨_,h⟩:=need_ok h
    exact ih _ _ _ _ h rfl
   ·split at h
    ·obtain ⟨_,h⟩:=nam_ok h
     exact ih _ _ _ _ h rfl
    ·split at h
     ·obtain ⟨g2,m,_,h⟩:=bind_ok h
      exact ih _ _ _ _ h rfl
     ·obtain ⟨rfl,_⟩:=ok_inj h;exact hg
 | tab a=>
   simp only[Sz]
   simp only[stp'] at h
   split at h
   ·obtain ⟨rfl,rfl⟩:=ok_inj h;exact Nat.le_refl _
   ·obtain ⟨g,m,h1,h⟩:=bind_ok h
    have e1:g.len=1:=ih _ _ _ _ h1
    have e2:=il _ _ _ _ h1
    simp only[st] at e2
    split at h
    ·have:=ih _ _ _ _ h
     simp only[Sz] at this
     rw[F.len_app] at this
     simp at this;omega
    ·obtain ⟨rfl,rfl⟩:=ok_inj h
     rw[F.len_app];omega
 | fld=>
   simp only[stp'] at h
   split at h
   ·obtain ⟨g2,m,_,h⟩:=bind_ok h
    obtain ⟨_,h⟩:=need_ok h
    obtain ⟨_,h⟩:=need_ok h
    obtain ⟨g3,m3,_,h⟩:=bind_ok h
    obtain ⟨rfl,_⟩:=ok_inj h;rfl
   ·split at h
    ·obtain ⟨g3,m3,_,h⟩:=bind_ok h
     obtain ⟨rfl,_⟩:=ok_inj h;rfl
    ·obtain ⟨g3,m3,_,h⟩:=bind_ok h
     obtain ⟨rfl,_⟩:=ok_inj h;rfl
 | stat=>
   simp only[stp'] at h
   split at h
   ·obtain ⟨b,l1,_,_,h⟩:=sz_body ih il h
    obtain ⟨rfl,_⟩:=ok_inj h;rfl
   ·split at h
    ·obtain ⟨g,m,_,h⟩:=bind_ok h
     obtain ⟨b,l1,_,_,h⟩:=sz_body ih il h
     obtain ⟨rfl,_⟩:=ok_inj h;rfl
    ·split at h
     ·obtain ⟨g,m,_,h⟩:=bind_ok h
      obtain ⟨rfl,_⟩:=ok_inj h;rfl
     ·split at h
      ·obtain ⟨_,h⟩:=nam_ok h
       split at h
       ·obtain ⟨e1,m1,_,h⟩:=bind_ok h
        obtain ⟨_,h⟩:=need_ok h
        obtain ⟨e2,m2,_,h⟩:=bind_ok h
        split at h
        ·obtain ⟨e3,m3,_,h⟩:=bind_ok h
         obtain ⟨b,l1,_,_,h⟩:=sz_body ih il h
         obtain ⟨rfl,_⟩:=ok_inj h;rfl
        ·obtain ⟨b,l1,_,_,h⟩:=sz_body ih il h
         obtain ⟨rfl,_⟩:=ok_inj h;rfl
       ·obtain ⟨e1,m1,_,h⟩:=bind_ok h
        obtain ⟨_,h⟩:=need_ok h
        obtain ⟨e2,m2,_,h⟩:=bind_ok h
        obtain ⟨b,l1,_,_,h⟩:=sz_body ih il h
        obtain ⟨rfl,_⟩:=ok_inj h;rfl
      ·split at h
       ·obtain ⟨_,h⟩:=nam_ok h
        obtain ⟨e1,m1,_,h⟩:=bind_ok h
        split at h
        ·obtain ⟨e2,m2,_,h⟩:=bind_ok h
         obtain ⟨rfl,_⟩:=ok_inj h;rfl
        ·obtain ⟨rfl,_⟩:=ok_inj h;rfl
       ·split at h
        ·obtain ⟨rfl,_⟩:=ok_inj h;rfl
        ·obtain ⟨e1,m1,_,h⟩:=bind_ok h
         split at h
         ·unfold tgt at h
          split at h
          ·obtain ⟨e2,m2,_,h⟩:=bind_ok h
           obtain ⟨_,h⟩:=need_ok h
           obtain ⟨e3,m3,_,h⟩:=bind_ok h
           obtain ⟨rfl,_⟩:=ok_inj h;rfl
          ·cases h
         ·split at h
          ·obtain ⟨rfl,_⟩:=ok_inj h;rfl
          ·cases h
end
theorem sz_all:∀(n:Nat) (j:J) (l:List Tok) (f:F) (l':List Tok),pr n j l= .ok f l'→Sz j l f l'
 | 0,_,_,_,_,h=>by cases h
 | n+1,j,l,f,l',h=>sz_step (sz_all n) (fun _ _ _ _=>pr_len) j l f l' h
end Go.Proofs.YtkjbgggghigapaaGreat
