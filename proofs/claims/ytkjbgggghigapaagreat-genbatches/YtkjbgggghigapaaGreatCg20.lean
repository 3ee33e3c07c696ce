import Derived.Test.YtkjbgggghigapaaGreatCg03
import Derived.Deep.CutRange
import Derived.RegionDies
namespace Go.Proofs.YtkjbgggghigapaaGreat
open Go.RowKit
structure Od (b m:Nat) (T l:List Tok) (W:World) (X:Nat) (t:Tok) (w:World):Prop where
 tk:Tk b m T l W w
 res:Bx W.heap.size 54 #[.int .i64 0,.string ⟨#[]⟩,.int .i64 0,.int .i64 0,.slice none 0 0] w
 box:Bx X 114 #[.int .i64 t.k,.string ⟨t.t.toArray⟩,.int .i64 t.v,.int .i64 t.p] w
 lt:b<W.heap.size∧m≤W.heap.size∧W.heap.size<X
section
variable {b m:Nat} {T l l':List Tok} {W:World} {X:Nat} {t:Tok} {w w':World}
theorem Od.below (h:Od b m T l W X t w) (hb:Below w.heap.size w w'):Od b m T l W X t w':=⟨h.tk.below hb,h.res.below hb,h.box.below hb,h.lt⟩
theorem Od.alloc (h:Od b m T l W X t w) (o:Obj):Od b m T l W X t (w.alloc o):=⟨h.tk.alloc o,h.res.alloc o,h.box.alloc o,h.lt⟩
theorem Od.drew (h:Od b m T l W X t w):Od b m T l W X t w.drew:=⟨h.tk.drew,h.res.drew,h.box.drew,h.lt⟩
theorem Od.took (h:Od b m T l W X t w) (hT:Tk b m T l' w w'):Od b m T l' W X t w':=by
 have hlt:=h.lt
 exact ⟨h.tk.trans hT,h.res.ky hT.ky (by omega),h.box.ky hT.ky (by omega),h.lt⟩
theorem PS.od {b m:Nat} {T l:List Tok} {W w1:World} {t:Tok} {cur:Array Value} (h:PS b m T (t::l) W) (e:cur=#[.int .i64 0,.string ⟨#[]⟩,.int .i64 0,.int .i64 0,.slice none 0 0]) (hb:Below (W.alloc (.cells cur 54)).heap.size (W.alloc (.cells cur 54)) w1):Od b m T (t::l) W w1.heap.size t (w1.alloc (.cells #[.int .i64 t.k,.string ⟨t.t.toArray⟩,.int .i64 t.v,.int .i64 t.p] 114)):=by
 subst e
 have hlt:=h.lt
 have hs:=hb.size
 simp at hs
 exact ⟨((h.tk.alloc _).below hb).alloc _,((Bx.new W 54 _).below hb).alloc _,Bx.new _ _ _,by omega⟩
end
end Go.Proofs.YtkjbgggghigapaaGreat


namespace Go.Proofs.YtkjbgggghigapaaGreat
open Go.RowKit
structure Nd (b m:Nat) (T l:List Tok) (W:World) (X:Nat) (k:Int) (t:List UInt8) (n p:Int) (a:Option Addr) (c:Nat) (f:F) (w:World):Prop where
 tk:Tk b m T l W w
 res:Bx W.heap.size 54 #[.int .i64 0,.string ⟨#[]⟩,.int .i64 0,.int .i64 0,.slice none 0 0] w
 box:Bx X 54 #[.int .i64 k,.string ⟨t.toArray⟩,.int .i64 n,.int .i64 p,.slice a f.len c] w
 kl:KL 54 (fun g=>X<g) w (.slice a f.len c) f
 few:f.len+l.length≤T.length
 lt:b<W.heap.size∧m≤W.heap.size∧W.heap.size<X
section
variable {b m:Nat} {T l l':List Tok} {W:World} {X:Nat} {k:Int} {t:List UInt8} {n p:Int} {a:Option Addr} {c:Nat} {f:F} {w w':World}
theorem Nd.row (h:Nd b m T l W X k t n p a c f w):Row b m T l w (fun g=>X<g) a c f:=by
 have hlt:=h.lt
 have hX:=h.box.lt
 exact ⟨h.tk.ps,h.kl,fun x hx=>by omega,fun x hx=>by omega,h.few⟩
theorem Nd.below (h:Nd b m T l W X k t n p a c f w) (hb:Below w.heap.size w w'):Nd b m T l W X k t n p a c f w':=⟨h.tk.below hb,h.res.below hb,h.box.below hb,h.kl.below hb,h.few,h.lt⟩
theorem Nd.alloc (h:Nd b m T l W X k t n p a c f w) (o:Obj):Nd b m T l W X k t n p a c f (w.alloc o):=⟨h.tk.alloc o,h.res.alloc o,h.box.alloc o,h.kl.alloc o,h.few,h.lt⟩
theorem Nd.drew (h:Nd b m T l W X k t n p a c f w):Nd b m T l W X k t n p a c f w.drew:=⟨h.tk.drew,h.res.drew,h.box.drew,h.kl.keep fun _ _ _=>rfl,h.few,h.lt⟩
theorem Nd.took (h:Nd b m T l W X k t n p a c f w) (hT:Tk b m T l' w w') (hl:l'.length≤l.length):Nd b m T l' W X k t n p a c f w':=by
 have hlt:=h.lt
 have:=h.few
 exact ⟨h.tk.trans hT,h.res.ky hT.ky (by omega),h.box.ky hT.ky (by omega),h.kl.ky hT.ky (by omega),by omega,h.lt⟩
theorem Nd.grown {a':Option Addr} {c':Nat} {f':F} (h:Nd b m T l W X k t n p a c f w) (hr:Row b m T l' w' (fun g=>X<g) a' c' f') (hk:Ky (fun k=>k=b∨some k=Value.ownBlock (.slice a f.len c)) w w'):Nd b m T l' W X k t n p a' c' f' (w'.setCell ⟨X,4,none⟩ (.slice a' f'.len c'))∧Bx X 54 #[.int .i64 k,.string ⟨t.toArray⟩,.int .i64 n,.int .i64 p,.slice a f.len c] w':=by
 have hlt:=h.lt
 obtain ⟨xs,hown,hoP,_⟩:=h.kl.out
 have hne:∀x,x≤X→¬some x=Value.ownBlock (.slice a f.len c):=fun x hx e=>by have:=hoP x e.symm;omega
 have hS:∀x,x≤X→x≠b→¬(x=b∨some x=Value.ownBlock (.slice a f.len c)):=fun x hx hb e=>e.elim hb (hne x hx)
 have hB:=h.box.ky hk (hS X (Nat.le_refl _) (by omega))
 refine ⟨⟨⟨hr.ps.set (by omega) _,?_⟩,(h.res.ky hk (hS _ (by omega) (by omega))).set (by omega) _,hB.put4 _,hr.kl.set (Nat.lt_irrefl _) _,hr.few,h.lt⟩,hB⟩
 refine Ky.new (h.tk.ky.onto hk fun i hi e=>?_) (by omega) _
 rcases e with e | e
 ·exact e
 ·exact absurd e (hne i (by omega))
theorem Nd.ret (h:Nd b m T l W X k t n p a c f w) (u0 u1 u2 u3 u4:Value):PN b m T W (.ok (one k t n p f) l) (.returned (.agg #[.int .i64 (k),.string ⟨(t).toArray⟩,.int .i64 (n),.int .i64 (p),.slice a f.len c])) (((((w.setCell ⟨W.heap.size,0,none⟩ u0).setCell ⟨W.heap.size,1,none⟩ u1).setCell ⟨W.heap.size,2,none⟩ u2).setCell ⟨W.heap.size,3,none⟩ u3).setCell ⟨W.heap.size,4,none⟩ u4):=by
 have hlt:=h.lt
 exact PN.five (h.kl.node k t n p) h.tk (fun g hg=>by omega) hlt.2.1
theorem Nd.begin {w1:World} (h:Tk b m T l W w1) (hr:Bx W.heap.size 54 #[.int .i64 0,.string ⟨#[]⟩,.int .i64 0,.int .i64 0,.slice none 0 0] w1) (hlt:b<W.heap.size∧m≤W.heap.size) (k:Int) (t:List UInt8) (n p:Int):Nd b m T l W w1.heap.size k t n p none 0 .nil (w1.alloc (.cells #[.int .i64 (k),.string ⟨(t).toArray⟩,.int .i64 (n),.int .i64 (p),.slice none 0 0] 54)):=
 ⟨h.alloc _,hr.alloc _,Bx.new _ _ _,KL.nil _ _ _,by obtain ⟨i,_,_,h7⟩:=h.ps.plc;simp[F.len];omega,⟨hlt.1,hlt.2,hr.lt⟩⟩
end
theorem step_row {ops:Array Oper} {o:Oper} {ac:Act} {K:Act→World→Prop} {Q:Exit→Act→World→Prop} {E:Prop} {b m:Nat} {T l l':List Tok} {W w1:World} {P:Nat→Prop} {a a':Option Addr} {c c':Nat} {f ks:F} {k:Int} {t:List UInt8} {n p:Int} (hgd:o.guard=none) (s x:Operand)
 (ho:o.op= .call {callee:=.builtin .append,args:=#[s,x],argTypes:=#[52,52]}) (h:Row b m T l W P a c f) (ht:TN 54 w1 (fun g=>W.heap.size≤g) k t n p (.slice a' ks.len c') ks) (hk:Tk b m T l' W w1) (hl:l'.length<l.length)
 (hs:ac.eval s= .slice a f.len c) (hx:ac.eval x= .slice (some ⟨w1.heap.size,0,none⟩) 1 1)
 (hK:∀g cc w2,Row b m T l' w2 P (some ⟨g,0,none⟩) cc (f.app (one k t n p ks))→Ky (fun k=>k=b∨some k=Value.ownBlock (.slice a f.len c)) W w2→K (ac.put o.dst (.slice (some ⟨g,0,none⟩) (f.app (one k t n p ks)).len cc)) w2):
 if Region.wanted o (yielded ops ac.tmps)=true then Oper.wp Tryz.prog o ac (w1.alloc (.cells #[.int .i64 k,.string ⟨t.toArray⟩,.int .i64 n,.int .i64 p,.slice a' ks.len c'] 54)) K Q else E:=by
 obtain ⟨i0,hi0,hz0,hz1,hz2⟩:=info_parts info24
 have hps:=h.ps.lt
 have hsm:=h.ps.small
 have hfew:=h.few
 have hsz:=hk.ky.size
 have hkl:=h.kl.keep (w':=w1.alloc (.cells #[.int .i64 k,.string ⟨t.toArray⟩,.int .i64 n,.int .i64 p,.slice a' ks.len c'] 54)) fun g hg hl=>(hk.ky.alloc _).block g hl (fun e=>h.lo g (by omega) hg)
 obtain ⟨xs,hown,_,hkf⟩:=hkl.out
 have hl1:(f.app (one k t n p ks)).len=f.len+1:=by rw[F.len_app];rfl
 refine step_append_lies _ hgd s x 52 ho 0 54 i0 _ 5 64 Tryz.underlying52 hi0 hz0 hz1 hz2 rfl (by omega) (.slice a f.len c) f.len xs hs hown ⟨w1.heap.size,0,none⟩ 1 1 [.int .i64 k,.string ⟨t.toArray⟩,.int .i64 n,.int .i64 p,.slice a' ks.len c'] hx rfl (World.news_of_block (cs:=#[.int .i64 k,.string ⟨t.toArray⟩,.int .i64 n,.int .i64 p,.slice a' ks.len c']) (t:=54) (fr:=(0,0)) (Go.heap_alloc_new w1 _)) (by simp[Value.oneCell']) (by omega) (by unfold maxLen;omega) (by omega) (Nat.zero_le _) (w1.heap.size+1) (by simp) ?_
 intro g cc w2 hown2 hg hat _
 obtain ⟨r1,r2⟩:=h.snoc ht hk hkf hown2 hg (hat.imp id fun e=>by simpa using e) hl
 have:=hK g cc w2 r1 r2
 rw[hl1] at this
 exact this
theorem step_goE {ops:Array Oper} {o:Oper} {ac:Act} {K:Act→World→Prop} {Q:Exit→Act→World→Prop} {E:Prop} {W:World} (hgd:o.guard=none) (f:FuncId) (xs:Array Operand) (ats:Array TypeId)
 (ho:o.op= .call {callee:=.value (.func f),args:=xs,argTypes:=ats}) (args:Array Value) (hx:#[]++xs.map ac.eval++#[]=args) (eg:∀args w,(callFunc f args).run Tryz.prog w= .ok (.enter f args) w)
 {R:Ending→World→Prop} (C:Calls Tryz.prog f args W R) (hK:∀e w',R e w'→∃v,e= .returned v∧K (ac.put o.dst v) w'):
 if Region.wanted o (yielded ops ac.tmps)=true then Oper.wp Tryz.prog o ac W K Q else E:=
 step_goP hgd f xs ats ho args hx eg C fun e w' h=>.inl (hK e w' h)
theorem enters159:∀args w,(callFunc 164 args).run Tryz.prog w= .ok (.enter 164 args) w:=enters_of Tryz.func164 (by kernel_rfl) rfl
set_option maxRecDepth 20000 in
set_option maxHeartbeats 8000000 in
theorem table_any (N:Nat) (H:∀n,n≤N→CC n) (b m:Nat) (T l:List Tok) (t:Tok) (W:World) (h:PS b m T (t::l) W) (h56:cls t≠56) (hr:tabP (pr N) (t::l)≠ .out):Calls Tryz.prog 158 #[.pointer (some ⟨b,0,none⟩)] W (PN b m T W (tabP (pr N) (t::l))):=by
 have hlt:=h.lt
 have hbW:W.heap.size≠b:=by omega
 obtain ⟨R,hR⟩:∃R,tabP (pr N) (t::l)=R:=⟨_,rfl⟩
 rw[hR] at hr⊢
 unfold tabP at hR
 replace hR:Hid ((pr N (.tab .nil) l).bind (fun f l1=>need 23 l1 fun l1=>.ok (one 12 [] 0 t.p f) l1)=R):=hR
 go_enter Tryz.func158,Tryz.ntmps158
 go_wp2_with (go_at_call 93;refine (take_p b m T l t _ (h.alloc _) h56).mono ?_;rintro e w1 ⟨rfl,hT1⟩;have D:=Nd.begin ((h.tk.alloc _).trans hT1) ((Bx.new W 54 _).ky hT1.ky hbW) (by omega) 12 [] 0 t.p)
 obtain ⟨X,hX⟩:∃X,w1.heap.size=X:=⟨_,rfl⟩
 obtain ⟨wS,hwS⟩:∃wS,w1.alloc (.cells #[.int .i64 (12),.string ⟨#[]⟩,.int .i64 (0),.int .i64 (t.p),.slice none 0 0] 54)=wS:=⟨_,rfl⟩
 rw[hX] at D⊢
 rw[hwS] at D⊢
 clear hwS hT1 hX
 go_loopg [] (N+2) (fun gf wx=>∃(q:Nat) (a':Option Addr) (c':Nat) (f:F) (l':List Tok),q≤N∧Nd b m T l' W X 12 [] 0 t.p a' c' f wx∧Hid ((pr q (.tab f) l').bind (fun f l1=>need 23 l1 fun l1=>.ok (one 12 [] 0 t.p f) l1)=R)∧q<gf)
 case atStart=>exact ⟨N,none,0,.nil,l,Nat.le_refl _,D,hR,by omega⟩
 case round=>
  clear D hR
  obtain ⟨q,a1,c1,f,l',hq,D,hR,hfu⟩:=hrel
  obtain ⟨t1,l2,rfl⟩:=D.tk.ps.cons
  cases q with
  | zero=>exact absurd hR.out.symm hr
  | succ q=>
    have hR:=hR.out
    rw[pr_succ] at hR
    simp only[stp'] at hR
    by_cases h23:cls t1=23
    ·have wt123:rd t1 [125]=true:=cls_rd (c:=23) (by omega) (by decide) (by decide)
     rw[if_pos (show hc (t1::l2)=23 from h23)] at hR
     simp only[PR.bind,need] at hR
     rw[if_pos (show hc (t1::l2)=23 from h23)] at hR
     subst hR
     go_wp2_with (first | (go_at_call 64;refine (is_v b m T l2 t1 _ _ D.tk.ps (by assumption)).mono ?_;rintro e w2 ⟨rfl,hb2⟩;have D:=D.below hb2) | (go_at_call 96;refine (expect_t b m T l2 t1 _ _ D.tk.ps (by assumption)).mono ?_;rintro e w3 ⟨rfl,hT3⟩;have D:=D.took hT3 (by simp);obtain ⟨q0,q1,q2,q3,q4⟩:=D.res.five;obtain ⟨f0,f1,f2,f3,f4⟩:=D.res.frozen5;obtain ⟨p0,p1,p2,p3,p4⟩:=D.box.five))
     refine bodyPost_ret (v:=(.agg #[.int .i64 (12),.string ⟨#[]⟩,.int .i64 (0),.int .i64 (t.p),.slice a1 f.len c1])) (by simp[results,Tryz.results158,go_sem,q0,q1,q2,q3,q4]) rfl ?_
     exact D.ret _ _ _ _ _
    ·have wt123:rd t1 [125]=false:=cls_nrd (c:=23) (by omega) (by decide) (by decide)
     rw[if_neg (show ¬hc (t1::l2)=23 from h23)] at hR
     have CF:=fun W h=>(H q (by omega)).fld b m T (t1::l2) W h
     cases he:pr q .fld (t1::l2) with
     | out=>rw[he] at hR;exact absurd hR.symm hr
     | bad p=>
       rw[he] at hR CF
       simp only[PR.bind] at hR
       subst hR
       go_wp2_with (first | (go_at_call 64;refine (is_v b m T l2 t1 _ _ D.tk.ps (by assumption)).mono ?_;rintro e w2 ⟨rfl,hb2⟩;have D:=D.below hb2;obtain ⟨p0,p1,p2,p3,p4⟩:=D.box.five))
       have D1:=D.drew
       go_region_dies
       all_goals
        refine (CF _ D1.tk.ps (by simp)).mono ?_
        rintro e w3 ⟨he,hk⟩
        unfold refp at he
        subst he
        exact ⟨rfl,rfl,D1.tk.ky.trans hk⟩
     | ok g l3=>
       have hlen:=pr_len he
       obtain ⟨t3,l4,rfl⟩:=(pr_ends he D.tk.ps.ends).cons
       rw[he] at hR CF
       simp only[PR.bind] at hR
       go_wp2_with (first | (go_at_call 64;refine (is_v b m T l2 t1 _ _ D.tk.ps (by assumption)).mono ?_;rintro e w2 ⟨rfl,hb2⟩;have D:=D.below hb2;obtain ⟨p0,p1,p2,p3,p4⟩:=D.box.five))
       go_cut [] from 11 to 17 (fun wx=>∃(a':Option Addr) (c':Nat),Nd b m T (t3::l4) W X 12 [] 0 t.p a' c' (f.app g) wx)
       case first=>
        have D1:=D.drew
        go_region_law (first | (refine step_goE (by rfl) 164 _ _ (by rfl) _ (by simp[Act.eval,Act.put]) enters159 (CF _ D1.tk.ps (by simp)) ?_;rintro e w3 ⟨k,tt,n,p,a1,c1,ks,rfl,rfl,hTN,hTk⟩;refine ⟨_,rfl,?_⟩;obtain ⟨-,-,-,-,q4⟩:=(D1.took hTk (by simp only[st] at hlen;omega)).box.five;obtain ⟨-,-,-,-,q5⟩:=(D1.took hTk (by simp only[st] at hlen;omega)).box.fiveA) | (refine step_row (by rfl) _ _ (by rfl) D1.row hTN hTk (by simp only[st] at hlen;omega) (by rfl) (by rfl) ?_;intro gg cc w4 hrow hky;obtain ⟨D4,B4⟩:=D1.grown hrow hky;obtain ⟨-,-,-,-,r4⟩:=B4.five;obtain ⟨-,-,-,-,g4⟩:=B4.frozen5))
        all_goals
         go_wp2_with fail
         go_meet
         exact ⟨_,_,D4⟩
       case rest=>
        clear D p0 p1 p2 p3 p4
        obtain ⟨a2,c2,D⟩:=hcut
        by_cases h15:cls t3=15
        ·have wt315:rd t3 [44]=true:=cls_rd (c:=15) (by omega) (by decide) (by decide)
         rw[if_pos (Or.inl (show hc (t3::l4)=15 from h15))] at hR
         replace hR:Hid ((pr q (.tab (f.app g)) l4).bind (fun f l1=>need 23 l1 fun l1=>.ok (one 12 [] 0 t.p f) l1)=R):=hR
         go_wp2_with (go_at_call 63;refine (accept_t b m T l4 t3 _ _ D.tk.ps (by assumption)).mono ?_;rintro e w3 ⟨rfl,hT3⟩;have D:=D.took hT3 (by simp))
         go_roundg (q+1)
         case measure=>omega
         case rel=>exact ⟨q,a2,c2,_,l4,by omega,D,hR,by omega⟩
        ·have wt315:rd t3 [44]=false:=cls_nrd (c:=15) (by omega) (by decide) (by decide)
         by_cases h1:cls t3=1
         ·have wt31:rd t3 [59]=true:=cls_rd (c:=1) (by omega) (by decide) (by decide)
          rw[if_pos (Or.inr (show hc (t3::l4)=1 from h1))] at hR
          replace hR:Hid ((pr q (.tab (f.app g)) l4).bind (fun f l1=>need 23 l1 fun l1=>.ok (one 12 [] 0 t.p f) l1)=R):=hR
          go_wp2_with (first | (go_at_call 63;refine (accept_f b m T l4 t3 _ _ D.tk.ps (by assumption)).mono ?_;rintro e w3 ⟨rfl,hb3⟩;have D:=D.below hb3) | (go_at_call 63;refine (accept_t b m T l4 t3 _ _ D.tk.ps (by assumption)).mono ?_;rintro e w3 ⟨rfl,hT3⟩;have D:=D.took hT3 (by simp)))
          go_roundg (q+1)
          case measure=>omega
          case rel=>exact ⟨q,a2,c2,_,l4,by omega,D,hR,by omega⟩
         ·have wt31:rd t3 [59]=false:=cls_nrd (c:=1) (by omega) (by decide) (by decide)
          rw[if_neg (show ¬(hc (t3::l4)=15∨hc (t3::l4)=1) from fun e=>e.elim h15 h1)] at hR
          simp only[need] at hR
          by_cases h23':cls t3=23
          ·have wt323:rd t3 [125]=true:=cls_rd (c:=23) (by omega) (by decide) (by decide)
           rw[if_pos (show hc (t3::l4)=23 from h23')] at hR
           subst hR
           go_wp2_with (first | (go_at_call 63;refine (accept_f b m T l4 t3 _ _ D.tk.ps (by assumption)).mono ?_;rintro e w3 ⟨rfl,hb3⟩;have D:=D.below hb3) | (go_at_call 96;refine (expect_t b m T l4 t3 _ _ D.tk.ps (by assumption)).mono ?_;rintro e w3 ⟨rfl,hT3⟩;have D:=D.took hT3 (by simp);obtain ⟨q0,q1,q2,q3,q4⟩:=D.res.five;obtain ⟨f0,f1,f2,f3,f4⟩:=D.res.frozen5;obtain ⟨p0,p1,p2,p3,p4⟩:=D.box.five))
           refine bodyPost_ret (v:=(.agg #[.int .i64 (12),.string ⟨#[]⟩,.int .i64 (0),.int .i64 (t.p),.slice a2 (f.app g).len c2])) (by simp[results,Tryz.results158,go_sem,q0,q1,q2,q3,q4]) rfl ?_
           exact D.ret _ _ _ _ _
          ·have wt323:rd t3 [125]=false:=cls_nrd (c:=23) (by omega) (by decide) (by decide)
           rw[if_neg (show ¬hc (t3::l4)=23 from h23')] at hR
           subst hR
           go_wp2_with (first | (go_at_call 63;refine (accept_f b m T l4 t3 _ _ D.tk.ps (by assumption)).mono ?_;rintro e w3 ⟨rfl,hb3⟩;have D:=D.below hb3) | (go_at_call 96;refine (expect_f b m T l4 t3 _ _ D.tk.ps (by assumption)).mono ?_;rintro e w3 ⟨he,hb3⟩;unfold refp at he;subst he))
           exact ⟨rfl,rfl,D.tk.ky.trans (.of_below hb3)⟩
end Go.Proofs.YtkjbgggghigapaaGreat
