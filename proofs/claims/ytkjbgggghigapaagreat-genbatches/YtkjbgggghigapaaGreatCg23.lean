import Derived.Test.YtkjbgggghigapaaGreatCg22
namespace Go.Proofs.YtkjbgggghigapaaGreat
open Go.RowKit
theorem Nd.call {b m:Nat} {T l l':List Tok} {W:World} {X y:Nat} {k:Int} {t:List UInt8} {n p:Int} {a a':Option Addr} {c c':Nat} {f f':F} {w w':World} (h:Nd b m T l W X k t n p a c f w) (ps:PS b m T l' w') (kl:KL 54 (fun g=>X<g) w' (.slice a' f'.len c') f') (few:f'.len+l'.length≤T.length) (hk:Ky (fun k=>k=b∨some k=some y) w w') (hy:X<y):
 ∃wF,w'.setCell ⟨X,4,none⟩ (.slice a' f'.len c')=wF∧Nd b m T l' W X k t n p a' c' f' wF∧Bx X 54 #[.int .i64 k,.string ⟨t.toArray⟩,.int .i64 n,.int .i64 p,.slice a f.len c] w':=by
 have hlt:=h.lt
 have hS:∀x,x≤X→x≠b→¬(x=b∨some x=some y):=fun x hx hb e=>e.elim hb fun e=>by simp at e;omega
 have hB:=h.box.ky hk (hS X (Nat.le_refl _) (by omega))
 refine ⟨_,rfl,⟨⟨ps.set (by omega) _,?_⟩,(h.res.ky hk (hS _ (by omega) (by omega))).set (by omega) _,hB.put4 _,kl.set (Nat.lt_irrefl _) _,few,h.lt⟩,hB⟩
 exact Ky.new (h.tk.ky.onto hk fun i hi e=>e.elim id fun e=>by simp at e;omega) (by omega) _
theorem Nd.num {b m:Nat} {T l:List Tok} {W:World} {X:Nat} {k:Int} {t:List UInt8} {n p:Int} {a:Option Addr} {c:Nat} {f:F} {w:World} (h:Nd b m T l W X k t n p a c f w) (n':Int):∃wF,w.setCell ⟨X,2,none⟩ (.int .i64 n')=wF∧Nd b m T l W X k t n' p a c f wF:=by
 have hlt:=h.lt
 exact ⟨_,rfl,h.tk.new (by omega) hlt.2.1 _,h.res.set (by omega) _,h.box.put2 _,h.kl.set (Nat.lt_irrefl _) _,h.few,h.lt⟩
theorem Nd.txt {b m:Nat} {T l:List Tok} {W:World} {X:Nat} {k:Int} {t:List UInt8} {n p:Int} {a:Option Addr} {c:Nat} {f:F} {w:World} (h:Nd b m T l W X k t n p a c f w) (t':List UInt8):∃wF,w.setCell ⟨X,1,none⟩ (.string ⟨t'.toArray⟩)=wF∧Nd b m T l W X k t' n p a c f wF:=by
 have hlt:=h.lt
 exact ⟨_,rfl,h.tk.new (by omega) hlt.2.1 _,h.res.set (by omega) _,h.box.put (j:=1) _,h.kl.set (Nat.lt_irrefl _) _,h.few,h.lt⟩
theorem Nd.name1 {b m:Nat} {T l:List Tok} {W:World} {X:Nat} {k:Int} {t:List UInt8} {n p:Int} {a:Option Addr} {c:Nat} {f:F} {w:World} (h:Nd b m T l W X k t n p a c f w) (t':List UInt8) (p':Int) (few:1+l.length≤T.length):Row b m T l (w.alloc (.cells #[.int .i64 (6),.string ⟨(t').toArray⟩,.int .i64 (0),.int .i64 (p'),.slice none 0 0] 54)) (fun g=>X<g) (some ⟨w.heap.size,0,none⟩) 1 (one 6 t' 0 p' .nil):=by
 have hlt:=h.lt
 have hX:=h.box.lt
 exact ⟨h.tk.ps.alloc _,(TN.leaf 54 w (fun g=>X<g) 6 t' 0 p').row1 (fun _ e _=>e) hX,fun x hx=>by omega,fun x hx=>by simp at hx;omega,by rw[one_len];exact few⟩
set_option maxRecDepth 20000 in
set_option maxHeartbeats 8000000 in
theorem last_any (N:Nat) (H:CC N) (b m:Nat) (T l:List Tok) (t:Tok) (W:World) (h:PS b m T (t::l) W) (h56:cls t≠56) (hr:lastP (pr N) (t::l)≠ .out):Calls Tryz.prog 65 #[.pointer (some ⟨b,0,none⟩)] W (PN b m T W (lastP (pr N) (t::l))):=by
 have hlt:=h.lt
 have hbW:W.heap.size≠b:=by omega
 obtain ⟨t2,l2,rfl⟩:=tail_cons h.ends h56
 unfold lastP at hr⊢
 simp only[List.tail_cons,show ha (t::t2::l2)=t.p from rfl] at hr⊢
 by_cases h1:cls t2=1
 ·have wt21:rd t2 [59]=true:=cls_rd (c:=1) (by omega) (by decide) (by decide)
  rw[if_pos (show hc (t2::l2)=1 from h1)]
  go_enter Tryz.func65,Tryz.ntmps65
  go_wp2_with (first | (go_at_call 93;refine (take_p b m T (t2::l2) t _ (h.alloc _) h56).mono ?_;rintro e w1 ⟨rfl,hT1⟩;have D:=Nd.begin ((h.tk.alloc _).trans hT1) ((Bx.new W 54 _).ky hT1.ky hbW) (by omega) 30 [] 0 t.p;obtain ⟨b0,b1,b2,b3,b4⟩:=D.box.five;obtain ⟨y0,y1,y2,y3,y4⟩:=D.box.frozen5) | (go_at_call 63;refine (accept_t b m T l2 t2 _ _ D.tk.ps (by assumption)).mono ?_;rintro e w2 ⟨rfl,hT2⟩;have D:=D.took hT2 (by simp);obtain ⟨q0,q1,q2,q3,q4⟩:=D.res.five;obtain ⟨f0,f1,f2,f3,f4⟩:=D.res.frozen5;obtain ⟨z0,z1,z2,z3,z4⟩:=D.box.five))
  refine bodyPost_ret (v:=(.agg #[.int .i64 (30),.string ⟨#[]⟩,.int .i64 (0),.int .i64 (t.p),.slice none F.nil.len 0])) (by simp[results,Tryz.results65,go_sem,q0,q1,q2,q3,q4]) rfl ?_
  exact D.ret _ _ _ _ _
 ·have wt21:rd t2 [59]=false:=cls_nrd (c:=1) (by omega) (by decide) (by decide)
  rw[if_neg (show ¬hc (t2::l2)=1 from h1)] at hr⊢
  have CC':=fun w h=>closes_any b m T l2 t2 w h
  cases hcl:closes (t2::l2) with
  | true=>
    rw[hcl] at CC'
    rw[if_pos rfl]
    go_enter Tryz.func65,Tryz.ntmps65
    go_wp2_with (first | (go_at_call 93;refine (take_p b m T (t2::l2) t _ (h.alloc _) h56).mono ?_;rintro e w1 ⟨rfl,hT1⟩;have D:=Nd.begin ((h.tk.alloc _).trans hT1) ((Bx.new W 54 _).ky hT1.ky hbW) (by omega) 30 [] 0 t.p;obtain ⟨b0,b1,b2,b3,b4⟩:=D.box.five;obtain ⟨y0,y1,y2,y3,y4⟩:=D.box.frozen5) | (go_at_call 63;refine (accept_f b m T l2 t2 _ _ D.tk.ps (by assumption)).mono ?_;rintro e w2 ⟨rfl,hb2⟩;have D:=D.below hb2) | (go_at_call 67;refine (CC' _ D.tk.ps).mono ?_;rintro e w3 ⟨rfl,hb3⟩;have D:=D.below hb3;obtain ⟨q0,q1,q2,q3,q4⟩:=D.res.five;obtain ⟨f0,f1,f2,f3,f4⟩:=D.res.frozen5;obtain ⟨z0,z1,z2,z3,z4⟩:=D.box.five))
    refine bodyPost_ret (v:=(.agg #[.int .i64 (30),.string ⟨#[]⟩,.int .i64 (0),.int .i64 (t.p),.slice none F.nil.len 0])) (by simp[results,Tryz.results65,go_sem,q0,q1,q2,q3,q4]) rfl ?_
    exact D.ret _ _ _ _ _
  | false=>
    rw[hcl] at CC'
    rw[if_neg (by simp)]
    rw[hcl,if_neg (by simp)] at hr
    cases he:pr N (.lst .nil) (t2::l2) with
    | out=>rw[he] at hr;exact absurd rfl hr
    | bad p2=>
      simp only[PR.bind]
      go_enter Tryz.func65,Tryz.ntmps65
      go_wp2_with (first | (go_at_call 93;refine (take_p b m T (t2::l2) t _ (h.alloc _) h56).mono ?_;rintro e w1 ⟨rfl,hT1⟩;have D:=Nd.begin ((h.tk.alloc _).trans hT1) ((Bx.new W 54 _).ky hT1.ky hbW) (by omega) 30 [] 0 t.p;obtain ⟨b0,b1,b2,b3,b4⟩:=D.box.five;obtain ⟨y0,y1,y2,y3,y4⟩:=D.box.frozen5) | (go_at_call 63;refine (accept_f b m T l2 t2 _ _ D.tk.ps (by assumption)).mono ?_;rintro e w2 ⟨rfl,hb2⟩;have D:=D.below hb2) | (go_at_call 67;refine (CC' _ D.tk.ps).mono ?_;rintro e w3 ⟨rfl,hb3⟩;have D:=D.below hb3) | (go_at_call 94;have CL:=H.lst b m T (t2::l2) _ _ _ _ _ D.row;rw[he] at CL;refine (CL (by simp)).mono ?_;rintro e w4 ⟨he,hk⟩;unfold refp at he;subst he))
      exact ⟨rfl,rfl,D.tk.ky.onto hk fun i _ e=>e.elim id fun e=>by simp[Value.ownBlock] at e⟩
    | ok f l3=>
      have hsz:=sz_all _ _ _ _ _ he
      simp only[Sz,F.len] at hsz
      obtain ⟨t5,l6,rfl⟩:=(pr_ends he (h.ends.tail h56)).cons
      simp only[PR.bind]
      by_cases h5:cls t5=1
      ·have wt51:rd t5 [59]=true:=cls_rd (c:=1) (by omega) (by decide) (by decide)
       rw[if_pos (show hc (t5::l6)=1 from h5)]
       go_enter Tryz.func65,Tryz.ntmps65
       go_wp2_with (first | (go_at_call 93;refine (take_p b m T (t2::l2) t _ (h.alloc _) h56).mono ?_;rintro e w1 ⟨rfl,hT1⟩;have D:=Nd.begin ((h.tk.alloc _).trans hT1) ((Bx.new W 54 _).ky hT1.ky hbW) (by omega) 30 [] 0 t.p;obtain ⟨b0,b1,b2,b3,b4⟩:=D.box.five;obtain ⟨y0,y1,y2,y3,y4⟩:=D.box.frozen5) | (go_at_call 63;refine (accept_f b m T l2 t2 _ _ D.tk.ps (by assumption)).mono ?_;rintro e w2 ⟨rfl,hb2⟩;have D:=D.below hb2) | (go_at_call 67;refine (CC' _ D.tk.ps).mono ?_;rintro e w3 ⟨rfl,hb3⟩;have D:=D.below hb3) | (go_at_call 94;have CL:=H.lst b m T (t2::l2) _ _ _ _ _ D.row;rw[he] at CL;refine (CL (by simp)).mono ?_;rintro e w4 ⟨a3,c3,rfl,hkl,hps,hk⟩;have hfe:=D.few;obtain ⟨w5,hw5,D,B5⟩:=D.grownN hps hkl (by simp only[F.len] at hfe;omega) hk;obtain ⟨-,-,-,-,x4⟩:=B5.five;obtain ⟨-,-,-,-,y4⟩:=B5.frozen5) | (go_at_call 63;refine (accept_t b m T l6 t5 _ _ D.tk.ps (by assumption)).mono ?_;rintro e w2 ⟨rfl,hT2⟩;have D:=D.took hT2 (by simp);obtain ⟨q0,q1,q2,q3,q4⟩:=D.res.five;obtain ⟨f0,f1,f2,f3,f4⟩:=D.res.frozen5;obtain ⟨z0,z1,z2,z3,z4⟩:=D.box.five))
       refine bodyPost_ret (v:=(.agg #[.int .i64 (30),.string ⟨#[]⟩,.int .i64 (0),.int .i64 (t.p),.slice a3 f.len c3])) (by simp[results,Tryz.results65,go_sem,q0,q1,q2,q3,q4]) rfl ?_
       exact D.ret _ _ _ _ _
      ·have wt51:rd t5 [59]=false:=cls_nrd (c:=1) (by omega) (by decide) (by decide)
       rw[if_neg (show ¬hc (t5::l6)=1 from h5)]
       go_enter Tryz.func65,Tryz.ntmps65
       go_wp2_with (first | (go_at_call 93;refine (take_p b m T (t2::l2) t _ (h.alloc _) h56).mono ?_;rintro e w1 ⟨rfl,hT1⟩;have D:=Nd.begin ((h.tk.alloc _).trans hT1) ((Bx.new W 54 _).ky hT1.ky hbW) (by omega) 30 [] 0 t.p;obtain ⟨b0,b1,b2,b3,b4⟩:=D.box.five;obtain ⟨y0,y1,y2,y3,y4⟩:=D.box.frozen5) | (go_at_call 63;refine (accept_f b m T l2 t2 _ _ D.tk.ps (by assumption)).mono ?_;rintro e w2 ⟨rfl,hb2⟩;have D:=D.below hb2) | (go_at_call 67;refine (CC' _ D.tk.ps).mono ?_;rintro e w3 ⟨rfl,hb3⟩;have D:=D.below hb3) | (go_at_call 94;have CL:=H.lst b m T (t2::l2) _ _ _ _ _ D.row;rw[he] at CL;refine (CL (by simp)).mono ?_;rintro e w4 ⟨a3,c3,rfl,hkl,hps,hk⟩;have hfe:=D.few;obtain ⟨w5,hw5,D,B5⟩:=D.grownN hps hkl (by simp only[F.len] at hfe;omega) hk;obtain ⟨-,-,-,-,x4⟩:=B5.five;obtain ⟨-,-,-,-,y4⟩:=B5.frozen5) | (go_at_call 63;refine (accept_f b m T l6 t5 _ _ D.tk.ps (by assumption)).mono ?_;rintro e w2 ⟨rfl,hb2⟩;have D:=D.below hb2;obtain ⟨q0,q1,q2,q3,q4⟩:=D.res.five;obtain ⟨f0,f1,f2,f3,f4⟩:=D.res.frozen5;obtain ⟨z0,z1,z2,z3,z4⟩:=D.box.five))
       refine bodyPost_ret (v:=(.agg #[.int .i64 (30),.string ⟨#[]⟩,.int .i64 (0),.int .i64 (t.p),.slice a3 f.len c3])) (by simp[results,Tryz.results65,go_sem,q0,q1,q2,q3,q4]) rfl ?_
       exact D.ret _ _ _ _ _
end Go.Proofs.YtkjbgggghigapaaGreat


namespace Go.Proofs.YtkjbgggghigapaaGreat
open Go.RowKit
set_option maxRecDepth 20000 in
set_option maxHeartbeats 8000000 in
theorem local_any (N:Nat) (H:CC N) (b m:Nat) (T l:List Tok) (t:Tok) (W:World) (h:PS b m T (t::l) W) (h56:cls t≠56) (hr:locP (pr N) (t::l)≠ .out):Calls Tryz.prog 102 #[.pointer (some ⟨b,0,none⟩)] W (PN b m T W (locP (pr N) (t::l))):=by
 have hlt:=h.lt
 have hbW:W.heap.size≠b:=by omega
 have hT:=h.len
 obtain ⟨t2,l2,rfl⟩:=tail_cons h.ends h56
 unfold locP nam at hr⊢
 simp only[List.tail_cons,show ha (t::t2::l2)=t.p from rfl,show ht (t2::l2)=t2.t from rfl,show ha (t2::l2)=t2.p from rfl] at hr⊢
 by_cases h51:cls t2=51
 ·rw[if_pos (show hc (t2::l2)=51 from h51)] at hr⊢
  cases he:pr N (.nms (one 6 t2.t 0 t2.p .nil)) l2 with
  | out=>rw[he] at hr;exact absurd rfl hr
  | bad p2=>
    simp only[PR.bind]
    go_enter Tryz.func102,Tryz.ntmps102
    go_wp2_with (first | (go_at_call 93;refine (take_p b m T (t2::l2) t _ (h.alloc _) h56).mono ?_;rintro e w1 ⟨rfl,hT1⟩;have D:=Nd.begin ((h.tk.alloc _).trans hT1) ((Bx.new W 54 _).ky hT1.ky hbW) (by omega) 21 [] 0 t.p) | (go_at_call 95;refine (name_yes b m T l2 t2 _ D.tk.ps h51).mono ?_;rintro e w2 ⟨rfl,hT2⟩;have D:=D.took hT2 (by simp);have hy:=D.box.lt;have RW:=D.name1 t2.t t2.p (by simp only[List.length_cons] at hT;omega)) | (go_at_call 97;have YtkjbgggghigapaaGreat:=names_p N b m T l2 _ _ _ _ _ RW;rw[he] at YtkjbgggghigapaaGreat;refine (YtkjbgggghigapaaGreat (by simp)).mono ?_;rintro e w4 ⟨he,hk⟩;unfold refp at he;subst he))
    have hDl:=D.lt
    exact ⟨rfl,rfl,(D.tk.ky.alloc _).onto hk fun i hi e=>e.elim id fun e=>by simp[Value.ownBlock] at e;omega⟩
  | ok ns l3=>
    have hsz:=sz_all _ _ _ _ _ he
    simp only[Sz,one_len] at hsz
    obtain ⟨t5,l6,rfl⟩:=(pr_ends he ((h.ends.tail h56).tail (by omega))).cons
    rw[he] at hr
    simp only[PR.bind] at hr⊢
    by_cases h14:cls t5=14
    ·have wt514:rd t5 [61]=true:=cls_rd (c:=14) (by omega) (by decide) (by decide)
     rw[if_pos (show hc (t5::l6)=14 from h14)] at hr⊢
     change ((pr N (.lst ns) l6).bind _)≠_ at hr
     change Calls _ _ _ _ (PN b m T W ((pr N (.lst ns) l6).bind _))
     cases he2:pr N (.lst ns) l6 with
     | out=>rw[he2] at hr;exact absurd rfl hr
     | bad p2=>
       simp only[PR.bind]
       go_enter Tryz.func102,Tryz.ntmps102
       go_wp2_with (first | (go_at_call 93;refine (take_p b m T (t2::l2) t _ (h.alloc _) h56).mono ?_;rintro e w1 ⟨rfl,hT1⟩;have D:=Nd.begin ((h.tk.alloc _).trans hT1) ((Bx.new W 54 _).ky hT1.ky hbW) (by omega) 21 [] 0 t.p) | (go_at_call 95;refine (name_yes b m T l2 t2 _ D.tk.ps h51).mono ?_;rintro e w2 ⟨rfl,hT2⟩;have D:=D.took hT2 (by simp);have hy:=D.box.lt;have RW:=D.name1 t2.t t2.p (by simp only[List.length_cons] at hT;omega)) | (go_at_call 97;have YtkjbgggghigapaaGreat:=names_p N b m T l2 _ _ _ _ _ RW;rw[he] at YtkjbgggghigapaaGreat;refine (YtkjbgggghigapaaGreat (by simp)).mono ?_;rintro e w4 ⟨a3,c3,rfl,hkl,hps,hk⟩;obtain ⟨w5,hw5,D,B5⟩:=(D.alloc _).call hps hkl (by simp only[List.length_cons] at hT;omega) hk hy;obtain ⟨-,-,-,-,x4⟩:=B5.five;obtain ⟨-,-,-,-,y4⟩:=B5.frozen5;obtain ⟨-,-,e2,-,e4⟩:=D.box.five;obtain ⟨-,-,e6,-,-⟩:=D.box.frozen5;obtain ⟨w6,hw6,D⟩:=D.num (ns.len:Nat)) | (go_at_call 63;refine (accept_t b m T l6 t5 _ _ D.tk.ps (by assumption)).mono ?_;rintro e w7 ⟨rfl,hT7⟩;have D:=D.took hT7 (by simp);obtain ⟨-,-,-,-,v4⟩:=D.box.five) | (go_at_call 94;have CL:=H.lst b m T l6 _ _ _ _ _ D.row;rw[he2] at CL;refine (CL (by simp)).mono ?_;rintro e w8 ⟨he,hk8⟩;unfold refp at he;subst he))
       obtain ⟨xs,hown,hoP,_⟩:=D.kl.out
       have hDl:=D.lt
       exact ⟨rfl,rfl,D.tk.ky.onto hk8 fun i hi e=>e.elim id fun e=>by have:=hoP i e.symm;omega⟩
     | ok f l7=>
       have hsz2:=sz_all _ _ _ _ _ he2
       simp only[Sz] at hsz2
       simp only[PR.bind]
       go_enter Tryz.func102,Tryz.ntmps102
       go_wp2_with (first | (go_at_call 93;refine (take_p b m T (t2::l2) t _ (h.alloc _) h56).mono ?_;rintro e w1 ⟨rfl,hT1⟩;have D:=Nd.begin ((h.tk.alloc _).trans hT1) ((Bx.new W 54 _).ky hT1.ky hbW) (by omega) 21 [] 0 t.p) | (go_at_call 95;refine (name_yes b m T l2 t2 _ D.tk.ps h51).mono ?_;rintro e w2 ⟨rfl,hT2⟩;have D:=D.took hT2 (by simp);have hy:=D.box.lt;have RW:=D.name1 t2.t t2.p (by simp only[List.length_cons] at hT;omega)) | (go_at_call 97;have YtkjbgggghigapaaGreat:=names_p N b m T l2 _ _ _ _ _ RW;rw[he] at YtkjbgggghigapaaGreat;refine (YtkjbgggghigapaaGreat (by simp)).mono ?_;rintro e w4 ⟨a3,c3,rfl,hkl,hps,hk⟩;obtain ⟨w5,hw5,D,B5⟩:=(D.alloc _).call hps hkl (by simp only[List.length_cons] at hT;omega) hk hy;obtain ⟨-,-,-,-,x4⟩:=B5.five;obtain ⟨-,-,-,-,y4⟩:=B5.frozen5;obtain ⟨-,-,e2,-,e4⟩:=D.box.five;obtain ⟨-,-,e6,-,-⟩:=D.box.frozen5;obtain ⟨w6,hw6,D⟩:=D.num (ns.len:Nat)) | (go_at_call 63;refine (accept_t b m T l6 t5 _ _ D.tk.ps (by assumption)).mono ?_;rintro e w7 ⟨rfl,hT7⟩;have D:=D.took hT7 (by simp);obtain ⟨-,-,-,-,v4⟩:=D.box.five) | (go_at_call 94;have CL:=H.lst b m T l6 _ _ _ _ _ D.row;rw[he2] at CL;refine (CL (by simp)).mono ?_;rintro e w8 ⟨a8,c8,rfl,hkl8,hps8,hk8⟩;have hfe:=D.few;obtain ⟨w9,hw9,D,B9⟩:=D.grownN hps8 hkl8 (by omega) hk8;obtain ⟨-,-,-,-,x9⟩:=B9.five;obtain ⟨-,-,-,-,y9⟩:=B9.frozen5;obtain ⟨q0,q1,q2,q3,q4⟩:=D.res.five;obtain ⟨f0,f1,f2,f3,f4⟩:=D.res.frozen5;obtain ⟨z0,z1,z2,z3,z4⟩:=D.box.five))
       refine bodyPost_ret (v:=(.agg #[.int .i64 (21),.string ⟨#[]⟩,.int .i64 (ns.len),.int .i64 (t.p),.slice a8 f.len c8])) (by simp[results,Tryz.results102,go_sem,q0,q1,q2,q3,q4]) rfl ?_
       exact D.ret _ _ _ _ _
    ·have wt514:rd t5 [61]=false:=cls_nrd (c:=14) (by omega) (by decide) (by decide)
     rw[if_neg (show ¬hc (t5::l6)=14 from h14)]
     go_enter Tryz.func102,Tryz.ntmps102
     go_wp2_with (first | (go_at_call 93;refine (take_p b m T (t2::l2) t _ (h.alloc _) h56).mono ?_;rintro e w1 ⟨rfl,hT1⟩;have D:=Nd.begin ((h.tk.alloc _).trans hT1) ((Bx.new W 54 _).ky hT1.ky hbW) (by omega) 21 [] 0 t.p) | (go_at_call 95;refine (name_yes b m T l2 t2 _ D.tk.ps h51).mono ?_;rintro e w2 ⟨rfl,hT2⟩;have D:=D.took hT2 (by simp);have hy:=D.box.lt;have RW:=D.name1 t2.t t2.p (by simp only[List.length_cons] at hT;omega)) | (go_at_call 97;have YtkjbgggghigapaaGreat:=names_p N b m T l2 _ _ _ _ _ RW;rw[he] at YtkjbgggghigapaaGreat;refine (YtkjbgggghigapaaGreat (by simp)).mono ?_;rintro e w4 ⟨a3,c3,rfl,hkl,hps,hk⟩;obtain ⟨w5,hw5,D,B5⟩:=(D.alloc _).call hps hkl (by simp only[List.length_cons] at hT;omega) hk hy;obtain ⟨-,-,-,-,x4⟩:=B5.five;obtain ⟨-,-,-,-,y4⟩:=B5.frozen5;obtain ⟨-,-,e2,-,e4⟩:=D.box.five;obtain ⟨-,-,e6,-,-⟩:=D.box.frozen5;obtain ⟨w6,hw6,D⟩:=D.num (ns.len:Nat)) | (go_at_call 63;refine (accept_f b m T l6 t5 _ _ D.tk.ps (by assumption)).mono ?_;rintro e w7 ⟨rfl,hb7⟩;have D:=D.below hb7;obtain ⟨q0,q1,q2,q3,q4⟩:=D.res.five;obtain ⟨f0,f1,f2,f3,f4⟩:=D.res.frozen5;obtain ⟨z0,z1,z2,z3,z4⟩:=D.box.five))
     refine bodyPost_ret (v:=(.agg #[.int .i64 (21),.string ⟨#[]⟩,.int .i64 (ns.len),.int .i64 (t.p),.slice a3 ns.len c3])) (by simp[results,Tryz.results102,go_sem,q0,q1,q2,q3,q4]) rfl ?_
     exact D.ret _ _ _ _ _
 ·rw[if_neg (show ¬hc (t2::l2)=51 from h51)]
  go_enter Tryz.func102,Tryz.ntmps102
  go_wp2_with (first | (go_at_call 93;refine (take_p b m T (t2::l2) t _ (h.alloc _) h56).mono ?_;rintro e w1 ⟨rfl,hT1⟩;have D:=Nd.begin ((h.tk.alloc _).trans hT1) ((Bx.new W 54 _).ky hT1.ky hbW) (by omega) 21 [] 0 t.p) | (go_at_call 95;refine (name_no b m T l2 t2 _ D.tk.ps h51).mono ?_;rintro e w2 ⟨he,hb2⟩;unfold refp at he;subst he))
  exact ⟨rfl,rfl,D.tk.ky.trans (.of_below hb2)⟩
end Go.Proofs.YtkjbgggghigapaaGreat
