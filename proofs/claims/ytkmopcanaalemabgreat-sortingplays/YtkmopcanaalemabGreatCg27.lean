import Derived.Test.YtkmopcanaalemabGreatCg17
import Derived.Test.YtkmopcanaalemabGreatCg26
import Derived.Deep.RegionHeld3
import Derived.Deep.DeepCutAuto
import Derived.Test.YtkmopcanaalemabGreatCg25
import Derived.Test.YtkmopcanaalemabGreatCg24
namespace Go.Proofs.YtkmopcanaalemabGreat
open Go.RowKit
def F3:Nat→V:=fun k=>if k=0 then kn 3 else if k=1 then kn 1 else kn 2
abbrev l9:Array Value:=#[.int .i64 2,.int .i64 3,.string ⟨#[]⟩,.int .i64 2,.int .i64 1,.string ⟨#[]⟩,.int .i64 2,.int .i64 2,.string ⟨#[]⟩]
theorem lv3 (w:World):Lv (w.alloc (.cells l9 36)) w.heap.size (.slice (some ⟨w.heap.size,0,none⟩) 3 3) 3 F3:=by
 have h:=World.ownsRow_lit (base:=w.heap.size) (e:=36) (size:=3) w l9 3 (Nat.le_refl _) (by unfold maxLen;omega) rfl
 refine ⟨?_⟩
 have e:l9.toList=cellsV F3 3:=by
  unfold cellsV F3
  rfl
 rw[←e]
 exact h
structure Gs (N:Nat→Prop) (Wk:World) (T A b a S hb c:Nat) (t:TS) (s:H.St) (W:World):Prop where
 tt:∃pr,TT N W T A b a S hb c {t with pr:=pr} s
 kp:Keep N Wk W
theorem Gs.below {N:Nat→Prop} {Wk W W':World} {T A b a S hb c:Nat} {t:TS} {s:H.St} (h:Gs N Wk T A b a S hb c t s W) (k:Below W.heap.size W W'):Gs N Wk T A b a S hb c t s W':=by
 obtain ⟨pr,tt⟩:=h.tt
 exact ⟨⟨pr,tt.below k⟩,h.kp.trans (Keep.of k)⟩
theorem Gs.get {N:Nat→Prop} {Wk W:World} {T A b a S hb c:Nat} {t:TS} {s:H.St} (h:Gs N Wk T A b a S hb c t s W) (hc:c≤700000) (n:Int) (h1:-9223372036854775808≤n) (h2:n≤9223372036854775807) {v:V} (hv:pget t.p (kn n)=v):
 Calls Tryz.prog 20 #[.pointer (some ⟨T,0,none⟩),.agg #[.int .i64 2,.int .i64 n,.string ⟨#[]⟩]] W fun e w'=>e= .returned (.agg #[.int .i64 v.1,.int .i64 v.2.1,.string v.2.2])∧Gs N Wk T A b a S hb (c+1) t s w':=by
 obtain ⟨pr,tt⟩:=h.tt
 refine (tget_any tt (by omega) (kn n) ⟨h1,h2⟩).mono ?_
 rintro e w' ⟨rfl,t',k'⟩
 refine ⟨?_,⟨_,t'⟩,h.kp.trans k'⟩
 show Ending.returned (vv (pget t.p (kn n)))=_
 rw[hv]
set_option maxRecDepth 20000 in
set_option maxHeartbeats 8000000 in
theorem fixed_any (w:World):Calls Tryz.prog 8 #[] w fun e w'=>e= .returned (.bool true)∧Below w.heap.size w w':=by
 have HI:Hid (∀(n:Int) (W:World),Calls Tryz.prog 17 #[.int .i64 n] W fun e w'=>e= .returned (.agg #[.int .i64 2,.int .i64 n,.string ⟨#[]⟩])∧Below W.heap.size W w'):=fun n W=>mkI n W
 go_enter Tryz.func8,Tryz.ntmps8
 go_wp2_with fail
 refine (HI.out 3 _).mono ?_;rintro e w1 ⟨rfl,hb1⟩
 go_wp2_with fail
 refine (HI.out 1 _).mono ?_;rintro e w2 ⟨rfl,hb2⟩
 go_wp2_with fail
 refine (HI.out 2 _).mono ?_;rintro e w3 ⟨rfl,hb3⟩
 have hb4:=bw1 w3 (.cells l9 36)
 have L3:=lv3 w3
 have z3:(w3.alloc (.cells l9 36)).heap.size=w3.heap.size+1:=by simp
 obtain ⟨W3,hW3⟩:∃W3,w3.alloc (.cells l9 36)=W3:=⟨_,rfl⟩
 rw[hW3] at hb4 L3 z3
 have HB3:Hid (Below w.heap.size w W3):=by
  have c1:=bthen hb1 hb1.size hb2
  have c2:=bthen c1 c1.size hb3
  exact bthen c2 c2.size hb4
 have C9:=begin16 L3 (by omega) 0 (.slice none 0 0)
 unfold cw3 at C9
 clear hb1 hb2 hb3 hb4 L3 z3
 go_wp2_with fail
 refine C9.mono ?_;rintro e w9 ⟨T,S,hb,RT,G,t,s,rfl,bz,bj,bw9⟩
 have hnl:nlast F3 (min 3 60)=3:=by kernel_rfl
 rw[hnl]
 have hmin:min 3 60=3:=rfl
 rw[hmin] at bj
 obtain ⟨N1,N2,⟨A,b,a,tt⟩,_,_,hN⟩:=bz.tt
 have C10:=snew_any tt 3
 have hg:∀j,j<3→Gv (F3 j):=fun j hj=>by
  rcases (show j=0∨j=1∨j=2 by omega) with rfl | rfl | rfl
  ·exact ⟨fm_kn 3,by decide⟩
  ·exact ⟨fm_kn 1,by decide⟩
  ·exact ⟨fm_kn 2,by decide⟩
 have HMt:Hid (Mt 3 t s (fun k=>F3 (k - 1).toNat)):=bj.mt tt.ti (by omega) hg
 have HN1:Hid (∀g,g<W3.heap.size→N1 g):=fun g hg=>(hN g hg).1
 have HW9:Hid (Below w.heap.size w w9):=bthen HB3.out HB3.out.size bw9
 clear C9 bz bj bw9 tt hN hg hnl hmin
 go_wp2_with fail
 refine C10.mono ?_;rintro e w10 ⟨rfl,so,kp⟩
 obtain ⟨B,hB⟩:∃B,w9.heap.size=B:=⟨_,rfl⟩
 rw[hB] at so
 rw[hB]
 obtain ⟨t1,g1,m1⟩:=fixed_one (f:=fun k=>F3 (k - 1).toNat) rfl rfl HMt.out
 obtain ⟨t2,g2,m2⟩:=fixed_two (f:=fun k=>F3 (k - 1).toNat) rfl rfl rfl m1
 obtain ⟨t3,g3,m3⟩:=fixed_three (g:=U.swp (fun k=>F3 (k - 1).toNat) 1 3) rfl rfl m2
 have HG:Hid (goR (sf1,t1) true=((sf2,t2),askT (kn 1) (kn 2))∧goR (sf2,t2) true=((endS 0,t3),endT 0)):=⟨g2,g3⟩
 have HP:Hid (pget t3.1.p (kn 1)=kn 1∧pget t3.1.p (kn 3)=kn 3):=⟨(m3.2 1 (by omega) (by omega)).1,(m3.2 3 (by omega) (by omega)).1⟩
 have CN1:=next_any so (by omega) sf_fit.1 false ⟨by show (0:Int)≤0;omega,by show (0:Int)≤6;omega⟩
 rw[g1] at CN1
 unfold tol4 askT at CN1
 have HK10:Hid (Keep N1 w9 w10):=kp
 clear C10 so kp hB g1 g2 g3 m1 m2 m3 HMt
 go_wp2_with fail
 refine CN1.mono ?_;rintro e w11 ⟨rfl,⟨v1,A1,B1,D1,s1⟩,k1⟩
 have b11:=b2 w11 (vb 2 2 ⟨#[]⟩) (vb 2 3 ⟨#[]⟩)
 have s1':=s1.news b11
 have x6:=(Bx.made w11 (kn 2)).below (bw1 (w11.alloc (vb 2 2 ⟨#[]⟩)) (vb 2 3 ⟨#[]⟩))
 have x7:=Bx.made (w11.alloc (vb 2 2 ⟨#[]⟩)) (kn 3)
 have z11:(w11.alloc (vb 2 2 ⟨#[]⟩)).heap.size=w11.heap.size+1:=by simp
 have z11':((w11.alloc (vb 2 2 ⟨#[]⟩)).alloc (vb 2 3 ⟨#[]⟩)).heap.size=w11.heap.size+2:=by simp
 rw[z11] at x7
 obtain ⟨N2,hN2⟩:∃N2:Nat→Prop,(fun g=>N1 g∨(w11.heap.size≤g∧g<((w11.alloc (vb 2 2 ⟨#[]⟩)).alloc (vb 2 3 ⟨#[]⟩)).heap.size))=N2:=⟨_,rfl⟩
 have HN2:Hid ((∀g,N1 g→N2 g)∧N2 w11.heap.size∧N2 (w11.heap.size+1)):=by
  subst hN2
  exact ⟨fun g q=>.inl q,.inr ⟨Nat.le_refl _,by omega⟩,.inr ⟨by omega,by omega⟩⟩
 rw[hN2] at s1'
 have CN2:=next_any s1' (by omega) sf_fit.2.1 true ⟨by show (0:Int)≤1;omega,by show (1:Int)≤6;omega⟩
 rw[HG.out.1] at CN2
 unfold tol4 askT at CN2
 have HX1:Hid (Bx ((w11.alloc (vb 2 2 ⟨#[]⟩)).alloc (vb 2 3 ⟨#[]⟩)) w11.heap.size (kn 2)∧Bx ((w11.alloc (vb 2 2 ⟨#[]⟩)).alloc (vb 2 3 ⟨#[]⟩)) (w11.heap.size+1) (kn 3)∧Keep N1 w9 ((w11.alloc (vb 2 2 ⟨#[]⟩)).alloc (vb 2 3 ⟨#[]⟩))):=⟨x6,x7,(HK10.out.trans k1).trans (Keep.of b11)⟩
 unfold vb at CN2 HX1
 clear CN1 b11 s1 s1' k1 x6 x7 z11 z11' hN2 HK10
 go_wp2_with fail
 refine CN2.mono ?_;rintro e w12 ⟨rfl,⟨v2,A2,B2,D2,s2⟩,k2⟩
 have y6:=HX1.out.1.kept k2 HN2.out.2.1
 have y7:=HX1.out.2.1.kept k2 HN2.out.2.2
 have kk2:Keep N1 w9 w12:=HX1.out.2.2.trans (k2.sub HN2.out.1)
 obtain ⟨B6,hB6⟩:∃B6,w11.heap.size=B6:=⟨_,rfl⟩
 rw[hB6] at y6 y7 HN2
 rw[hB6]
 have b12:=b2 w12 (vb 2 1 ⟨#[]⟩) (vb 2 2 ⟨#[]⟩)
 have s2':=s2.news b12
 have u6:=y6.below b12
 have u7:=y7.below b12
 have u10:=(Bx.made w12 (kn 1)).below (bw1 (w12.alloc (vb 2 1 ⟨#[]⟩)) (vb 2 2 ⟨#[]⟩))
 have u11:=Bx.made (w12.alloc (vb 2 1 ⟨#[]⟩)) (kn 2)
 have z12:(w12.alloc (vb 2 1 ⟨#[]⟩)).heap.size=w12.heap.size+1:=by simp
 have z12':((w12.alloc (vb 2 1 ⟨#[]⟩)).alloc (vb 2 2 ⟨#[]⟩)).heap.size=w12.heap.size+2:=by simp
 rw[z12] at u11
 obtain ⟨N3,hN3⟩:∃N3:Nat→Prop,(fun g=>N2 g∨(w12.heap.size≤g∧g<((w12.alloc (vb 2 1 ⟨#[]⟩)).alloc (vb 2 2 ⟨#[]⟩)).heap.size))=N3:=⟨_,rfl⟩
 have HN3:Hid ((∀g,N1 g→N3 g)∧N3 B6∧N3 (B6+1)∧N3 w12.heap.size∧N3 (w12.heap.size+1)):=by
  subst hN3
  exact ⟨fun g q=>.inl (HN2.out.1 g q),.inl HN2.out.2.1,.inl HN2.out.2.2,.inr ⟨Nat.le_refl _,by omega⟩,.inr ⟨by omega,by omega⟩⟩
 rw[hN3] at s2'
 have CN3:=next_any s2' (by omega) sf_fit.2.2 true ⟨by show (0:Int)≤2;omega,by show (2:Int)≤6;omega⟩
 rw[HG.out.2] at CN3
 obtain ⟨ta,tb,hta⟩:∃ta tb:V,endT 0=(ta,tb,false,0):=⟨nil,nil,rfl⟩
 rw[hta] at CN3
 unfold tol4 at CN3
 have HX2:Hid ((Bx ((w12.alloc (vb 2 1 ⟨#[]⟩)).alloc (vb 2 2 ⟨#[]⟩)) B6 (kn 2)∧Bx ((w12.alloc (vb 2 1 ⟨#[]⟩)).alloc (vb 2 2 ⟨#[]⟩)) (B6+1) (kn 3))∧(Bx ((w12.alloc (vb 2 1 ⟨#[]⟩)).alloc (vb 2 2 ⟨#[]⟩)) w12.heap.size (kn 1)∧Bx ((w12.alloc (vb 2 1 ⟨#[]⟩)).alloc (vb 2 2 ⟨#[]⟩)) (w12.heap.size+1) (kn 2))∧Keep N1 w9 ((w12.alloc (vb 2 1 ⟨#[]⟩)).alloc (vb 2 2 ⟨#[]⟩))):=⟨⟨u6,u7⟩,⟨u10,u11⟩,kk2.trans (Keep.of b12)⟩
 unfold vb at CN3 HX2
 clear CN2 b12 s2 s2' k2 y6 y7 u6 u7 u10 u11 z12 z12' hN3 HX1 HN2 kk2 hta HG hB6
 go_wp2_with fail
 refine CN3.mono ?_;rintro e w13 ⟨rfl,⟨v3,A3,B3,D3,s3⟩,k3⟩
 simp only
 obtain ⟨B10,hB10⟩:∃B10,w12.heap.size=B10:=⟨_,rfl⟩
 have q6:=HX2.out.1.1.kept k3 HN3.out.2.1
 have q7:=HX2.out.1.2.kept k3 HN3.out.2.2.1
 have q10:=HX2.out.2.1.1.kept k3 HN3.out.2.2.2.1
 have q11:=HX2.out.2.1.2.kept k3 HN3.out.2.2.2.2
 rw[hB10] at q10 q11 HN3
 rw[hB10]
 have kk3:Keep N1 w9 w13:=HX2.out.2.2.trans (k3.sub HN3.out.1)
 have b13:=b2 w13 (vb ta.1 ta.2.1 ta.2.2) (vb tb.1 tb.2.1 tb.2.2)
 have s3':=s3.below b13
 have HQ:Hid (∀W',Keep N3 ((w13.alloc (vb ta.1 ta.2.1 ta.2.2)).alloc (vb tb.1 tb.2.1 tb.2.2)) W'→(W'.cell? ⟨B6,0,none⟩=some (.int .i64 2)∧W'.cell? ⟨B6,1,none⟩=some (.int .i64 2)∧W'.cell? ⟨B6,2,none⟩=some (.string ⟨#[]⟩))∧(W'.cell? ⟨B6+1,0,none⟩=some (.int .i64 2)∧W'.cell? ⟨B6+1,1,none⟩=some (.int .i64 3)∧W'.cell? ⟨B6+1,2,none⟩=some (.string ⟨#[]⟩))∧(W'.cell? ⟨B10,0,none⟩=some (.int .i64 2)∧W'.cell? ⟨B10,1,none⟩=some (.int .i64 1)∧W'.cell? ⟨B10,2,none⟩=some (.string ⟨#[]⟩))∧(W'.cell? ⟨B10+1,0,none⟩=some (.int .i64 2)∧W'.cell? ⟨B10+1,1,none⟩=some (.int .i64 2)∧W'.cell? ⟨B10+1,2,none⟩=some (.string ⟨#[]⟩))):=fun W' kq=>by
  have p6:=(q6.below b13).kept kq HN3.out.2.1
  have p7:=(q7.below b13).kept kq HN3.out.2.2.1
  have p10:=(q10.below b13).kept kq HN3.out.2.2.2.1
  have p11:=(q11.below b13).kept kq HN3.out.2.2.2.2
  exact ⟨⟨p6.c0,p6.c1,p6.c2⟩,⟨p7.c0,p7.c1,p7.c2⟩,⟨p10.c0,p10.c1,p10.c2⟩,⟨p11.c0,p11.c1,p11.c2⟩⟩
 have HE:Hid (∀W',Keep N3 ((w13.alloc (vb ta.1 ta.2.1 ta.2.2)).alloc (vb tb.1 tb.2.1 tb.2.2)) W'→Below w.heap.size w W'):=fun W' kq=>by
  have k9:Keep N1 w9 W':=(kk3.trans (Keep.of b13)).trans (kq.sub HN3.out.1)
  exact HW9.out.trans (k9.below HW9.out.size (fun g hg=>HN1.out g (Nat.lt_of_lt_of_le hg HB3.out.size)))
 have HGs:Hid (Gs (Nq N3 B v3) ((w13.alloc (vb ta.1 ta.2.1 ta.2.2)).alloc (vb tb.1 tb.2.1 tb.2.2)) T A3 B3 D3 S hb (1000+31+31+31) t3.1 t3.2 ((w13.alloc (vb ta.1 ta.2.1 ta.2.2)).alloc (vb tb.1 tb.2.1 tb.2.2))):=⟨⟨_,s3'.tt⟩,Keep.refl _ _⟩
 obtain ⟨Wk,hWk⟩:∃Wk,(w13.alloc (vb ta.1 ta.2.1 ta.2.2)).alloc (vb tb.1 tb.2.1 tb.2.2)=Wk:=⟨_,rfl⟩
 rw[hWk] at HQ HE HGs
 unfold vb at hWk
 clear CN3 s3 s3' k3 q6 q7 q10 q11 HX2 kk3 b13 hB10 HN1 HW9 HB3 HN3
 go_wp2_with fail
 have g32:=guard32
 have e1:∀W',(binOp .eql 36 (vl 2 1 ⟨#[]⟩) (vl 2 1 ⟨#[]⟩)).run Tryz.prog W'= .ok (.bool true) W':=fun W'=>by rw[eql32];simp
 have e2:∀W',(binOp .eql 36 (vl 2 2 ⟨#[]⟩) (vl 2 2 ⟨#[]⟩)).run Tryz.prog W'= .ok (.bool true) W':=fun W'=>by rw[eql32];simp
 have e3:∀W',(binOp .eql 36 (vl 2 3 ⟨#[]⟩) (vl 2 3 ⟨#[]⟩)).run Tryz.prog W'= .ok (.bool true) W':=fun W'=>by rw[eql32];simp
 unfold vl at e1 e2 e3
 have HGet1:Hid (∀c W',c≤700000→Gs (Nq N3 B v3) Wk T A3 B3 D3 S hb c t3.1 t3.2 W'→Calls Tryz.prog 20 #[.pointer (some ⟨T,0,none⟩),.agg #[.int .i64 2,.int .i64 1,.string ⟨#[]⟩]] W' fun e w'=>e= .returned (.agg #[.int .i64 2,.int .i64 1,.string ⟨#[]⟩])∧Gs (Nq N3 B v3) Wk T A3 B3 D3 S hb (c+1) t3.1 t3.2 w'):=fun c W' hc z=>z.get hc 1 (by omega) (by omega) HP.out.1
 have HGet3:Hid (∀c W',c≤700000→Gs (Nq N3 B v3) Wk T A3 B3 D3 S hb c t3.1 t3.2 W'→Calls Tryz.prog 20 #[.pointer (some ⟨T,0,none⟩),.agg #[.int .i64 2,.int .i64 3,.string ⟨#[]⟩]] W' fun e w'=>e= .returned (.agg #[.int .i64 2,.int .i64 3,.string ⟨#[]⟩])∧Gs (Nq N3 B v3) Wk T A3 B3 D3 S hb (c+1) t3.1 t3.2 w'):=fun c W' hc z=>z.get hc 3 (by omega) (by omega) HP.out.2
 have HG0:Hid (Gs (Nq N3 B v3) Wk T A3 B3 D3 S hb 1093 t3.1 t3.2 Wk.drew):=HGs.out.below (bdrew1 Wk)
 have HK0:Hid (Keep N3 Wk Wk.drew):=HG0.out.kp.sub (fun _ q=>.inl q)
 have HKk:Hid (Keep N3 Wk Wk):=Keep.refl _ _
 have HQ2:Hid (∀w',Keep N3 Wk w'→w'.cell? ⟨B6,0,none⟩=some (.int .i64 2)∧w'.cell? ⟨B6,1,none⟩=some (.int .i64 2)∧w'.cell? ⟨B6,2,none⟩=some (.string ⟨#[]⟩)∧w'.cell? ⟨B6+1,0,none⟩=some (.int .i64 2)∧w'.cell? ⟨B6+1,1,none⟩=some (.int .i64 3)∧w'.cell? ⟨B6+1,2,none⟩=some (.string ⟨#[]⟩)∧w'.cell? ⟨B10,0,none⟩=some (.int .i64 2)∧w'.cell? ⟨B10,1,none⟩=some (.int .i64 1)∧w'.cell? ⟨B10,2,none⟩=some (.string ⟨#[]⟩)∧w'.cell? ⟨B10+1,0,none⟩=some (.int .i64 2)∧w'.cell? ⟨B10+1,1,none⟩=some (.int .i64 2)∧w'.cell? ⟨B10+1,2,none⟩=some (.string ⟨#[]⟩)):=fun w' kq=>by
  obtain ⟨⟨p0,p1,p2⟩,⟨p3,p4,p5⟩,⟨p6,p7,p8⟩,⟨p9,p10,p11⟩⟩:=HQ.out w' kq
  exact ⟨p0,p1,p2,p3,p4,p5,p6,p7,p8,p9,p10,p11⟩
 clear HQ HGs hWk
 go_cut [0] (fun x wx=>x= .bool true∧Hid (Below w.heap.size w wx))
 case first=>
  go_region_held3 (fun w'=>w'.cell? ⟨B6,0,none⟩=some (.int .i64 2)∧w'.cell? ⟨B6,1,none⟩=some (.int .i64 2)∧w'.cell? ⟨B6,2,none⟩=some (.string ⟨#[]⟩)∧w'.cell? ⟨B6+1,0,none⟩=some (.int .i64 2)∧w'.cell? ⟨B6+1,1,none⟩=some (.int .i64 3)∧w'.cell? ⟨B6+1,2,none⟩=some (.string ⟨#[]⟩)∧w'.cell? ⟨B10,0,none⟩=some (.int .i64 2)∧w'.cell? ⟨B10,1,none⟩=some (.int .i64 1)∧w'.cell? ⟨B10,2,none⟩=some (.string ⟨#[]⟩)∧w'.cell? ⟨B10+1,0,none⟩=some (.int .i64 2)∧w'.cell? ⟨B10+1,1,none⟩=some (.int .i64 2)∧w'.cell? ⟨B10+1,2,none⟩=some (.string ⟨#[]⟩)) (exact HQ2.out _ (by first | exact HK10.out | exact HK9.out | exact HK8.out | exact HK7.out | exact HK6.out | exact HK5.out | exact HK4.out | exact HK3.out | exact HK2.out | exact HK1.out | exact HK0.out | exact HKk.out)) (first
   | (go_at_call 17;(fail_if_success (have kz:=HK1));refine (HI.out 2 _).mono ?_;rintro e w10 ⟨rfl,bb⟩;have HG1:Hid (Gs (Nq N3 B v3) Wk T A3 B3 D3 S hb 1093 t3.1 t3.2 w10):=HG0.out.below bb;have HK1:Hid (Keep N3 Wk w10):=HG1.out.kp.sub (fun _ q=>.inl q);clear bb)
   | (go_at_call 17;(fail_if_success (have kz:=HK2));refine (HI.out 3 _).mono ?_;rintro e w20 ⟨rfl,bb⟩;have HG2:Hid (Gs (Nq N3 B v3) Wk T A3 B3 D3 S hb 1093 t3.1 t3.2 w20):=HG1.out.below bb;have HK2:Hid (Keep N3 Wk w20):=HG2.out.kp.sub (fun _ q=>.inl q);clear bb)
   | (go_at_call 17;(fail_if_success (have kz:=HK3));refine (HI.out 1 _).mono ?_;rintro e w30 ⟨rfl,bb⟩;have HG3:Hid (Gs (Nq N3 B v3) Wk T A3 B3 D3 S hb 1093 t3.1 t3.2 w30):=HG2.out.below bb;have HK3:Hid (Keep N3 Wk w30):=HG3.out.kp.sub (fun _ q=>.inl q);clear bb)
   | (go_at_call 17;(fail_if_success (have kz:=HK4));refine (HI.out 2 _).mono ?_;rintro e w40 ⟨rfl,bb⟩;have HG4:Hid (Gs (Nq N3 B v3) Wk T A3 B3 D3 S hb 1093 t3.1 t3.2 w40):=HG3.out.below bb;have HK4:Hid (Keep N3 Wk w40):=HG4.out.kp.sub (fun _ q=>.inl q);clear bb)
   | (go_at_call 17;(fail_if_success (have kz:=HK5));refine (HI.out 1 _).mono ?_;rintro e w50 ⟨rfl,bb⟩;have HG5:Hid (Gs (Nq N3 B v3) Wk T A3 B3 D3 S hb 1093 t3.1 t3.2 w50):=HG4.out.below bb;have HK5:Hid (Keep N3 Wk w50):=HG5.out.kp.sub (fun _ q=>.inl q);clear bb)
   | (go_at_call 20;(fail_if_success (have kz:=HK6));refine (HGet1.out 1093 _ (by omega) HG5.out).mono ?_;rintro e w60 ⟨rfl,gg⟩;have HG6:Hid (Gs (Nq N3 B v3) Wk T A3 B3 D3 S hb 1094 t3.1 t3.2 w60):=gg;have HK6:Hid (Keep N3 Wk w60):=HG6.out.kp.sub (fun _ q=>.inl q);clear gg)
   | (go_at_call 17;(fail_if_success (have kz:=HK7));refine (HI.out 1 _).mono ?_;rintro e w70 ⟨rfl,bb⟩;have HG7:Hid (Gs (Nq N3 B v3) Wk T A3 B3 D3 S hb 1094 t3.1 t3.2 w70):=HG6.out.below bb;have HK7:Hid (Keep N3 Wk w70):=HG7.out.kp.sub (fun _ q=>.inl q);clear bb)
   | (go_at_call 17;(fail_if_success (have kz:=HK8));refine (HI.out 3 _).mono ?_;rintro e w80 ⟨rfl,bb⟩;have HG8:Hid (Gs (Nq N3 B v3) Wk T A3 B3 D3 S hb 1094 t3.1 t3.2 w80):=HG7.out.below bb;have HK8:Hid (Keep N3 Wk w80):=HG8.out.kp.sub (fun _ q=>.inl q);clear bb)
   | (go_at_call 20;(fail_if_success (have kz:=HK9));refine (HGet3.out 1094 _ (by omega) HG8.out).mono ?_;rintro e w90 ⟨rfl,gg⟩;have HG9:Hid (Gs (Nq N3 B v3) Wk T A3 B3 D3 S hb 1095 t3.1 t3.2 w90):=gg;have HK9:Hid (Keep N3 Wk w90):=HG9.out.kp.sub (fun _ q=>.inl q);clear gg)
   | (go_at_call 17;(fail_if_success (have kz:=HK10));refine (HI.out 3 _).mono ?_;rintro e w100 ⟨rfl,bb⟩;have HG10:Hid (Gs (Nq N3 B v3) Wk T A3 B3 D3 S hb 1095 t3.1 t3.2 w100):=HG9.out.below bb;have HK10:Hid (Keep N3 Wk w100):=HG10.out.kp.sub (fun _ q=>.inl q);clear bb))
  all_goals
   go_wp2_with fail
   go_meet
   exact ⟨rfl,HE.out _ HK10.out⟩
 case rest=>
  obtain ⟨rfl,HX5⟩:=hcut
  go_wp2_with fail
  go_ret
  exact ⟨rfl,HX5.out⟩
end Go.Proofs.YtkmopcanaalemabGreat


namespace Go.Proofs.YtkmopcanaalemabGreat
open Go.RowKit
theorem bset3 {N:Nat} {w w1:World} (h:Below N w w1) {g:Nat} (hg:N≤g) (x:V):Below N w (set3 w1 g x):=((h.setCell (p:=⟨g,0,none⟩) hg _).setCell (p:=⟨g,1,none⟩) hg _).setCell (p:=⟨g,2,none⟩) hg _
theorem set3_keep (w:World) (g:Nat) (x:V):Keep (fun y=>y≠g) w (set3 w g x):=(Keep.refl _ w).set3 (fun q=>q rfl) x
structure Gz (w W:World) (N vx:Nat) (xv:V):Prop where
 bel:Below N w W
 bx:Bx W vx xv
 r3:R3 W (N+1) nil
 ne:vx≠N+1
 ge:N≤vx
set_option maxRecDepth 20000 in
set_option maxHeartbeats 4000000 in
theorem rtget_any {No:Nat→Prop} {w:World} {RT A P ka va ca:Nat} {cb:Nat→Nat} {G c:Nat} {t:TS} {s:H.St} (h:RQ No w RT A P ka va ca cb G c t s) (hc:c≤700000) (k:V) (hr:Rng k):
 Calls Tryz.prog 106 #[.pointer (some ⟨RT,0,none⟩),vv k] w fun e w'=>e= .returned (vv (pget t.p k))∧RQ No w' RT A P ka va ca cb G (c+1) {t with pr:=t.pr+(prd t.p k:Nat)} s∧Keep No w w':=by
 have B0:=b2 w (vb k.1 k.2.1 k.2.2) (vb 0 0 ⟨#[]⟩)
 have X1:Bx ((w.alloc (vb k.1 k.2.1 k.2.2)).alloc (vb 0 0 ⟨#[]⟩)) w.heap.size k:=(Bx.made w k).below (b1 _ _)
 have X2:=R3.made (w.alloc (vb k.1 k.2.1 k.2.2)) nil
 rw[show (w.alloc (vb k.1 k.2.1 k.2.2)).heap.size=w.heap.size+1 by simp] at X2
 have X2':R3 ((w.alloc (vb k.1 k.2.1 k.2.2)).alloc (vb 0 0 ⟨#[]⟩)) (w.heap.size+1) nil:=X2
 clear X2
 have eX:(w.alloc (vb k.1 k.2.1 k.2.2)).heap.size=w.heap.size+1:=by simp
 obtain ⟨W0,hW0⟩:∃W0,(w.alloc (vb k.1 k.2.1 k.2.2)).alloc (vb 0 0 ⟨#[]⟩)=W0:=⟨_,rfl⟩
 rw[hW0] at B0 X1 X2'
 unfold vb at hW0 eX
 have h0:=h.below B0
 have CW:=rwithin_any k W0 h0.rb.c0 h0.rb.ltR
 have HQ:Hid (RQ No w RT A P ka va ca cb G c t s):=h
 have HB0:Hid (Below w.heap.size w W0):=B0
 have HX1:Hid (Bx W0 w.heap.size k):=X1
 have HX2:Hid (R3 W0 (w.heap.size+1) nil):=X2'
 have d0:=X1.c0
 have d1:=X1.c1
 have d2:=X1.c2
 have hle:=h.ti.le
 have hp0:=h.p0
 have hp1:=h.p1
 have hrd:=prd_le h.ti k
 have HTI:Hid (TI t.p):=h.ti
 have HLt:Hid (RT<w.heap.size):=h.rb.ltR
 clear h B0 X1 X2' h0
 generalize hsz:w.heap.size=N at *
 have HSZ:Hid (w.heap.size=N):=hsz
 by_cases hA:inA t.p.n k
 ·rw[decide_eq_true hA] at CW
  have e1:pget t.p k=t.p.F (ix k):=by unfold pget;rw[if_pos hA]
  have e2:prd t.p k=0:=by unfold prd;rw[if_pos hA]
  rw[e1,e2]
  have hix:ix k<t.p.n:=by have:=hA.2.2;unfold ix;omega
  have Hk1:Hid (k.2.1=(ix k:Int)+1):=by have:=hA.2.2;show k.2.1=(ix k:Int)+1;unfold ix;omega
  have hwr:IntKind.i64.wrap (k.2.1 - 1)=(ix k:Int):=by have:=Hk1.out;rw[IntKind.wrap_i64];omega
  have hixi:(ix k:Int)<(t.p.n:Int):=by omega
  have hixn:¬((ix k:Int)<0):=by omega
  unfold vv vl at CW⊢
  clear hA e1 e2
  obtain ⟨x,hx⟩:∃x,t.p.F (ix k)=x:=⟨_,rfl⟩
  rw[hx]
  have HXX:Hid (t.p.F (ix k)=x):=hx
  clear hx
  go_enter Tryz.func106,Tryz.ntmps106
  go_wp2_with fail
  refine CW.mono ?_;rintro e W1 ⟨rfl,hb1⟩
  have hbN:Below N w W1:=bthen HB0.out (HSZ.out▸HB0.out.size) hb1
  have q1:=HQ.out.rb.below (HSZ.out.symm▸hbN)
  have r1:=HX2.out.below hb1
  have f1:=(HX1.out.below hb1).c1
  have g0:=q1.c0
  obtain ⟨s0,s1,s2⟩:=q1.sl.at hix
  rw[HXX.out] at s0 s1 s2
  have n0:W1.cell? ⟨N+1,0,none⟩=some (.int .i64 0):=r1.bx.c0
  have n1:W1.cell? ⟨N+1,1,none⟩=some (.int .i64 0):=r1.bx.c1
  have n2:W1.cell? ⟨N+1,2,none⟩=some (.string ⟨#[]⟩):=r1.bx.c2
  have nf:=r1.fz
  have r2:=r1.set x
  have hb2:=bset3 hbN (g:=N+1) (by omega) x
  obtain ⟨W2,hW2⟩:∃W2,set3 W1 (N+1) x=W2:=⟨_,rfl⟩
  rw[hW2] at r2 hb2
  unfold set3 at hW2
  have HR2:Hid (Bx W2 (N+1) x):=r2.bx
  have HS:Hid (RQ No W2.drew RT A P ka va ca cb G (c+1) {t with pr:=t.pr+((0:Nat):Int)} s∧Keep No w W2.drew):=by
   have hb3:Below w.heap.size w W2.drew:=(HSZ.out.symm▸hb2).trans (bdrew _ _ 1)
   refine ⟨?_,Keep.of hb3⟩
   rw[show t.pr+((0:Nat):Int)=t.pr by omega]
   exact (HQ.out.below hb3).more (by omega)
  clear q1 r1 r2 hb1 hb2 hbN CW HX1 HX2 hW0 eX d0 d1 d2
  go_wp2_with fail
  go_region
  all_goals
   go_wp2_with fail
   have v0:=HR2.out.c0
   have v1:=HR2.out.c1
   have v2:=HR2.out.c2
   refine bodyPost_ret (v:=.agg #[.int .i64 x.1,.int .i64 x.2.1,.string x.2.2]) (by simp[results,Tryz.results106,go_sem,v0,v1,v2]) rfl ⟨rfl,HS.out⟩
 ·rw[decide_eq_false hA] at CW
  have e1:pget t.p k=xAt t.p.g (fnd t.p.z t.p.g k).1:=by unfold pget;rw[if_neg hA];rfl
  have e2:prd t.p k=(fnd t.p.z t.p.g k).2:=by unfold prd;rw[if_neg hA]
  rw[e1,e2]
  rw[e2] at hrd
  have HCF:Hid (∀W,Below W0.heap.size W0 W→Calls Tryz.prog 119 #[.pointer (some ⟨P,0,none⟩),.agg #[.int .i64 k.1,.int .i64 k.2.1,.string k.2.2]] W fun e w'=>e= .returned (.tuple #[.agg #[.int .i64 (xAt t.p.g (fnd t.p.z t.p.g k).1).1,.int .i64 (xAt t.p.g (fnd t.p.z t.p.g k).1).2.1,.string (xAt t.p.g (fnd t.p.z t.p.g k).1).2.2],.int .i64 ((fnd t.p.z t.p.g k).2:Nat)])∧Below W.heap.size W w'):=fun W q=>
   rget_any k W (HQ.out.rb.below (bthen (HSZ.out.symm▸HB0.out) (by rw[HSZ.out];exact HSZ.out▸HB0.out.size) q)).rp HTI.out.inv HTI.out.rt hr
  generalize xAt t.p.g (fnd t.p.z t.p.g k).1=x at *
  generalize (fnd t.p.z t.p.g k).2=rd at *
  have hwr:IntKind.i64.wrap (t.pr+(rd:Int))=t.pr+(rd:Int):=by rw[IntKind.wrap_i64];omega
  unfold vv vl at CW⊢
  clear hA e1 e2
  go_enter Tryz.func106,Tryz.ntmps106
  go_wp2_with fail
  refine CW.mono ?_;rintro e W1 ⟨rfl,hb1⟩
  have hbN:Below N w W1:=bthen HB0.out (HSZ.out▸HB0.out.size) hb1
  have hs1:N+2≤W1.heap.size:=by have h1:=HX2.out.bx.lt;have h2:=hb1.size;omega
  have q1:=HQ.out.rb.below (HSZ.out.symm▸hbN)
  have x1:=HX1.out.below hb1
  have f0:=x1.c0
  have f1:=x1.c1
  have f2:=x1.c2
  have g1:=q1.c1
  have HR1:Hid (R3 W1 (N+1) nil):=HX2.out.below hb1
  have HBN:Hid (Below N w W1):=hbN
  have HG1:Hid (∀w3,Below W1.heap.size W1 w3→Gz w (w3.alloc (.cells #[.int .i64 x.1,.int .i64 x.2.1,.string x.2.2] 36)) N w3.heap.size x):=fun w3 b3=>by
   have bb:=bthen b3 b3.size (b1 w3 (.cells #[.int .i64 x.1,.int .i64 x.2.1,.string x.2.2] 36))
   exact ⟨bthen HBN.out (by have:=hs1;omega) bb,Bx.made w3 x,HR1.out.below bb,by have:=b3.size;omega,by have:=b3.size;omega⟩
  have HG2:Hid (∀w3,Below W1.heap.size W1 w3→R3 w3 W1.heap.size nil→Gz w (set3 w3 W1.heap.size x) N W1.heap.size x):=fun w3 b3 r3=>by
   have bb:Below W1.heap.size W1 (set3 w3 W1.heap.size x):=bset3 b3 (Nat.le_refl _) x
   exact ⟨bthen HBN.out (by have:=hs1;omega) bb,(r3.set x).bx,HR1.out.below bb,by omega,by omega⟩
  have BA:=bthen (bdrew1 W1) (Nat.le_refl _) (b1 W1.drew (.cells #[.int .i64 0,.int .i64 0,.string ⟨#[]⟩] 36))
  have RA:R3 (W1.drew.alloc (.cells #[.int .i64 0,.int .i64 0,.string ⟨#[]⟩] 36)) W1.heap.size nil:=R3.made W1.drew nil
  obtain ⟨Wa,hWa⟩:∃Wa,W1.drew.alloc (.cells #[.int .i64 0,.int .i64 0,.string ⟨#[]⟩] 36)=Wa:=⟨_,rfl⟩
  rw[hWa] at BA RA
  have xa:=x1.below BA
  have z0:=xa.c0
  have z1:=xa.c1
  have z2:=xa.c2
  have zP:=(q1.below BA).c1
  have hb01:∀W,Below W1.heap.size W1 W→Below W0.heap.size W0 W:=fun W q=>bthen hb1 hb1.size q
  have CFd:=(HCF.out W1.drew (hb01 _ (bdrew1 W1))).mono (R':=fun e w'=>e= .returned (.tuple #[.agg #[.int .i64 x.1,.int .i64 x.2.1,.string x.2.2],.int .i64 (rd:Nat)])∧Hid (Below W1.heap.size W1 w')) fun _ _ hh=>⟨hh.1,bthen (bdrew1 W1) (Nat.le_refl _) hh.2⟩
  have CFa:=(HCF.out Wa (hb01 _ BA)).mono (R':=fun e w'=>e= .returned (.tuple #[.agg #[.int .i64 x.1,.int .i64 x.2.1,.string x.2.2],.int .i64 (rd:Nat)])∧Hid (Below W1.heap.size W1 w')∧R3 w' W1.heap.size nil) fun _ _ hh=>⟨hh.1,bthen BA BA.size hh.2,RA.below hh.2⟩
  clear q1 x1 xa hb1 hbN hb01 CW HCF HX1 HX2 HR1 HBN BA RA hW0 eX d0 d1 d2 HB0 hs1
  go_upto_region 3 with fail
  go_cut [5,6] from 19 to 27 (fun bw rw wx=>∃vx:Nat,bw= .pointer (some ⟨vx,0,none⟩)∧rw= .int .i64 (rd:Nat)∧Hid (Gz w wx N vx x))
  case first=>
   go_region_with (first
    | (go_at_call 119;refine CFd.mono ?_;rintro e w3 ⟨rfl,hB3⟩;have HPX:Hid _:=HG1.out w3 hB3.out;obtain ⟨W8,hW8⟩:∃W8,w3.alloc (.cells #[.int .i64 x.1,.int .i64 x.2.1,.string x.2.2] 36)=W8:=⟨_,rfl⟩;rw[hW8] at HPX)
    | (go_at_call 119;refine CFa.mono ?_;rintro e w3 ⟨rfl,hB3,q3⟩;have q0:w3.cell? ⟨W1.heap.size,0,none⟩=some (.int .i64 0):=q3.bx.c0;have q1:w3.cell? ⟨W1.heap.size,1,none⟩=some (.int .i64 0):=q3.bx.c1;have q2:w3.cell? ⟨W1.heap.size,2,none⟩=some (.string ⟨#[]⟩):=q3.bx.c2;have qf:∀j,w3.frozen? ⟨W1.heap.size,j,none⟩=false:=q3.fz;have HPX:Hid _:=HG2.out w3 hB3.out q3;obtain ⟨W8,hW8⟩:∃W8,set3 w3 W1.heap.size x=W8:=⟨_,rfl⟩;rw[hW8] at HPX;unfold set3 at hW8;clear q3))
   all_goals
    go_wp2_with fail
    go_meet
    exact ⟨_,rfl,rfl,HPX⟩
  case rest=>
   obtain ⟨vx,rfl,rfl,HZ⟩:=hcut
   clear CFd CFa HG1 HG2 hWa f0 f1 f2 g1 z0 z1 z2 zP
   have q2:=HQ.out.below (HSZ.out.symm▸HZ.out.bel)
   have c5:=q2.rb.c5
   have z5:=q2.rb.fz
   obtain ⟨s1,s2⟩:=(q2.more (c':=c+1) (by omega)).probe (t.pr+(rd:Int)) (by omega) (by push_cast;omega)
   obtain ⟨W3,hW3⟩:∃W3,wc.setCell ⟨RT,5,none⟩ (.int .i64 (t.pr+(rd:Int)))=W3:=⟨_,rfl⟩
   have kR:Keep (fun g=>g≠RT) wc W3:=by rw[←hW3];exact (Keep.refl (fun g=>g≠RT) wc).set (p:=⟨RT,5,none⟩) (fun q=>q rfl) _
   rw[hW3] at s1 s2
   have bx3:=HZ.out.bx.kept kR (by have h1:=HLt.out;have h2:=HZ.out.ge;show vx≠RT;omega)
   have r3:=HZ.out.r3.kept kR (by have h1:=HLt.out;show N+1≠RT;omega)
   have y0:=bx3.c0
   have y1:=bx3.c1
   have y2:=bx3.c2
   have n0:W3.cell? ⟨N+1,0,none⟩=some (.int .i64 0):=r3.bx.c0
   have n1:W3.cell? ⟨N+1,1,none⟩=some (.int .i64 0):=r3.bx.c1
   have n2:W3.cell? ⟨N+1,2,none⟩=some (.string ⟨#[]⟩):=r3.bx.c2
   have nf:=r3.fz
   have r4:=(r3.set x).bx
   have hls:wc.heap.size=W3.heap.size:=by rw[←hW3];simp[World.setCell]
   have b4:Below (N+1) W3 (set3 W3 (N+1) x):=bset3 (Below.refl _ _) (Nat.le_refl _) x
   obtain ⟨W4,hW4⟩:∃W4,set3 W3 (N+1) x=W4:=⟨_,rfl⟩
   rw[hW4] at r4 b4
   unfold set3 at hW4
   have HR4:Hid (Bx W4 (N+1) x):=r4
   have HS:Hid (RQ No W4 RT A P ka va ca cb G (c+1) {t with pr:=t.pr+(rd:Int)} s∧Keep No w W4):=by
    have hnew:=HQ.out.news (HSZ.out.symm▸HZ.out.bel)
    obtain ⟨u1,u2⟩:=(hnew.more (c':=c+1) (by omega)).probe (t.pr+(rd:Int)) (by omega) (by push_cast;omega)
    rw[hW3] at u1 u2
    have hb4:Below w.heap.size w wc:=HSZ.out.symm▸HZ.out.bel
    have hlt:N+1<wc.heap.size:=HZ.out.r3.bx.lt
    have u3:=u1.frame (w':=W4) ⟨b4.os,b4.tape,b4.output,b4.size,fun g hg hn=>by
     by_cases q:g=N+1
     ·exact absurd (.inr ⟨by have:=HSZ.out;omega,by omega⟩) hn
     ·rw[←hW4]
      exact ((set3_keep W3 (N+1) x).block g hg q)⟩
    refine ⟨u3.sub fun g q=>.inl (.inl q),((Keep.of hb4).trans s2).trans ?_⟩
    have kN:Keep (fun g=>g≠N+1) W3 W4:=by rw[←hW4];exact set3_keep W3 (N+1) x
    exact kN.sub fun g q e=>by have h1:=HQ.out.nos g q;have h2:=HSZ.out;omega
   clear s1 s2 kR bx3 r3 r4 b4 q2
   go_wp2_with fail
   have v0:=HR4.out.c0
   have v1:=HR4.out.c1
   have v2:=HR4.out.c2
   refine bodyPost_ret (v:=.agg #[.int .i64 x.1,.int .i64 x.2.1,.string x.2.2]) (by simp[results,Tryz.results106,go_sem,v0,v1,v2]) rfl ⟨rfl,HS.out⟩
end Go.Proofs.YtkmopcanaalemabGreat
