import Derived.Test.YtkjbgggghigapaaGreatCg08
import Derived.Test.YtkjbgggghigapaaGreatCg19
import Derived.Test.YtkjbgggghigapaaGreatCg30
import Derived.Test.YtkjbgggghigapaaGreatCg16
import Derived.Test.YtkjbgggghigapaaGreatCg05
namespace Go.Proofs.YtkjbgggghigapaaGreat
open Go.RowKit
theorem bset {B:Nat} {a w:World} (h:Below B a w) {b o:Nat} (hb:B≤b) (u:Value):Below B a (w.setCell ⟨b,o,none⟩ u):=
 ⟨h.os,h.tape,h.output,by rw[size_set];exact h.size,fun g hg=>(Below.heap_setCell w _ u g (by show g≠b;omega)).trans (h.block g hg)⟩
theorem Rv.monoL {P Q:Nat→Prop} {w:World} {a:Option Addr} {r:F} (h:Rv w P a r) (hb:∀g,P g→g<w.heap.size→Q g):Rv w Q a r:=by
 obtain ⟨xs,hk,hx⟩:=h.ex
 exact ⟨xs,hk.mono hb,fun hne=>by obtain ⟨g,o,e,hP,hg,r⟩:=hx hne;exact ⟨g,o,e,hb g hP hg,hg,r⟩⟩
theorem TN.cap {w:World} {P:Nat→Prop} {k:Int} {t:Tx} {n p:Int} {a:Option Addr} {c:Nat} {ks:F} (h:TN 54 w P k t n p (.slice a ks.len c) ks):ks.len≤c∧c≤maxLen:=by
 obtain ⟨_,xs,own,_⟩:=h.out
 rcases own.2 with ⟨e,e2⟩ | ⟨g,cap,cur,e,_,_,h4,h5,_⟩
 ·injection e with _ e3 e4
  subst e4
  exact ⟨by omega,Nat.zero_le _⟩
 ·injection e with _ _ e4
  subst e4
  exact ⟨h4,h5⟩
end Go.Proofs.YtkjbgggghigapaaGreat


namespace Go.Proofs.YtkjbgggghigapaaGreat
open Go.RowKit
set_option maxRecDepth 20000 in
set_option maxHeartbeats 8000000 in
theorem Checkq_any (s:ByteArray) (w:World) (hs:s.size≤9223372036854775807):Calls Tryz.prog 9 #[.string s] w (ChQ w (chT s.data.toList)):=by
 have P:=parse_any s ((w.alloc (.cells #[.slice none 0 0,.slice none 0 0] 33)).alloc (.cells #[.int .i64 0,.int .i64 0] 28)) hs
 have hz:=prT_siz s.data.toList
 have hok:=prT_okT s.data.toList
 have hzero:=prT_zero s.data.toList
 unfold chT
 generalize prT s.data.toList=r at *
 obtain ⟨f,cd,ct⟩:=r
 simp only at P hz hok hzero⊢
 have R0:=(Bx.new w 33 #[.slice none 0 0,.slice none 0 0]).alloc (.cells #[.int .i64 0,.int .i64 0] 28)
 have F0:=Bx.new (w.alloc (.cells #[.slice none 0 0,.slice none 0 0] 33)) 28 #[.int .i64 0,.int .i64 0]
 have e1:(w.alloc (.cells #[.slice none 0 0,.slice none 0 0] 33)).heap.size=w.heap.size+1:=by simp
 have e2:((w.alloc (.cells #[.slice none 0 0,.slice none 0 0] 33)).alloc (.cells #[.int .i64 0,.int .i64 0] 28)).heap.size=w.heap.size+2:=by simp
 have B0:=b2 w (.cells #[.slice none 0 0,.slice none 0 0] 33) (.cells #[.int .i64 0,.int .i64 0] 28)
 rw[e1] at F0
 obtain ⟨R,hR⟩:∃R,w.heap.size=R:=⟨_,rfl⟩
 obtain ⟨V0,hV0⟩:∃V0,(w.alloc (.cells #[.slice none 0 0,.slice none 0 0] 33)).alloc (.cells #[.int .i64 0,.int .i64 0] 28)=V0:=⟨_,rfl⟩
 rw[hV0] at P R0 F0 e2 B0
 rw[hR] at R0 F0 e2
 by_cases hc:cd=0
 ·subst hc
  have hct:ct=0:=hzero f ct rfl
  subst hct
  obtain ⟨p,ks,hfe,hokT⟩:=hok rfl
  subst hfe
  rw[if_pos rfl]
  have hwf:=F.okT_wfC _ hokT
  have hsz:ks.siz≤60010:=by simp only[one,F.siz] at hz;omega
  have hn:=neq27 0 0 0 0
  simp only[and_self,decide_true,Bool.not_true] at hn
  have hch:chF (one 20 [] 0 p ks)=if 100<ks.hgt+1 then (([],[]),6,p) else outC (ck (ks.siz+1) 20 [] 0 p ks (s0 p)):=rfl
  have HH:Hid (Bx R 33 #[.slice none 0 0,.slice none 0 0] V0∧Bx (R+1) 28 #[.int .i64 0,.int .i64 0] V0∧Below R w V0∧V0.heap.size=R+2):=⟨R0,F0,hR▸B0,e2⟩
  have HP:Hid (∀v1:World,∀(a:Option Addr) (c:Nat),TN 54 v1 (fun g=>V0.heap.size≤g) 20 [] 0 p (.slice a ks.len c) ks→Below V0.heap.size V0 v1→∀v2,(v1.alloc (.cells #[.int .i64 (20),.string ⟨#[]⟩,.int .i64 (0),.int .i64 (p),.slice a ks.len c] 54)).alloc (.cells #[.int .i64 0,.int .i64 0] 28)=v2→Bx R 33 #[.slice none 0 0,.slice none 0 0] v2∧Bx (R+1) 28 #[.int .i64 0,.int .i64 0] v2∧Below R w v2∧Bx v1.heap.size 54 #[.int .i64 20,.string ⟨#[]⟩,.int .i64 0,.int .i64 p,.slice a ks.len c] v2∧Bx (v1.heap.size+1) 28 #[.int .i64 0,.int .i64 0] v2∧TN 54 v2 (fun g=>V0.heap.size≤g) 20 [] 0 p (.slice a ks.len c) ks∧R+2≤v1.heap.size∧v2.heap.size=v1.heap.size+2):=fun v1 a c hT hB v2 hv2=>by
   have B1:=b2 v1 (.cells #[.int .i64 (20),.string ⟨#[]⟩,.int .i64 (0),.int .i64 (p),.slice a ks.len c] 54) (.cells #[.int .i64 0,.int .i64 0] 28)
   have T1:=(Bx.new v1 54 #[.int .i64 20,.string ⟨#[]⟩,.int .i64 0,.int .i64 p,.slice a ks.len c]).alloc (.cells #[.int .i64 0,.int .i64 0] 28)
   have T2:=(Bx.new (v1.alloc (.cells #[.int .i64 (20),.string ⟨#[]⟩,.int .i64 (0),.int .i64 (p),.slice a ks.len c] 54)) 28 #[.int .i64 0,.int .i64 0])
   have e3:(v1.alloc (.cells #[.int .i64 (20),.string ⟨#[]⟩,.int .i64 (0),.int .i64 (p),.slice a ks.len c] 54)).heap.size=v1.heap.size+1:=by simp
   have e4:((v1.alloc (.cells #[.int .i64 (20),.string ⟨#[]⟩,.int .i64 (0),.int .i64 (p),.slice a ks.len c] 54)).alloc (.cells #[.int .i64 0,.int .i64 0] 28)).heap.size=v1.heap.size+2:=by simp
   rw[e3] at T2
   have BB:Below R w v1:=bthen HH.out.2.2.1 (by have:=HH.out.2.2.2;omega) hB
   have hq:R+2≤v1.heap.size:=by have:=hB.size;have:=HH.out.2.2.2;omega
   rw[hv2] at B1 T1 T2 e4
   exact ⟨(HH.out.1.below hB).below B1,(HH.out.2.1.below hB).below B1,bthen BB (by omega) B1,T1,T2,hT.keep fun g hg hl=>B1.block g hl,hq,e4⟩
  by_cases hh:100<ks.hgt+1
  ·rw[hch,if_pos hh]
   have hh':(100:Int)<((ks.hgt+1:Nat):Int):=by omega
   have hh2:(100:Int)<(ks.hgt:Int)+1:=by omega
   clear hok hokT hzero hz R0 F0 B0 hwf hch
   go_enter Tryz.func9,Tryz.ntmps9
   go_wp2_with fail
   refine P.mono ?_
   rintro e v1 ⟨k',t',n',p',a,c,ks',rfl,hf,hT,hB⟩
   simp only[one,F.cons.injEq] at hf
   obtain ⟨rfl,rfl,rfl,rfl,rfl,-⟩:=hf
   obtain ⟨v2,hv2⟩:∃v2,(v1.alloc (.cells #[.int .i64 (20),.string ⟨#[]⟩,.int .i64 (0),.int .i64 (p),.slice a ks.len c] 54)).alloc (.cells #[.int .i64 0,.int .i64 0] 28)=v2:=⟨_,rfl⟩
   obtain ⟨R2,F2,BB2,T1,T2,hT2,hq,hq2⟩:=HP.out v1 a c hT hB v2 hv2
   have HV2:Hid ((v1.alloc (.cells #[.int .i64 (20),.string ⟨#[]⟩,.int .i64 (0),.int .i64 (p),.slice a ks.len c] 54)).alloc (.cells #[.int .i64 0,.int .i64 0] 28)=v2):=hv2
   clear hv2
   have CHt:=height_any ks.siz ks (Nat.le_refl _) (by omega) v2 _ 20 [] 0 p a c hT2.rw0
   obtain ⟨y0,y1,y2,y3,y4⟩:=T1.five
   have x0:=T2.c 0 _ rfl
   have x1:=T2.c 1 _ rfl
   have HZ:Hid (Bx R 33 #[.slice none 0 0,.slice none 0 0] v2∧Bx (R+1) 28 #[.int .i64 0,.int .i64 0] v2∧Below R w v2∧Bx v1.heap.size 54 #[.int .i64 20,.string ⟨#[]⟩,.int .i64 0,.int .i64 p,.slice a ks.len c] v2∧R+2≤v1.heap.size∧v2.heap.size=v1.heap.size+2):=⟨R2,F2,BB2,T1,hq,hq2⟩
   clear R2 F2 BB2 T1 T2 hT2 hT hB hq hq2 HP HH
   go_wp2_with fail
   rw[HV2.out]
   refine CHt.mono ?_
   rintro e v3 ⟨rfl,hB3⟩
   have HZ:Hid (Bx R 33 #[.slice none 0 0,.slice none 0 0] v3∧Bx (R+1) 28 #[.int .i64 0,.int .i64 0] v3∧Below R w v3∧Bx v1.heap.size 54 #[.int .i64 20,.string ⟨#[]⟩,.int .i64 0,.int .i64 p,.slice a ks.len c] v3):=⟨HZ.out.1.below hB3,HZ.out.2.1.below hB3,bthen HZ.out.2.2.1 (by have:=HZ.out.2.2.2.2;omega) hB3,HZ.out.2.2.2.1.below hB3⟩
   obtain ⟨y0,y1,y2,y3,y4⟩:=HZ.out.2.2.2.five
   have r0:=HZ.out.1.c 0 _ rfl
   have r1:=HZ.out.1.c 1 _ rfl
   have rf0:=HZ.out.1.f 0
   have rf1:=HZ.out.1.f 1
   have q0:=HZ.out.2.1.c 0 _ rfl
   have q1:=HZ.out.2.1.c 1 _ rfl
   have qf0:=HZ.out.2.1.f 0
   have qf1:=HZ.out.2.1.f 1
   have hne1:¬R+1=R:=by omega
   have hne2:¬R=R+1:=by omega
   clear CHt hB3
   go_wp2_with fail
   go_region
   all_goals
    go_wp2
    have D1:=((((HZ.out.1.put (j:=0) (.slice none 0 0)).put (j:=1) (.slice none 0 0)).set (b:=R+1) (o:=0) (by omega) (.int .i64 6)).set (b:=R+1) (o:=1) (by omega) (.int .i64 p))
    have D2:=((((HZ.out.2.1.set (b:=R) (o:=0) (by omega) (.slice none 0 0)).set (b:=R) (o:=1) (by omega) (.slice none 0 0)).put (j:=0) (.int .i64 6)).put (j:=1) (.int .i64 p))
    have D3:=(bset (bset (bset (bset HZ.out.2.2.1 (b:=R) (o:=0) (by omega) (.slice none 0 0)) (b:=R) (o:=1) (by omega) (.slice none 0 0)) (b:=R+1) (o:=0) (by omega) (.int .i64 6)) (b:=R+1) (o:=1) (by omega) (.int .i64 p))
    have D1:=D1.drew
    have D2:=D2.drew
    have D3:=D3.drew
    generalize World.drew _=V3 at D1 D2 D3⊢
    have z0:=D1.c 0 _ rfl
    have z1:=D1.c 1 _ rfl
    have z2:=D2.c 0 _ rfl
    have z3:=D2.c 1 _ rfl
    exact bodyPost_ret (v:= .tuple #[.agg #[.slice none 0 0,.slice none 0 0],.agg #[.int .i64 6,.int .i64 p]]) (by simp[results,Tryz.results9,go_sem,z0,z1,z2,z3]) rfl ⟨_,_,rfl,Rq.nil _ _,hR▸D3⟩
  ·rw[hch,if_neg hh]
   have hh':¬(100:Int)<((ks.hgt+1:Nat):Int):=by omega
   have hh2:¬(100:Int)<(ks.hgt:Int)+1:=by omega
   have hw0:(s0 p).wt=1:=rfl
   have HN:Hid (∀(N:Nat→Prop) b W a c,Ck N b (s0 p) W→Rv W N a ks→(ks.len≤c∧c≤maxLen)→Calls Tryz.prog 23 #[.pointer (some ⟨b,0,none⟩),(.agg #[.int .i64 (20),.string ⟨#[]⟩,.int .i64 (0),.int .i64 (p),.slice a ks.len c])] W (CP N b W (ck (ks.siz+1) 20 [] 0 p ks (s0 p)))):=fun N b W a c hc hv hcc=>nodes_all (ks.siz+1) N b (s0 p) W 20 [] 0 p a c ks hc hv (by omega) hwf hcc (by rw[hw0];omega) (Int.le_refl 0) (by show (0:Int)+((ks.siz:Nat):Int)+1≤1000000;omega)
   generalize ck (ks.siz+1) 20 [] 0 p ks (s0 p)=s1 at *
   have hmm:=@run_makeMap Tryz.prog
   clear hok hokT hzero hz R0 F0 B0 hwf hch hw0
   go_enter Tryz.func9,Tryz.ntmps9
   go_wp2_with fail
   refine P.mono ?_
   rintro e v1 ⟨k',t',n',p',a,c,ks',rfl,hf,hT,hB⟩
   simp only[one,F.cons.injEq] at hf
   obtain ⟨rfl,rfl,rfl,rfl,rfl,-⟩:=hf
   obtain ⟨v2,hv2⟩:∃v2,(v1.alloc (.cells #[.int .i64 (20),.string ⟨#[]⟩,.int .i64 (0),.int .i64 (p),.slice a ks.len c] 54)).alloc (.cells #[.int .i64 0,.int .i64 0] 28)=v2:=⟨_,rfl⟩
   obtain ⟨R2,F2,BB2,T1,T2,hT2,hq,hq2⟩:=HP.out v1 a c hT hB v2 hv2
   have HV2:Hid ((v1.alloc (.cells #[.int .i64 (20),.string ⟨#[]⟩,.int .i64 (0),.int .i64 (p),.slice a ks.len c] 54)).alloc (.cells #[.int .i64 0,.int .i64 0] 28)=v2):=hv2
   clear hv2
   have CHt:=height_any ks.siz ks (Nat.le_refl _) (by omega) v2 _ 20 [] 0 p a c hT2.rw0
   obtain ⟨y0,y1,y2,y3,y4⟩:=T1.five
   have x0:=T2.c 0 _ rfl
   have x1:=T2.c 1 _ rfl
   have HZ:Hid (Bx R 33 #[.slice none 0 0,.slice none 0 0] v2∧Bx (R+1) 28 #[.int .i64 0,.int .i64 0] v2∧Below R w v2∧Bx v1.heap.size 54 #[.int .i64 20,.string ⟨#[]⟩,.int .i64 0,.int .i64 p,.slice a ks.len c] v2∧R+2≤v1.heap.size∧v2.heap.size=v1.heap.size+2):=⟨R2,F2,BB2,T1,hq,hq2⟩
   have HT:Hid (TN 54 v2 (fun g=>V0.heap.size≤g) 20 [] 0 p (.slice a ks.len c) ks):=hT2
   clear R2 F2 BB2 T1 T2 hT2 hT hB hq hq2 HP HH
   go_wp2_with fail
   rw[HV2.out]
   refine CHt.mono ?_
   rintro e v3 ⟨rfl,hB3⟩
   have hv3:v2.heap.size≤v3.heap.size:=hB3.size
   have HZ3:Hid (Bx R 33 #[.slice none 0 0,.slice none 0 0] v3∧Bx (R+1) 28 #[.int .i64 0,.int .i64 0] v3∧Below R w v3∧Bx v1.heap.size 54 #[.int .i64 20,.string ⟨#[]⟩,.int .i64 0,.int .i64 p,.slice a ks.len c] v3∧R+2≤v1.heap.size∧v1.heap.size+2≤v3.heap.size∧TN 54 v3 (fun g=>V0.heap.size≤g) 20 [] 0 p (.slice a ks.len c) ks):=⟨HZ.out.1.below hB3,HZ.out.2.1.below hB3,bthen HZ.out.2.2.1 (by have:=HZ.out.2.2.2.2;omega) hB3,HZ.out.2.2.2.1.below hB3,HZ.out.2.2.2.2.1,by have:=HZ.out.2.2.2.2.2;omega,HT.out.keep fun g hg hl=>hB3.block g hl⟩
   obtain ⟨y0,y1,y2,y3,y4⟩:=HZ3.out.2.2.2.1.five
   have hlt:v1.heap.size<v3.heap.size:=by have:=HZ3.out.2.2.2.2.2.1;omega
   have y3A:∀o,(v3.alloc o).cell? ⟨v1.heap.size,3,none⟩=some (.int .i64 p):=fun o=>(HZ3.out.2.2.2.1.alloc o).c 3 _ rfl
   have y3B:∀o o',((v3.alloc o).alloc o').cell? ⟨v1.heap.size,3,none⟩=some (.int .i64 p):=fun o o'=>((HZ3.out.2.2.2.1.alloc o).alloc o').c 3 _ rfl
   obtain ⟨W4,hW4⟩:∃W4,((v3.alloc (.map #[] 0)).alloc (.cells #[.slice (some ⟨v3.heap.size+1+1,0,none⟩) 1 1,.slice none 0 0,.map (some v3.heap.size),.int .i64 0,.slice none 0 0,.int .i64 0,.slice none 0 0,.int .i64 0,.int .i64 0] 76)).alloc (.cells #[.string ⟨#[]⟩,.int .i64 p,.int .i64 0,.int .i64 0,.slice none 0 0] 43)=W4:=⟨_,rfl⟩
   obtain ⟨K4,kn4⟩:=CK.start v3 p hW4
   have T4:=HZ3.out.2.2.2.1.kn kn4 hlt
   obtain ⟨t0,t1,t2,t3,t4⟩:=T4.five
   have rv3:=HZ3.out.2.2.2.2.2.2.rv
   have rv4:Rv W4 (fun g=>g<v3.heap.size) a ks:=(rv3.monoL fun g _ hl=>hl).kn kn4
   have KN:=HN.out (fun g=>g<v3.heap.size) (v3.heap.size+1) W4 a c K4 rv4 HZ3.out.2.2.2.2.2.2.cap
   have HK4:Hid (Kn (fun g=>g<v3.heap.size) v3 W4):=kn4
   clear CHt hB3 K4 kn4 T4 rv3 rv4 HN HT
   go_wp2_with fail
   refine KN.mono ?_
   rintro e v5 hq
   have kn5:=HK4.out.trans hq.2.2
   obtain ⟨x5,hx5⟩:=hq.2.1
   obtain ⟨rfl,-⟩:=hq
   have hR3:R<v3.heap.size∧R+1<v3.heap.size:=by have:=HZ3.out.2.2.2.2.1;omega
   have B5:Below v3.heap.size v3 v5:=⟨kn5.os,kn5.tape,kn5.output,kn5.size,fun g hg=>kn5.block g hg hg⟩
   have CF:=failed_any hx5
   obtain ⟨aF,cF,eF⟩:=slice_shape hx5.fr
   obtain ⟨aG,cG,eG⟩:=slice_shape hx5.gr
   have c0:v5.cell? ⟨v3.heap.size+1,0,none⟩=some (.slice aF s1.fs.length cF):=by rw[←eF];exact hx5.bx.c 0 _ rfl
   have c1:v5.cell? ⟨v3.heap.size+1,1,none⟩=some (.slice aG s1.gl.length cG):=by rw[←eG];exact hx5.bx.c 1 _ rfl
   have c7:v5.cell? ⟨v3.heap.size+1,7,none⟩=some (.int .i64 s1.cd):=hx5.bx.c 7 _ rfl
   have c8:v5.cell? ⟨v3.heap.size+1,8,none⟩=some (.int .i64 s1.ct):=hx5.bx.c 8 _ rfl
   have HF5:Hid ((∀g,Value.ownBlock (.slice aF s1.fs.length cF)=some g→g≠R∧g≠R+1)∧(∀g,Value.ownBlock (.slice aG s1.gl.length cG)=some g→g≠R∧g≠R+1)∧∀(i:Nat) (v:Value) (g:Nat),x5.vs[i]?=some v→v.ownBlock=some g→(g≠R∧g≠R+1)∧R≤g):=by
    have n1:=(hx5.no R hR3.1).2
    have n2:=(hx5.no (R+1) hR3.2).2
    refine ⟨fun g hg=>?_,fun g hg=>?_,fun i v g hv hg=>?_⟩
    ·rw[←eF] at hg
     have:=hx5.lF g hg
     exact ⟨fun e=>by rw[e] at this;omega,fun e=>by rw[e] at this;omega⟩
    ·rw[←eG] at hg
     have:=hx5.lG g hg
     exact ⟨fun e=>by rw[e] at this;omega,fun e=>by rw[e] at this;omega⟩
    ·have q:=hx5.lc i v g hv hg
     have l:¬g<v3.heap.size:=fun e=>by have:=(hx5.no g e).2;omega
     exact ⟨⟨by omega,by omega⟩,by omega⟩
   have HCK:Hid (v5.ownsRow 0 43 5 (.slice aF s1.fs.length cF) s1.fs.length (fcl s1.fs x5.vs)∧x5.vs.length=s1.fs.length∧(∀(i:Nat) (f:Fn) (v:Value),s1.fs[i]?=some f→x5.vs[i]?=some v→v5.ownsRow 0 79 3 v f.cs.length (vcl f.cs))∧v5.ownsRow 0 9 1 (.slice aG s1.gl.length cG) s1.gl.length (strs s1.gl)):=by
    rw[←eF,←eG]
    exact ⟨hx5.fr,hx5.vl,hx5.cs,hx5.gr⟩
   have HZ5:Hid (Bx R 33 #[.slice none 0 0,.slice none 0 0] v5∧Bx (R+1) 28 #[.int .i64 0,.int .i64 0] v5∧Below R w v5):=⟨HZ3.out.1.below B5,HZ3.out.2.1.below B5,bthen HZ3.out.2.2.1 (by omega) B5⟩
   have r0:=HZ5.out.1.c 0 _ rfl
   have r1:=HZ5.out.1.c 1 _ rfl
   have rf0:=HZ5.out.1.f 0
   have rf1:=HZ5.out.1.f 1
   have q0:=HZ5.out.2.1.c 0 _ rfl
   have q1:=HZ5.out.2.1.c 1 _ rfl
   have qf0:=HZ5.out.2.1.f 0
   have qf1:=HZ5.out.2.1.f 1
   have hne1:¬R+1=R:=by omega
   have hne2:¬R=R+1:=by omega
   have hne3:¬v3.heap.size+1=R:=by omega
   have hne4:¬v3.heap.size+1=R+1:=by omega
   have hne5:¬v3.heap.size=R:=by omega
   clear KN hx5 eF eG kn5 B5 HK4 t0 t1 t2 t3 t4 y0 y1 y2 y3 y4 y3A y3B hlt hv3 HZ3 HZ hW4
   by_cases hb:s1.bad=true
   ·rw[hb] at CF
    have ho:outC s1=(([],[]),s1.cd,s1.ct):=by unfold outC;rw[if_pos hb]
    clear hb
    go_wp2_with fail
    refine CF.mono ?_
    rintro e v6 ⟨rfl,hw6⟩
    rw[hw6]
    clear CF
    go_wp2_with fail
    go_region
    all_goals
     go_wp2
     have D1:=((((HZ5.out.1.put (j:=0) (.slice none 0 0)).put (j:=1) (.slice none 0 0)).set (b:=R+1) (o:=0) (by omega) (.int .i64 s1.cd)).set (b:=R+1) (o:=1) (by omega) (.int .i64 s1.ct))
     have D2:=((((HZ5.out.2.1.set (b:=R) (o:=0) (by omega) (.slice none 0 0)).set (b:=R) (o:=1) (by omega) (.slice none 0 0)).put (j:=0) (.int .i64 s1.cd)).put (j:=1) (.int .i64 s1.ct))
     have D3:=(bset (bset (bset (bset HZ5.out.2.2 (b:=R) (o:=0) (by omega) (.slice none 0 0)) (b:=R) (o:=1) (by omega) (.slice none 0 0)) (b:=R+1) (o:=0) (by omega) (.int .i64 s1.cd)) (b:=R+1) (o:=1) (by omega) (.int .i64 s1.ct))
     have D1:=D1.drew
     have D2:=D2.drew
     have D3:=D3.drew
     generalize World.drew _=V3 at D1 D2 D3⊢
     have z0:=D1.c 0 _ rfl
     have z1:=D1.c 1 _ rfl
     have z2:=D2.c 0 _ rfl
     have z3:=D2.c 1 _ rfl
     exact bodyPost_ret (v:= .tuple #[.agg #[.slice none 0 0,.slice none 0 0],.agg #[.int .i64 s1.cd,.int .i64 s1.ct]]) (by simp[results,Tryz.results9,go_sem,z0,z1,z2,z3]) rfl (by rw[ho];exact ⟨_,_,rfl,Rq.nil _ _,hR▸D3⟩)
   ·have hbf:=Bool.eq_false_iff.2 hb
    rw[hbf] at CF
    have ho:outC s1=((s1.fs,s1.gl),0,0):=by unfold outC;rw[if_neg hb]
    clear hb hbf
    go_wp2_with fail
    refine CF.mono ?_
    rintro e v6 ⟨rfl,hw6⟩
    rw[hw6]
    clear CF
    go_wp2
    have D1:=((((HZ5.out.1.put (j:=0) (.slice aF s1.fs.length cF)).put (j:=1) (.slice aG s1.gl.length cG)).set (b:=R+1) (o:=0) (by omega) (.int .i64 0)).set (b:=R+1) (o:=1) (by omega) (.int .i64 0))
    have D2:=((((HZ5.out.2.1.set (b:=R) (o:=0) (by omega) (.slice aF s1.fs.length cF)).set (b:=R) (o:=1) (by omega) (.slice aG s1.gl.length cG)).put (j:=0) (.int .i64 0)).put (j:=1) (.int .i64 0))
    have D3:=(bset (bset (bset (bset HZ5.out.2.2 (b:=R) (o:=0) (by omega) (.slice aF s1.fs.length cF)) (b:=R) (o:=1) (by omega) (.slice aG s1.gl.length cG)) (b:=R+1) (o:=0) (by omega) (.int .i64 0)) (b:=R+1) (o:=1) (by omega) (.int .i64 0))
    have KR:∀g,g≠R∧g≠R+1→((((v5.setCell ⟨R,0,none⟩ (.slice aF s1.fs.length cF)).setCell ⟨R,1,none⟩ (.slice aG s1.gl.length cG)).setCell ⟨R+1,0,none⟩ (.int .i64 0)).setCell ⟨R+1,1,none⟩ (.int .i64 0)).heap[g]?=v5.heap[g]?:=fun g hg=>(((Below.heap_setCell _ _ _ g (by exact hg.2)).trans (Below.heap_setCell _ _ _ g (by exact hg.2))).trans (Below.heap_setCell _ _ _ g (by exact hg.1))).trans (Below.heap_setCell _ _ _ g (by exact hg.1))
    have D4:Rq w.heap.size ((((v5.setCell ⟨R,0,none⟩ (.slice aF s1.fs.length cF)).setCell ⟨R,1,none⟩ (.slice aG s1.gl.length cG)).setCell ⟨R+1,0,none⟩ (.int .i64 0)).setCell ⟨R+1,1,none⟩ (.int .i64 0)) (.slice aF s1.fs.length cF) (.slice aG s1.gl.length cG) s1.fs s1.gl:=
     ⟨⟨x5.vs,own_keep HCK.out.1 fun g hg=>KR g (HF5.out.1 g hg),HCK.out.2.1,fun i f v hf hv=>own_keep (HCK.out.2.2.1 i f v hf hv) fun g hg=>KR g (HF5.out.2.2 i v g hv hg).1,fun i v g hv hg=>by rw[hR];exact (HF5.out.2.2 i v g hv hg).2⟩,own_keep HCK.out.2.2.2 fun g hg=>KR g (HF5.out.2.1 g hg)⟩
    clear KR
    generalize World.setCell _ _ _=V3 at D1 D2 D3 D4⊢
    have z0:=D1.c 0 _ rfl
    have z1:=D1.c 1 _ rfl
    have z2:=D2.c 0 _ rfl
    have z3:=D2.c 1 _ rfl
    exact bodyPost_ret (v:= .tuple #[.agg #[.slice aF s1.fs.length cF,.slice aG s1.gl.length cG],.agg #[.int .i64 0,.int .i64 0]]) (by simp[results,Tryz.results9,go_sem,z0,z1,z2,z3]) rfl (by rw[ho];exact ⟨_,_,rfl,D4,hR▸D3⟩)
 ·rw[if_neg hc]
  have hn:=neq27 cd ct 0 0
  have hd:decide (cd=0∧ct=0)=false:=by simp[hc]
  rw[hd] at hn
  have hcb:(cd==0)=false:=by simpa using hc
  have HH:Hid (Bx R 33 #[.slice none 0 0,.slice none 0 0] V0∧Bx (R+1) 28 #[.int .i64 0,.int .i64 0] V0∧Below R w V0∧V0.heap.size=R+2):=⟨R0,F0,hR▸B0,e2⟩
  clear hok hzero hz R0 F0 B0
  go_enter Tryz.func9,Tryz.ntmps9
  go_wp2_with fail
  refine P.mono ?_
  rintro e v1 ⟨k,t,n,p,a,c,ks,rfl,hf,hT,hB⟩
  have R1:=HH.out.1.below hB
  have F1:=HH.out.2.1.below hB
  have T1:=Bx.new v1 54 #[.int .i64 k,.string ⟨t.toArray⟩,.int .i64 n,.int .i64 p,.slice a ks.len c]
  have T2:=(Bx.new (v1.alloc (.cells #[.int .i64 (k),.string ⟨(t).toArray⟩,.int .i64 (n),.int .i64 (p),.slice a ks.len c] 54)) 28 #[.int .i64 cd,.int .i64 ct])
  have e3:(v1.alloc (.cells #[.int .i64 (k),.string ⟨(t).toArray⟩,.int .i64 (n),.int .i64 (p),.slice a ks.len c] 54)).heap.size=v1.heap.size+1:=by simp
  rw[e3] at T2
  have B1:=b2 v1 (.cells #[.int .i64 (k),.string ⟨(t).toArray⟩,.int .i64 (n),.int .i64 (p),.slice a ks.len c] 54) (.cells #[.int .i64 cd,.int .i64 ct] 28)
  have R2:=R1.below B1
  have F2:=F1.below B1
  have hsz:R+2≤v1.heap.size:=by have:=hB.size;have:=HH.out.2.2.2;omega
  have BB:Below R w v1:=bthen HH.out.2.2.1 (by have:=HH.out.2.2.2;omega) hB
  have BB2:=bthen BB (by omega) B1
  obtain ⟨v2,hv2⟩:∃v2,(v1.alloc (.cells #[.int .i64 (k),.string ⟨(t).toArray⟩,.int .i64 (n),.int .i64 (p),.slice a ks.len c] 54)).alloc (.cells #[.int .i64 cd,.int .i64 ct] 28)=v2:=⟨_,rfl⟩
  rw[hv2] at T2 R2 F2 BB2
  have x0:=T2.c 0 _ rfl
  have x1:=T2.c 1 _ rfl
  have r0:=R2.c 0 _ rfl
  have r1:=R2.c 1 _ rfl
  have rf0:=R2.f 0
  have rf1:=R2.f 1
  have q0:=F2.c 0 _ rfl
  have q1:=F2.c 1 _ rfl
  have qf0:=F2.f 0
  have qf1:=F2.f 1
  have hne1:¬R+1=R:=by omega
  have hne2:¬R=R+1:=by omega
  have hne3:¬v1.heap.size+1=R:=by omega
  have hne4:¬v1.heap.size+1=R+1:=by omega
  have HZ:Hid (Bx R 33 #[.slice none 0 0,.slice none 0 0] v2∧Bx (R+1) 28 #[.int .i64 0,.int .i64 0] v2∧Below R w v2):=⟨R2,F2,BB2⟩
  clear T1 T2 R1 F1 R2 F2 B1 BB BB2 hT hB hf e3 hsz HH
  go_wp2_with fail
  go_region
  all_goals
   go_wp2
   have D1:=((((HZ.out.1.put (j:=0) (.slice none 0 0)).put (j:=1) (.slice none 0 0)).set (b:=R+1) (o:=0) (by omega) (.int .i64 cd)).set (b:=R+1) (o:=1) (by omega) (.int .i64 ct)).drew
   have D2:=((((HZ.out.2.1.set (b:=R) (o:=0) (by omega) (.slice none 0 0)).set (b:=R) (o:=1) (by omega) (.slice none 0 0)).put (j:=0) (.int .i64 cd)).put (j:=1) (.int .i64 ct)).drew
   have D3:=(bset (bset (bset (bset HZ.out.2.2 (b:=R) (o:=0) (by omega) (.slice none 0 0)) (b:=R) (o:=1) (by omega) (.slice none 0 0)) (b:=R+1) (o:=0) (by omega) (.int .i64 cd)) (b:=R+1) (o:=1) (by omega) (.int .i64 ct)).drew
   generalize World.drew _=V3 at D1 D2 D3⊢
   have z0:=D1.c 0 _ rfl
   have z1:=D1.c 1 _ rfl
   have z2:=D2.c 0 _ rfl
   have z3:=D2.c 1 _ rfl
   exact bodyPost_ret (v:= .tuple #[.agg #[.slice none 0 0,.slice none 0 0],.agg #[.int .i64 cd,.int .i64 ct]]) (by simp[results,Tryz.results9,go_sem,z0,z1,z2,z3]) rfl ⟨_,_,rfl,Rq.nil _ _,hR▸D3⟩
end Go.Proofs.YtkjbgggghigapaaGreat


namespace Go.Proofs.YtkjbgggghigapaaGreat
open Go.RowKit
def GnP (w:World) (l:Tx) (e:Ending) (w':World):Prop:=∃vU vG S U,e= .returned (.tuple #[.agg #[vU,vG],.agg #[.int .i64 (chT l).2.1,.int .i64 (chT l).2.2]])∧Gp w' vU vG (genU l S U) (genG l)∧Below w.heap.size w w'
theorem own_ty {w:World} {e z:Nat} {v:Value} {n:Nat} {xs:List Value} (h:w.ownsRow 0 e z v n xs) {g:Nat} (hg:v.ownBlock=some g):∃cur,w.heap[g]?=some (.cells cur e (0,0)):=by
 rcases h.2 with ⟨e,_⟩ | ⟨g',cap,cur,e,_,hb,_⟩
 ·rw[e] at hg;simp[Value.ownBlock] at hg
 ·rw[e] at hg
  have q:g'=g:=by simpa [Value.ownBlock] using hg
  rw[←q];exact ⟨cur,hb⟩
theorem ty_ne {w:World} {g:Nat} {a b:Array Value} {e f:Nat} (h:w.heap[g]?=some (.cells a e (0,0))) (k:w.heap[g]?=some (.cells b f (0,0))):e=f:=by
 rw[h] at k
 injection k with k
 injection k
theorem cdS_unF:∀fs:List Fn,cdS (unF fs)=0
 | []=>rfl
 | f::fs=>by
   have:=cdS_unF fs
   show 0+cdS (unF fs)=0
   omega
def chS (l:Tx) (p:Int) (ks:F) (S U:Nat):Gs:=gad 25 0 0 0 (gad 22 0 0 0 (gn (lfT l) ((prT l).1.siz+1) .blk 20 [] 0 p ks {gsS (chT l).1.1 (chT l).1.2 S U with cu:=0,be:=1,lo:=[],br:=[]}))
theorem chS_eq {l:Tx} {p:Int} {ks:F} (hf:(prT l).1=one 20 [] 0 p ks) (S U:Nat):genS l S U={chS l p ks S U with cu:=0,lo:=[],br:=[]}∧(chS l p ks S U).gS=S∧(chS l p ks S U).gU=U:=by
 have e:genS l S U={chS l p ks S U with cu:=0,lo:=[],br:=[]}:=by
  unfold genS mkU chS
  rw[ndK_get _ .blk (k:=20) (t:=[]) (n:=0) (p:=p) (kk:=ks) (by rw[hf];rfl)]
  rfl
 have m:=(mo_mkU (mo_gn (lfT l) ((prT l).1.siz+1)) .nil (prT l).1 0 (gsS (chT l).1.1 (chT l).1.2 S U)).gh
 have m':(genS l S U).gS=S∧(genS l S U).gU=U:=m
 rw[e] at m'
 exact ⟨e,m'⟩
theorem chunk_call {l:Tx} {p:Int} {ks:F} (hf:(prT l).1=one 20 [] 0 p ks) (hwf:(one 20 [] 0 p ks).wfG l=true) (h20:l.length≤20000) (hsz:ks.siz≤60010) (hfl:(chT l).1.1.length=1+ks.z31) (hcs:∀f∈(chT l).1.1,f.cs.length≤2000000) (No:Nat→Prop) (x:Gx) (W:World) (a:Option Addr) (c:Nat) (h:SK No l x (gsS (chT l).1.1 (chT l).1.2 x.S x.U) W) (hr:Rv W No a ks) (hcc:ks.len≤c∧c≤maxLen):
 Calls Tryz.prog 22 #[.pointer (some ⟨x.S,0,none⟩),.slice none 0 0,(.agg #[.int .i64 20,.string ⟨#[]⟩,.int .i64 0,.int .i64 p,.slice a ks.len c])] W fun e w'=>e= .returned (.tuple #[])∧(∃y,SK No l y (chS l p ks x.S x.U) w')∧Kn No W w':=by
 have HF:∀a b,0≤lfT l a b∧lfT l a b≤30000:=fun a b=>by have:=lfT_rng l a b;omega
 obtain ⟨-,-,CB,-⟩:=jobs_any h20 ((prT l).1.siz+1)
 obtain ⟨-,-,HB,-⟩:=gw_gn (L:=l) HF ((prT l).1.siz+1)
 have hz:=z31_1 20 [] 0 p ks
 rw[if_neg (by decide)] at hz
 have hN:ks.siz<(prT l).1.siz+1:=by rw[hf];simp only[one,F.siz];omega
 have hul:(unF (chT l).1.1).length=(chT l).1.1.length:=by simp[unF]
 have hL:Okg l (ks.siz+1) (one 20 [] 0 p ks).z31 {gsS (chT l).1.1 (chT l).1.2 x.S x.U with cu:=0,be:=1,lo:=[],br:=[]}:=by
  refine ⟨?_,fun i u hu=>?_,?_,?_,⟨Int.le_refl _,by show (0:Int)≤_;omega⟩,?_⟩
  ·show cdS (unF (chT l).1.1)+0+0+16 * (ks.siz+1)≤_
   rw[cdS_unF];omega
  ·have q:(unF (chT l).1.1)[i]?=some u:=hu
   unfold unF at q
   rw[List.getElem?_map] at q
   obtain ⟨f,hf,rfl⟩:∃f,(chT l).1.1[i]?=some f∧(⟨f.nm,f.pa,f.sl,f.cs,[]⟩:Gu)=u:=by simpa using q
   exact hcs f (List.mem_of_getElem? hf)
  ·show 0<(unF (chT l).1.1).length;omega
  ·show 1+(one 20 [] 0 p ks).z31≤(unF (chT l).1.1).length;omega
  ·show 30000 * (((ks.siz+1:Nat):Int))≤(1:Int)+1000000000000∧(1:Int)+30000 * (((ks.siz+1:Nat):Int))≤1000000000000
   omega
 exact makeUnit_any HB CB No l x (gsS (chT l).1.1 (chT l).1.2 x.S x.U) W 20 [] 0 p a c ks none 0 .nil rfl h hr ⟨[],.nil,fun h=>absurd rfl h⟩ hN hwf hcc (by show 0<(unF (chT l).1.1).length;omega) (Nat.zero_le _) _ rfl hL
set_option maxRecDepth 20000 in
set_option maxHeartbeats 16000000 in
theorem Gen_go (l:Tx) (HCk:∀w,Calls Tryz.prog 9 #[.string ⟨l.toArray⟩] w (ChQ w (chT l))) (HPa:∀w,Calls Tryz.prog 16 #[.string ⟨l.toArray⟩] w fun e W'=>∃k t n p a c ks,e= .returned (.tuple #[(.agg #[.int .i64 (k),.string ⟨(t).toArray⟩,.int .i64 (n),.int .i64 (p),.slice a ks.len c]),.agg #[.int .i64 (prT l).2.1,.int .i64 (prT l).2.2]])∧(prT l).1=one k t n p ks∧TN 54 W' (fun g=>w.heap.size≤g) k t n p (.slice a ks.len c) ks∧Below w.heap.size w W') (w:World):
 Calls Tryz.prog 8 #[.string ⟨l.toArray⟩] w (GnP w l):=by
 have R0:=(Bx.new w 25 #[.slice none 0 0,.slice none 0 0]).alloc (.cells #[.int .i64 0,.int .i64 0] 28)
 have F0:=Bx.new (w.alloc (.cells #[.slice none 0 0,.slice none 0 0] 25)) 28 #[.int .i64 0,.int .i64 0]
 have e1:(w.alloc (.cells #[.slice none 0 0,.slice none 0 0] 25)).heap.size=w.heap.size+1:=by simp
 have e2:((w.alloc (.cells #[.slice none 0 0,.slice none 0 0] 25)).alloc (.cells #[.int .i64 0,.int .i64 0] 28)).heap.size=w.heap.size+2:=by simp
 have B0:=b2 w (.cells #[.slice none 0 0,.slice none 0 0] 25) (.cells #[.int .i64 0,.int .i64 0] 28)
 rw[e1] at F0
 obtain ⟨R,hR⟩:∃R,w.heap.size=R:=⟨_,rfl⟩
 obtain ⟨V0,hV0⟩:∃V0,(w.alloc (.cells #[.slice none 0 0,.slice none 0 0] 25)).alloc (.cells #[.int .i64 0,.int .i64 0] 28)=V0:=⟨_,rfl⟩
 rw[hV0] at R0 F0 e2 B0
 rw[hR] at R0 F0 e2
 have CQ:=HCk V0
 have HH:Hid (Bx R 25 #[.slice none 0 0,.slice none 0 0] V0∧Bx (R+1) 28 #[.int .i64 0,.int .i64 0] V0∧Below R w V0∧V0.heap.size=R+2):=⟨R0,F0,hR▸B0,e2⟩
 by_cases hok:okRep l=true
 ·have hz:(chT l).2.1=0∧(chT l).2.2=0:=by unfold okRep at hok;simpa using hok
  obtain ⟨hp0,p,ks,hf,hwf,hsz,hfl,hfn,hcs,hgn,hgt⟩:=chT_fit l hz.1 hz.2
  have hn:=neq27 0 0 0 0
  simp only[and_self,decide_true,Bool.not_true] at hn
  have h20:=prT_len hp0
  have HCU:Hid (∀(No:Nat→Prop) (x:Gx) (W:World) (a:Option Addr) (c B:Nat),x.S=B→SK No l x (gsS (chT l).1.1 (chT l).1.2 x.S x.U) W→Rv W No a ks→(ks.len≤c∧c≤maxLen)→Calls Tryz.prog 22 #[.pointer (some ⟨B,0,none⟩),.slice none 0 0,(.agg #[.int .i64 20,.string ⟨#[]⟩,.int .i64 0,.int .i64 p,.slice a ks.len c])] W fun e w'=>e= .returned (.tuple #[])∧(∃y,SK No l y (chS l p ks x.S x.U) w')∧Kn No W w'):=fun No x W a c B hB h1 h2 h3=>by
   have q:=chunk_call hf hwf h20 hsz hfl hcs No x W a c h1 h2 h3
   rw[show (⟨x.S,0,none⟩:Addr)=⟨B,0,none⟩ by rw[hB]] at q
   exact q
  have hEr:Hid (∀S U,genU l S U=(chS l p ks S U).us∧genG l=(chT l).1.2∧(chS l p ks S U).gS=S∧(chS l p ks S U).gU=U∧(chT l).2.1=0∧(chT l).2.2=0):=fun S U=>by
   obtain ⟨q1,q2,q3⟩:=chS_eq hf S U
   refine ⟨?_,?_,q2,q3,hz.1,hz.2⟩
   ·unfold genU;rw[if_pos hok,q1]
   ·unfold genG;rw[if_pos hok]
  have HHf:Hid ((prT l).1=one 20 [] 0 p ks):=hf
  have HFN:Hid ((chT l).1.1.length=1+ks.z31∧(chT l).1.1.length≤1000000∧(chT l).1.2.length≤1000000∧∀t∈(chT l).1.2,t.length≤20000):=⟨hfl,hfn,hgn,hgt⟩
  unfold ChQ at CQ
  rw[hz.1,hz.2] at CQ
  obtain ⟨pt,hpt⟩:∃z,(prT l).2.2=z:=⟨_,rfl⟩
  rw[hp0,hpt] at HPa
  clear R0 F0 B0 hz hok hf hwf hsz hfl hfn hcs hgn hgt h20 hp0 hpt HCk
  go_enter Tryz.func8,Tryz.ntmps8
  go_wp2_with fail
  refine CQ.mono ?_
  rintro e v1 ⟨vF,vG,rfl,hQ,hB⟩
  obtain ⟨vs,hQ1,hQ2,hQ3,hQ4⟩:=hQ.fr
  have hQ5:=hQ.gr
  obtain ⟨aF,cF,rfl⟩:=row_form hQ1
  obtain ⟨aG,cG,rfl⟩:=row_form hQ5
  have R1:=HH.out.1.below hB
  have F1:=HH.out.2.1.below hB
  have T1:=(Bx.new v1 33 #[.slice aF (chT l).1.1.length cF,.slice aG (chT l).1.2.length cG]).alloc (.cells #[.int .i64 0,.int .i64 0] 28)
  have T2:=(Bx.new (v1.alloc (.cells #[.slice aF (chT l).1.1.length cF,.slice aG (chT l).1.2.length cG] 33)) 28 #[.int .i64 0,.int .i64 0])
  have e3:(v1.alloc (.cells #[.slice aF (chT l).1.1.length cF,.slice aG (chT l).1.2.length cG] 33)).heap.size=v1.heap.size+1:=by simp
  have e4:((v1.alloc (.cells #[.slice aF (chT l).1.1.length cF,.slice aG (chT l).1.2.length cG] 33)).alloc (.cells #[.int .i64 0,.int .i64 0] 28)).heap.size=v1.heap.size+2:=by simp
  rw[e3] at T2
  have B1:=b2 v1 (.cells #[.slice aF (chT l).1.1.length cF,.slice aG (chT l).1.2.length cG] 33) (.cells #[.int .i64 0,.int .i64 0] 28)
  have hsz:R+2≤v1.heap.size:=by have:=hB.size;have:=HH.out.2.2.2;omega
  have BB:Below R w v1:=bthen HH.out.2.2.1 (by have:=HH.out.2.2.2;omega) hB
  obtain ⟨v2,hv2⟩:∃v2,(v1.alloc (.cells #[.slice aF (chT l).1.1.length cF,.slice aG (chT l).1.2.length cG] 33)).alloc (.cells #[.int .i64 0,.int .i64 0] 28)=v2:=⟨_,rfl⟩
  rw[hv2] at T1 T2 e4 B1
  have x0:=T2.c 0 _ rfl
  have x1:=T2.c 1 _ rfl
  have P:=HPa v2
  have hcb:∀(i:Nat) (v:Value) (g:Nat),vs[i]?=some v→v.ownBlock=some g→R+2≤g∧g<v1.heap.size:=fun i v g hi hg=>by
   obtain ⟨f,hf⟩:∃f,(chT l).1.1[i]?=some f:=⟨_,List.getElem?_eq_getElem (by rw[←hQ2];exact (List.getElem?_eq_some_iff.1 hi).1)⟩
   have q:=hQ4 i v g hi hg
   rw[HH.out.2.2.2] at q
   exact ⟨q,((hQ3 i f v hf hi).lt g hg).2⟩
  have H2:Hid ((Bx R 25 #[.slice none 0 0,.slice none 0 0] v2∧Bx (R+1) 28 #[.int .i64 0,.int .i64 0] v2∧Below R w v2)∧Bx v1.heap.size 33 #[.slice aF (chT l).1.1.length cF,.slice aG (chT l).1.2.length cG] v2∧v2.heap.size=v1.heap.size+2∧R+2≤v1.heap.size):=⟨⟨R1.below B1,F1.below B1,bthen BB (by omega) B1⟩,T1,e4,hsz⟩
  have H3:Hid (v2.ownsRow 0 43 5 (.slice aF (chT l).1.1.length cF) (chT l).1.1.length (fcl (chT l).1.1 vs)∧vs.length=(chT l).1.1.length∧(∀(i:Nat) (f:Fn) (v:Value),(chT l).1.1[i]?=some f→vs[i]?=some v→v2.ownsRow 0 79 3 v f.cs.length (vcl f.cs))∧v2.ownsRow 0 9 1 (.slice aG (chT l).1.2.length cG) (chT l).1.2.length (strs (chT l).1.2)∧∀(i:Nat) (v:Value) (g:Nat),vs[i]?=some v→v.ownBlock=some g→R+2≤g∧g<v1.heap.size):=⟨own_keep hQ1 fun g hg=>B1.block g (hQ1.lt g hg).2,hQ2,fun i f v hf hv=>own_keep (hQ3 i f v hf hv) fun g hg=>B1.block g ((hQ3 i f v hf hv).lt g hg).2,own_keep hQ5 fun g hg=>B1.block g (hQ5.lt g hg).2,hcb⟩
  have HV2:Hid ((v1.alloc (.cells #[.slice aF (chT l).1.1.length cF,.slice aG (chT l).1.2.length cG] 33)).alloc (.cells #[.int .i64 0,.int .i64 0] 28)=v2):=hv2
  clear T1 T2 R1 F1 B1 BB hB e3 e4 hsz HH CQ hQ hQ1 hQ2 hQ3 hQ4 hQ5 hcb HPa hv2
  go_wp2_with fail
  rw[HV2.out]
  refine P.mono ?_
  rintro e v3 ⟨k',t',n',p',a,c,ks',rfl,hf',hT,hB3⟩
  rw[HHf.out] at hf'
  simp only[one,F.cons.injEq] at hf'
  obtain ⟨rfl,rfl,rfl,rfl,rfl,-⟩:=hf'
  obtain ⟨fs,hfs⟩:∃z,(chT l).1.1=z:=⟨_,rfl⟩
  obtain ⟨gl,hgl⟩:∃z,(chT l).1.2=z:=⟨_,rfl⟩
  have hcc:=hT.cap
  have T3:=(Bx.new v3 54 #[.int .i64 20,.string ⟨#[]⟩,.int .i64 0,.int .i64 p,.slice a ks.len c]).alloc (.cells #[.int .i64 0,.int .i64 pt] 28)
  have e3:((v3.alloc (.cells #[.int .i64 20,.string ⟨#[]⟩,.int .i64 0,.int .i64 p,.slice a ks.len c] 54)).alloc (.cells #[.int .i64 0,.int .i64 pt] 28)).heap.size=v3.heap.size+2:=by simp
  have B3:=b2 v3 (.cells #[.int .i64 20,.string ⟨#[]⟩,.int .i64 0,.int .i64 p,.slice a ks.len c] 54) (.cells #[.int .i64 0,.int .i64 pt] 28)
  obtain ⟨v4,hv4⟩:∃v4,(v3.alloc (.cells #[.int .i64 20,.string ⟨#[]⟩,.int .i64 0,.int .i64 p,.slice a ks.len c] 54)).alloc (.cells #[.int .i64 0,.int .i64 pt] 28)=v4:=⟨_,rfl⟩
  rw[hv4] at T3 e3 B3
  have B4:Below v2.heap.size v2 v4:=bthen hB3 hB3.size B3
  have hs3:=hB3.size
  have Y33:=H2.out.2.1.below B4
  have y0:v4.cell? ⟨v1.heap.size,0,none⟩=some (.slice aF fs.length cF):=by rw[←hfs];exact Y33.c 0 _ rfl
  have y1:v4.cell? ⟨v1.heap.size,1,none⟩=some (.slice aG gl.length cG):=by rw[←hgl];exact Y33.c 1 _ rfl
  have y0R:((v3.alloc (.cells #[.int .i64 20,.string ⟨#[]⟩,.int .i64 0,.int .i64 p,.slice a ks.len c] 54)).alloc (.cells #[.int .i64 0,.int .i64 pt] 28)).cell? ⟨v1.heap.size,0,none⟩=some (.slice aF fs.length cF):=by rw[hv4];exact y0
  have y1R:((v3.alloc (.cells #[.int .i64 20,.string ⟨#[]⟩,.int .i64 0,.int .i64 p,.slice a ks.len c] 54)).alloc (.cells #[.int .i64 0,.int .i64 pt] 28)).cell? ⟨v1.heap.size,1,none⟩=some (.slice aG gl.length cG):=by rw[hv4];exact y1
  have rF:v4.ownsRow 0 43 5 (.slice aF fs.length cF) fs.length (fcl fs vs):=by rw[←hfs];exact own_keep H3.out.1 fun g hg=>B4.block g (H3.out.1.lt g hg).2
  have rC:∀(i:Nat) (f:Fn) (v:Value),fs[i]?=some f→vs[i]?=some v→v4.ownsRow 0 79 3 v f.cs.length (vcl f.cs):=fun i f v hf hv=>own_keep (H3.out.2.2.1 i f v (by rw[hfs];exact hf) hv) fun g hg=>B4.block g ((H3.out.2.2.1 i f v (by rw[hfs];exact hf) hv).lt g hg).2
  have rG:v4.ownsRow 0 9 1 (.slice aG gl.length cG) gl.length (strs gl):=by rw[←hgl];exact own_keep H3.out.2.2.2.1 fun g hg=>B4.block g (H3.out.2.2.2.1.lt g hg).2
  have hvl:vs.length=fs.length:=by rw[←hfs];exact H3.out.2.1
  have hFN:fs.length=1+ks.z31∧fs.length≤1000000∧gl.length≤1000000∧∀t∈gl,t.length≤20000:=by rw[←hfs,←hgl];exact HFN.out
  have NS:=newSource_any v4 l (.slice aF fs.length cF) (.slice aG gl.length cG) vs fs gl rF hvl rC rG hFN.2.2.2 (by omega) (by omega)
  have H4:Hid (Bx v3.heap.size 54 #[.int .i64 20,.string ⟨#[]⟩,.int .i64 0,.int .i64 p,.slice a ks.len c] v4∧v4.heap.size=v3.heap.size+2∧Below v2.heap.size v2 v4∧TN 54 v3 (fun g=>v2.heap.size≤g) 20 [] 0 p (.slice a ks.len c) ks∧Below v3.heap.size v3 v4∧fs.length≠0∧vs.length=fs.length∧(chT l).1.1=fs∧(chT l).1.2=gl):=⟨T3,e3,B4,hT,B3,by omega,hvl,hfs,hgl⟩
  have HC4:Hid (∀(i:Nat) (f:Fn) (v:Value),fs[i]?=some f→vs[i]?=some v→v4.ownsRow 0 79 3 v f.cs.length (vcl f.cs)):=rC
  have HG4:Hid (v4.ownsRow 0 9 1 (.slice aG gl.length cG) gl.length (strs gl)):=rG
  have HV4:Hid ((v3.alloc (.cells #[.int .i64 20,.string ⟨#[]⟩,.int .i64 0,.int .i64 p,.slice a ks.len c] 54)).alloc (.cells #[.int .i64 0,.int .i64 pt] 28)=v4):=hv4
  simp only[hfs,hgl]
  clear T3 e3 B3 B4 Y33 rF rC rG hvl hFN hT hB3 hfs hgl P x0 x1 hn hv4
  go_wp2_with fail
  rw[HV4.out]
  refine NS.mono ?_
  rintro e v5 ⟨rfl,vU,hNu⟩
  have h4s:=H4.out.2.1
  have h2s:=H2.out.2.2.1
  have h2R:=H2.out.2.2.2
  have h42:=H4.out.2.2.1.size
  obtain ⟨x,hxS,hsk⟩:=hNu.sk H4.out.2.2.2.2.2.1 H4.out.2.2.2.2.2.2.1 HC4.out
  have T5:=H4.out.1.below hNu.be
  obtain ⟨t0,t1,t2,t3,t4⟩:=T5.five
  have hKc:∀g,g<v4.heap.size→(g<R+2∨v1.heap.size≤g)→Kept vs v4.heap.size g:=fun g hg hb=>⟨hg,fun v hv e=>by
   obtain ⟨i,hi⟩:=List.getElem?_of_mem hv
   have:=H3.out.2.2.2.2 i v g hi e
   omega⟩
  have hs3:=H4.out.2.2.2.2.1.size
  have hrv:Rv v5 (Kept vs v4.heap.size) a ks:=by
   have q3:=H4.out.2.2.2.1.rv.monoL (Q:=Kept vs v4.heap.size) (fun g hg hl=>hKc g (by omega) (.inr (Nat.le_trans (by omega) (show v2.heap.size≤g from hg))))
   exact q3.kn (.of_below (bthen H4.out.2.2.2.2.1 hs3 hNu.be))
  have hgs:gsS fs gl x.S x.U=gsS (chT l).1.1 (chT l).1.2 x.S x.U:=by rw[H4.out.2.2.2.2.2.2.2.1,H4.out.2.2.2.2.2.2.2.2]
  rw[hgs] at hsk
  have CU:=HCU.out (Kept vs v4.heap.size) x v5 a c _ hxS hsk hrv hcc
  have H5:Hid (Below v4.heap.size v4 v5∧(∀g,g<v4.heap.size→(g<R+2∨v1.heap.size≤g)→Kept vs v4.heap.size g)∧x.S=v4.heap.size+2):=⟨hNu.be,hKc,hxS⟩
  clear hNu hsk T5 hKc hrv hgs hxS NS y0 y1 y0R y1R h4s h2s h2R h42 hs3
  go_wp2_with fail
  refine CU.mono ?_
  rintro e v6 ⟨rfl,⟨y,hy⟩,hk⟩
  obtain ⟨E1,E2,E3,E4,E5,E6⟩:=hEr.out x.S x.U
  have eS:y.S=v4.heap.size+2:=hy.gh.1.trans (E3.trans H5.out.2.2)
  obtain ⟨aU,cU,eU⟩:=row_form hy.ur
  have h4s:=H4.out.2.1
  have h2s:=H2.out.2.2.1
  have h2R:=H2.out.2.2.2
  have h42:=H4.out.2.2.1.size
  have hs3:=H4.out.2.2.2.2.1.size
  have h45:=H5.out.1.size
  have hKb:∀g,g<v4.heap.size→(g<R+2∨v1.heap.size≤g)→v6.heap[g]?=v4.heap[g]?:=fun g hg hb=>(hk.block g (by omega) (H5.out.2.1 g hg hb)).trans (H5.out.1.block g hg)
  have hKl:∀g,g<v4.heap.size→(g<R+2∨v1.heap.size≤g)→y.lab g=0:=fun g hg hb=>(hy.no g (H5.out.2.1 g hg hb)).2
  have R6:Bx R 25 #[.slice none 0 0,.slice none 0 0] v6:=⟨(hKb R (by omega) (.inl (by omega))).trans (H2.out.1.1.below H4.out.2.2.1).blk⟩
  have F6:Bx (R+1) 28 #[.int .i64 0,.int .i64 0] v6:=⟨(hKb (R+1) (by omega) (.inl (by omega))).trans (H2.out.1.2.1.below H4.out.2.2.1).blk⟩
  have Y6:Bx v1.heap.size 33 #[.slice aF (chT l).1.1.length cF,.slice aG (chT l).1.2.length cG] v6:=⟨(hKb v1.heap.size (by omega) (.inr (by omega))).trans (H2.out.2.1.below H4.out.2.2.1).blk⟩
  have y1:v6.cell? ⟨v1.heap.size,1,none⟩=some (.slice aG gl.length cG):=by rw[←H4.out.2.2.2.2.2.2.2.2];exact Y6.c 1 _ rfl
  have c1:v6.cell? ⟨v4.heap.size+2,1,none⟩=some (.slice aU (chS l p ks x.S x.U).us.length cU):=by rw[←eS,←eU];exact hy.sx.c 1 _ rfl
  have BB:Below R w v6:=⟨hk.os.trans (H5.out.1.os.trans (H4.out.2.2.1.os.trans H2.out.1.2.2.os)),hk.tape.trans (H5.out.1.tape.trans (H4.out.2.2.1.tape.trans H2.out.1.2.2.tape)),hk.output.trans (H5.out.1.output.trans (H4.out.2.2.1.output.trans H2.out.1.2.2.output)),by have:=H2.out.1.2.2.size;have:=hk.size;omega,fun g hg=>(hKb g (by omega) (.inl (by omega))).trans ((H4.out.2.2.1.block g (by omega)).trans (H2.out.1.2.2.block g hg))⟩
  have rG:v6.ownsRow 0 9 1 (.slice aG gl.length cG) gl.length (strs gl):=own_keep HG4.out fun g hg=>by
   obtain ⟨cur,hcur⟩:=own_ty HG4.out hg
   refine (hk.block g (Nat.lt_of_lt_of_le (HG4.out.lt g hg).2 h45) ⟨(HG4.out.lt g hg).2,fun v hv e=>?_⟩).trans (H5.out.1.block g (HG4.out.lt g hg).2)
   obtain ⟨i,hi⟩:=List.getElem?_of_mem hv
   obtain ⟨f,hf⟩:∃f,fs[i]?=some f:=⟨_,List.getElem?_eq_getElem (by rw[←H4.out.2.2.2.2.2.2.1];exact (List.getElem?_eq_some_iff.1 hi).1)⟩
   obtain ⟨cur2,hcur2⟩:=own_ty (HC4.out i f v hf hi) e
   exact absurd (ty_ne hcur hcur2) (by decide)
  have nG:∀g,(Value.slice aG gl.length cG).ownBlock=some g→g≠R∧g≠R+1:=fun g hg=>by
   obtain ⟨cur,hcur⟩:=own_ty rG hg
   refine ⟨fun e=>?_,fun e=>?_⟩
   ·rw[e,R6.blk] at hcur
    injection hcur with q
    injection q with _ q
    exact absurd q (by decide)
   ·rw[e,F6.blk] at hcur
    injection hcur with q
    injection q with _ q
    exact absurd q (by decide)
  have l0:=hKl R (by omega) (.inl (by omega))
  have l1:=hKl (R+1) (by omega) (.inl (by omega))
  have nl:∀g,y.lab g≠0→g≠R∧g≠R+1:=fun g hg=>⟨fun e=>hg (by rw[e];exact l0),fun e=>hg (by rw[e];exact l1)⟩
  have HGp:Hid (∀V:World,(∀g,g≠R∧g≠R+1→V.heap[g]?=v6.heap[g]?)→Below R w V→GnP w l (.returned (.tuple #[.agg #[.slice aU (chS l p ks x.S x.U).us.length cU,.slice aG gl.length cG],.agg #[.int .i64 0,.int .i64 0]])) V):=fun V hV hb=>by
   refine ⟨_,_,x.S,x.U,by rw[E5,E6],?_,by rw[hR];exact hb⟩
   rw[E1,E2,H4.out.2.2.2.2.2.2.2.2]
   refine ⟨⟨y.vc,y.vk,?_,hy.cl,hy.kl,fun i u v hu hv=>own_keep (hy.cr i u v hu hv) fun g hg=>hV g (nl g (by rw[hy.lc i v g hv hg];decide)),fun i u v hu hv=>own_keep (hy.kr i u v hu hv) fun g hg=>hV g (nl g (by rw[hy.lk i v g hv hg];omega))⟩,own_keep rG fun g hg=>hV g (nG g hg)⟩
   rw[←eU]
   exact own_keep hy.ur fun g hg=>hV g (nl g (by have e:=hy.ub.symm.trans hg;injection e with e;rw[←e,hy.lU];decide))
  have r0:=R6.c 0 _ rfl
  have r1:=R6.c 1 _ rfl
  have rf0:=R6.f 0
  have rf1:=R6.f 1
  have q0:=F6.c 0 _ rfl
  have q1:=F6.c 1 _ rfl
  have qf0:=F6.f 0
  have qf1:=F6.f 1
  have hne1:¬R+1=R:=by omega
  have hne2:¬R=R+1:=by omega
  have hne3:¬v1.heap.size=R:=by omega
  have hne4:¬v1.heap.size=R+1:=by omega
  have hne5:¬v4.heap.size+2=R:=by omega
  have hne6:¬v4.heap.size+2=R+1:=by omega
  have HZ:Hid (Bx R 25 #[.slice none 0 0,.slice none 0 0] v6∧Bx (R+1) 28 #[.int .i64 0,.int .i64 0] v6∧Below R w v6):=⟨R6,F6,BB⟩
  generalize (chS l p ks x.S x.U).us.length=nU at *
  clear hy hk E1 E2 E3 E4 E5 E6 eS eU h4s h2s h2R h42 hs3 h45 hKb hKl R6 F6 Y6 BB rG nG l0 l1 nl t0 t1 t2 t3 t4 CU
  go_wp2_with fail
  go_region
  all_goals
   go_wp2
   have D1:=((((HZ.out.1.put (j:=0) (.slice aU nU cU)).put (j:=1) (.slice aG gl.length cG)).set (b:=R+1) (o:=0) (by omega) (.int .i64 0)).set (b:=R+1) (o:=1) (by omega) (.int .i64 0))
   have D2:=((((HZ.out.2.1.set (b:=R) (o:=0) (by omega) (.slice aU nU cU)).set (b:=R) (o:=1) (by omega) (.slice aG gl.length cG)).put (j:=0) (.int .i64 0)).put (j:=1) (.int .i64 0))
   have D3:=(belowSet (belowSet (belowSet (belowSet HZ.out.2.2 (b:=R) (o:=0) (by omega) (.slice aU nU cU)) (b:=R) (o:=1) (by omega) (.slice aG gl.length cG)) (b:=R+1) (o:=0) (by omega) (.int .i64 0)) (b:=R+1) (o:=1) (by omega) (.int .i64 0))
   have D4:∀g,g≠R∧g≠R+1→((((v6.setCell ⟨R,0,none⟩ (.slice aU nU cU)).setCell ⟨R,1,none⟩ (.slice aG gl.length cG)).setCell ⟨R+1,0,none⟩ (.int .i64 0)).setCell ⟨R+1,1,none⟩ (.int .i64 0)).drew.heap[g]?=v6.heap[g]?:=fun g hg=>(((Below.heap_setCell _ _ _ g (by exact hg.2)).trans (Below.heap_setCell _ _ _ g (by exact hg.2))).trans (Below.heap_setCell _ _ _ g (by exact hg.1))).trans (Below.heap_setCell _ _ _ g (by exact hg.1))
   have D1:=D1.drew
   have D2:=D2.drew
   have D3:=D3.drew
   generalize World.drew _=V3 at D1 D2 D3 D4⊢
   have z0:=D1.c 0 _ rfl
   have z1:=D1.c 1 _ rfl
   have z2:=D2.c 0 _ rfl
   have z3:=D2.c 1 _ rfl
   exact bodyPost_ret (v:=.tuple #[.agg #[.slice aU nU cU,.slice aG gl.length cG],.agg #[.int .i64 0,.int .i64 0]]) (by simp[results,Tryz.results8,go_sem,z0,z1,z2,z3]) rfl (HGp.out _ D4 D3)
 ·have hn:=neq27 (chT l).2.1 (chT l).2.2 0 0
  have hz:¬((chT l).2.1=0∧(chT l).2.2=0):=by unfold okRep at hok;simpa using hok
  have hd:decide ((chT l).2.1=0∧(chT l).2.2=0)=false:=by simpa using hz
  rw[hd] at hn
  have hEr:Hid (∀S U,genU l S U=[]∧genG l=[]):=fun S U=>by unfold genU genG;rw[if_neg hok,if_neg hok];exact ⟨rfl,rfl⟩
  obtain ⟨cd,hcd⟩:∃z,(chT l).2.1=z:=⟨_,rfl⟩
  obtain ⟨ct,hct⟩:∃z,(chT l).2.2=z:=⟨_,rfl⟩
  have HGP:Hid (∀v,Below R w v→GnP w l (.returned (.tuple #[.agg #[.slice none 0 0,.slice none 0 0],.agg #[.int .i64 cd,.int .i64 ct]])) v):=fun v hb=>by
   refine ⟨_,_,0,0,by rw[hcd,hct],?_,by rw[hR];exact hb⟩
   rw[(hEr.out 0 0).1,(hEr.out 0 0).2]
   exact Gp.nil _
  unfold ChQ at CQ
  rw[hcd,hct] at hn CQ
  clear R0 F0 B0 hz hd hok hEr hcd hct HCk HPa
  go_enter Tryz.func8,Tryz.ntmps8
  go_wp2_with fail
  refine CQ.mono ?_
  rintro e v1 ⟨vF,vG,rfl,hQ,hB⟩
  obtain ⟨vs,hQ1,-⟩:=hQ.fr
  obtain ⟨aF,cF,rfl⟩:=row_form hQ1
  obtain ⟨aG,cG,rfl⟩:=row_form hQ.gr
  clear hQ hQ1
  generalize (chT l).1.1.length=nF at *
  generalize (chT l).1.2.length=nG at *
  have R1:=HH.out.1.below hB
  have F1:=HH.out.2.1.below hB
  have T2:=(Bx.new (v1.alloc (.cells #[.slice aF nF cF,.slice aG nG cG] 33)) 28 #[.int .i64 cd,.int .i64 ct])
  have e3:(v1.alloc (.cells #[.slice aF nF cF,.slice aG nG cG] 33)).heap.size=v1.heap.size+1:=by simp
  rw[e3] at T2
  have B1:=b2 v1 (.cells #[.slice aF nF cF,.slice aG nG cG] 33) (.cells #[.int .i64 cd,.int .i64 ct] 28)
  have R2:=R1.below B1
  have F2:=F1.below B1
  have hsz:R+2≤v1.heap.size:=by have:=hB.size;have:=HH.out.2.2.2;omega
  have BB:Below R w v1:=bthen HH.out.2.2.1 (by have:=HH.out.2.2.2;omega) hB
  have BB2:=bthen BB (by omega) B1
  obtain ⟨v2,hv2⟩:∃v2,(v1.alloc (.cells #[.slice aF nF cF,.slice aG nG cG] 33)).alloc (.cells #[.int .i64 cd,.int .i64 ct] 28)=v2:=⟨_,rfl⟩
  rw[hv2] at T2 R2 F2 BB2
  have x0:=T2.c 0 _ rfl
  have x1:=T2.c 1 _ rfl
  have r0:=R2.c 0 _ rfl
  have r1:=R2.c 1 _ rfl
  have rf0:=R2.f 0
  have rf1:=R2.f 1
  have q0:=F2.c 0 _ rfl
  have q1:=F2.c 1 _ rfl
  have qf0:=F2.f 0
  have qf1:=F2.f 1
  have hne1:¬R+1=R:=by omega
  have hne2:¬R=R+1:=by omega
  have hne3:¬v1.heap.size+1=R:=by omega
  have hne4:¬v1.heap.size+1=R+1:=by omega
  have HZ:Hid (Bx R 25 #[.slice none 0 0,.slice none 0 0] v2∧Bx (R+1) 28 #[.int .i64 0,.int .i64 0] v2∧Below R w v2):=⟨R2,F2,BB2⟩
  clear T2 R1 F1 R2 F2 B1 BB BB2 hB e3 hsz HH CQ
  go_wp2_with fail
  go_region
  all_goals
   go_wp2
   have D1:=((((HZ.out.1.put (j:=0) (.slice none 0 0)).put (j:=1) (.slice none 0 0)).set (b:=R+1) (o:=0) (by omega) (.int .i64 cd)).set (b:=R+1) (o:=1) (by omega) (.int .i64 ct))
   have D2:=((((HZ.out.2.1.set (b:=R) (o:=0) (by omega) (.slice none 0 0)).set (b:=R) (o:=1) (by omega) (.slice none 0 0)).put (j:=0) (.int .i64 cd)).put (j:=1) (.int .i64 ct))
   have D3:=(belowSet (belowSet (belowSet (belowSet HZ.out.2.2 (b:=R) (o:=0) (by omega) (.slice none 0 0)) (b:=R) (o:=1) (by omega) (.slice none 0 0)) (b:=R+1) (o:=0) (by omega) (.int .i64 cd)) (b:=R+1) (o:=1) (by omega) (.int .i64 ct))
   have D1:=D1.drew
   have D2:=D2.drew
   have D3:=D3.drew
   generalize World.drew _=V3 at D1 D2 D3⊢
   have z0:=D1.c 0 _ rfl
   have z1:=D1.c 1 _ rfl
   have z2:=D2.c 0 _ rfl
   have z3:=D2.c 1 _ rfl
   exact bodyPost_ret (v:=.tuple #[.agg #[.slice none 0 0,.slice none 0 0],.agg #[.int .i64 cd,.int .i64 ct]]) (by simp[results,Tryz.results8,go_sem,z0,z1,z2,z3]) rfl (HGP.out _ D3)
theorem Gen_any (l:Tx) (hl:l.length≤9223372036854775807) (w:World):Calls Tryz.prog 8 #[.string ⟨l.toArray⟩] w (GnP w l):=by
 have hs:(⟨l.toArray⟩:ByteArray).size≤9223372036854775807:=by show l.toArray.size≤_;simpa using hl
 have hd:(⟨l.toArray⟩:ByteArray).data.toList=l:=by simp
 refine Gen_go l (fun w=>?_) (fun w=>?_) w
 ·have q:=Checkq_any ⟨l.toArray⟩ w hs
  rw[hd] at q
  exact q
 ·have q:=parse_any ⟨l.toArray⟩ w hs
  rw[hd] at q
  exact q
end Go.Proofs.YtkjbgggghigapaaGreat


namespace Go.Proofs.YtkjbgggghigapaaGreat
open Go.RowKit
def spnF:Nat→(Nat→Bool)→List UInt8→Nat
 | 0,_,_=>0
 | _+1,_,[]=>0
 | n+1,f,c::t=>if f (rnL (c::t)) then wdL (c::t)+spnF n f (t.drop (wdL (c::t) - 1)) else 0
theorem spnF_eq (f:Nat→Bool):∀(n:Nat) (l:List UInt8),l.length≤n→spnF n f l=spn f l
 | 0,l,h=>by
   have :l=[]:=List.eq_nil_of_length_eq_zero (by omega)
   subst this;rw[spn_nil];rfl
 | n+1,[],_=>by rw[spn_nil];rfl
 | n+1,c::t,h=>by
   rw[spn,spnF]
   split
   ·rw[spnF_eq f n _ (by rw[List.length_drop];simp at h;omega)]
   ·rfl
def qtF:Nat→UInt8→List UInt8→Nat→List UInt8→QR
 | 0,_,_,_,_=>.bad 4 0
 | _+1,_,[],_,_=>.bad 4 0
 | n+1,q,c::t,i,acc=>
   if c.toNat=10 then .bad 4 0
   else if c=q then (if 10000<acc.length then .bad 14 0 else .ok acc (i+1))
   else if c.toNat=92 then
    if t=[] then .bad 4 0
    else if (esc t).2=0 then .bad 4 i
    else qtF n q (t.drop (esc t).2) (i+1+(esc t).2) (acc++(esc t).1)
   else qtF n q t (i+1) (acc++[c])
theorem qtF_eq (q:UInt8):∀(n:Nat) (l:List UInt8) (i:Nat) (acc:List UInt8),l.length≤n→qtF n q l i acc=qt q l i acc
 | 0,l,i,acc,h=>by
   have :l=[]:=List.eq_nil_of_length_eq_zero (by omega)
   subst this;rw[qt_nil];rfl
 | n+1,[],i,acc,_=>by rw[qt_nil];rfl
 | n+1,c::t,i,acc,h=>by
   simp only[List.length_cons] at h
   rw[qt,qtF]
   rw[qtF_eq q n _ _ _ (show (t.drop (esc t).2).length≤n by rw[List.length_drop];omega),qtF_eq q n t _ _ (by omega)]
def stpF (l:List UInt8):St:=
 if rnL l=32∨rnL l=9∨rnL l=10∨rnL l=13 then .skip 1
 else if Lib.hasPrefix l [45,45] then .skip (spnF l.length (fun r=>decide (r≠10)) l)
 else if letB (rnL l) then
  if 40<spnF l.length inNm l then .bad 14 0
  else .tok (if wordB (l.take (spnF l.length inNm l)) then 2 else 1) (l.take (spnF l.length inNm l)) 0 (spnF l.length inNm l)
 else if digB (rnL l) then
  if W.parE (l.take (spnF l.length inNm l))≠0 then .bad (W.parE (l.take (spnF l.length inNm l))) 0
  else .tok 3 (l.take (spnF l.length inNm l)) (W.parN (l.take (spnF l.length inNm l))) (spnF l.length inNm l)
 else if rnL l=39∨rnL l=34 then
  match qtF (l.drop 1).length (l.headD 0) (l.drop 1) 1 [] with
  | .ok v n=>.tok 4 v 0 n
  | .bad c o=>.bad c o
 else if sgz l=0 then .bad 4 0
 else .tok 5 (l.take (sgz l)) 0 (sgz l)
theorem stpF_eq (l:List UInt8):stpF l=stp l:=by
 unfold stpF stp
 rw[spnF_eq _ _ _ (Nat.le_refl _),spnF_eq _ _ _ (Nat.le_refl _),qtF_eq _ _ _ _ _ (Nat.le_refl _)]
 rfl
def scnF:Nat→List UInt8→Nat→List Tok→Res
 | 0,_,p,acc=>.ok (acc++[⟨6,[],0,p⟩])
 | _+1,[],p,acc=>.ok (acc++[⟨6,[],0,p⟩])
 | m+1,c::u,p,acc=>
   match stpF (c::u) with
   | .skip n=>scnF m (u.drop (n - 1)) (p+n) acc
   | .tok k t v n=>scnF m (u.drop (n - 1)) (p+n) (acc++[⟨k,t,v,p⟩])
   | .bad d o=>.bad d (p+o)
theorem scnF_eq:∀(m:Nat) (l:List UInt8) (p:Nat) (acc:List Tok),l.length≤m→scnF m l p acc=scn l p acc
 | 0,l,p,acc,h=>by
   have :l=[]:=List.eq_nil_of_length_eq_zero (by omega)
   subst this;rw[scn_nil];rfl
 | m+1,[],p,acc,_=>by rw[scn_nil];rfl
 | m+1,c::u,p,acc,h=>by
   simp only[List.length_cons] at h
   rw[scn,scnF,stpF_eq]
   cases stp (c::u) with
   | skip n=>simp only;rw[scnF_eq m _ _ _ (by rw[List.length_drop];omega)]
   | tok k t v n=>simp only;rw[scnF_eq m _ _ _ (by rw[List.length_drop];omega)]
   | bad d o=>rfl
def scTF (l:List UInt8):List Tok×Int×Int:=
 if 20000<l.length then ([],14,-1) else match scnF l.length l 0 [] with | .ok ts=>(ts,0,0) | .bad c p=>([],c,p)
theorem scTF_eq (l:List UInt8):scTF l=scT l:=by
 have h:=scnF_eq l.length l 0 [] (Nat.le_refl _)
 unfold scTF scT
 split
 ·rfl
 ·cases hs:scn l 0 [] with
  | ok ts=>rw[hs] at h;simp only[h]
  | bad c p=>rw[hs] at h;simp only[h]
def prTF (l:List UInt8):F×Int×Int:=if (scTF l).2.1≠0 then (noF,(scTF l).2.1,(scTF l).2.2) else outT (chk (scTF l).1)
theorem prTF_eq (l:List UInt8):prTF l=prT l:=by unfold prTF prT;rw[scTF_eq]
def chTF (l:List UInt8):(List Fn×List Tx)×Int×Int:=if (prTF l).2.1=0 then chF (prTF l).1 else (([],[]),(prTF l).2.1,(prTF l).2.2)
theorem chTF_eq (l:List UInt8):chTF l=chT l:=by unfold chTF chT;rw[prTF_eq]
end Go.Proofs.YtkjbgggghigapaaGreat
