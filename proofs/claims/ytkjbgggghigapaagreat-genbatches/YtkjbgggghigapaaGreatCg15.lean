import Derived.Test.YtkjbgggghigapaaGreatCg14
namespace Go.Proofs.YtkjbgggghigapaaGreat
open Go.RowKit
set_option maxRecDepth 20000 in
set_option maxHeartbeats 16000000 in
theorem makeUnit_any {L:Tx} {N:Nat} {nd:Jg→Ndg} (HB:∀k t n p ks s,(one k t n p ks).wfG L=true→Gw L ks.siz (one k t n p ks).z31 0 s (nd .blk k t n p ks s)) (CB:GN 32 L N (nd .blk)) (No:Nat→Prop) (tx:Tx) (x:Gx) (s:Gs) (W:World) (k:Int) (t:Tx) (n p:Int) (a:Option Addr) (c:Nat) (ks:F) (a2:Option Addr) (c2:Nat) (pr:F) (hT:Hid (tx=L)) (h:SK No tx x s W) (hr:Rv W No a ks) (hpr:Rv W No a2 pr) (hs:ks.siz<N) (hw:(one k t n p ks).wfG L=true) (hcc:ks.len≤c∧c≤maxLen) (hbe:s.be<s.us.length) (hpl:pr.len≤6000000) (s0:Gs) (hs0:brg pr {s with cu:=s.be,be:=s.be+1,lo:=[],br:=[]}=s0) (hL:Okg L (ks.siz+1) (one k t n p ks).z31 s0):
 Calls Tryz.prog 22 #[.pointer (some ⟨x.S,0,none⟩),.slice a2 pr.len c2,(.agg #[.int .i64 (k),.string ⟨(t).toArray⟩,.int .i64 (n),.int .i64 (p),.slice a ks.len c])] W fun e w'=>e= .returned (.tuple #[])∧(∃y,SK No tx y (gad 25 0 0 0 (gad 22 0 0 0 (nd .blk k t n p ks s0))) w')∧Kn No W w':=by
 have hbn:s.us.length≤maxLen:=by
  rcases h.ur.2 with ⟨_,e⟩ | ⟨g',cap,cur,_,_,_,e4,e5,_⟩
  ·omega
  ·omega
 obtain ⟨cU,hU⟩:∃n,x.vU= .slice (some ⟨x.U,0,none⟩) s.us.length n:=by
  rcases h.ur.2 with ⟨e,_⟩ | ⟨g',cap,cur,e,_⟩
  ·have:=h.ub;rw[e] at this;simp[Value.ownBlock] at this
  ·have q:=h.ub
   rw[e] at q
   have e4:g'=x.U:=by simpa [Value.ownBlock] using q
   exact ⟨cap,by rw[e,e4]⟩
 obtain ⟨M,hM⟩:∃M,W.heap.size=M:=⟨_,rfl⟩
 obtain ⟨W1,hW1⟩:∃W1,W.alloc (.cells #[.int .i64 (k),.string ⟨(t).toArray⟩,.int .i64 (n),.int .i64 (p),.slice a ks.len c] 54)=W1:=⟨_,rfl⟩
 have B1:Below W.heap.size W W1:=by rw[←hW1];exact b1 _ _
 have X1:Bx M 54 #[.int .i64 (k),.string ⟨(t).toArray⟩,.int .i64 (n),.int .i64 (p),.slice a ks.len c] W1:=by rw[←hW1,←hM];exact Bx.new _ _ _
 have S1:W1.heap.size=M+1:=by rw[←hW1,←hM];simp
 have hsx:=h.sx.below B1
 have d0:W1.cell? ⟨x.S,0,none⟩=some (.string ⟨tx.toArray⟩):=hsx.c 0 _ rfl
 have d1:W1.cell? ⟨x.S,1,none⟩=some (.slice (some ⟨x.U,0,none⟩) s.us.length cU):=by rw[←hU];exact hsx.c 1 _ rfl
 have d2:W1.cell? ⟨x.S,2,none⟩=some (.int .i64 (s.be:Nat)):=hsx.c 2 _ rfl
 have d1A:∀o,(W1.alloc o).cell? ⟨x.S,1,none⟩=some (.slice (some ⟨x.U,0,none⟩) s.us.length cU):=fun o=>by rw[←hU];exact (hsx.alloc o).c 1 _ rfl
 have d2A:∀o,(W1.alloc o).cell? ⟨x.S,2,none⟩=some (.int .i64 (s.be:Nat)):=fun o=>(hsx.alloc o).c 2 _ rfl
 have hb':(s.be:Int)<(s.us.length:Int):=by omega
 have wb:IntKind.i64.wrap ((s.be:Int)+1)=(s.be:Int)+1:=by rw[IntKind.wrap_i64];unfold maxLen at hbn;omega
 have HB0:Hid (SK No tx x s W∧Rv W No a ks∧Rv W No a2 pr∧Below W.heap.size W W1∧Bx M 54 #[.int .i64 (k),.string ⟨(t).toArray⟩,.int .i64 (n),.int .i64 (p),.slice a ks.len c] W1):=⟨h,hr,hpr,B1,X1⟩
 clear h hr hpr B1 X1 hsx hU
 go_enter Tryz.func22,Tryz.ntmps22
 go_wp2_with fail
 go_region
 obtain ⟨W2,hW2⟩:∃W2,(W1.alloc (.cells #[.pointer (some ⟨x.S,0,none⟩),.pointer (some ⟨x.U,s.be * 5,none⟩),.slice none 0 0,.slice none 0 0] 101)).drew=W2:=⟨_,rfl⟩
 rw[hW2]
 have BL:Below W.heap.size W W2:=by
  rw[←hW2]
  exact (bthen HB0.out.2.2.2.1 HB0.out.2.2.2.1.size (b1 W1 _)).drew
 have XM:Bx (M+1) 101 #[.pointer (some ⟨x.S,0,none⟩),.pointer (some ⟨x.U,s.be * 5,none⟩),.slice none 0 0,.slice none 0 0] W2:=by
  rw[←hW2,←S1]
  exact (Bx.new W1 101 #[.pointer (some ⟨x.S,0,none⟩),.pointer (some ⟨x.U,s.be * 5,none⟩),.slice none 0 0,.slice none 0 0]).drew
 have XB:Bx M 54 #[.int .i64 (k),.string ⟨(t).toArray⟩,.int .i64 (n),.int .i64 (p),.slice a ks.len c] W2:=by
  rw[←hW2]
  exact (HB0.out.2.2.2.2.alloc _).drew
 have S2:W2.heap.size=M+2:=by
  have:=XM.lt
  rw[←hW2] at this⊢
  simp only[World.drew,World.size_alloc] at this⊢
  omega
 have GF:=HB0.out.1.fresh BL (by omega) XM hbe
 have GL:=GF.less (No':=fun g=>No g∨g=M) (fun g e=>e.imp id fun e=>⟨by omega,by omega,by omega⟩)
 have GB:=GL.begin (s.be+1)
 have e9:((s.be+1:Nat):Int)=(s.be:Int)+1:=by omega
 rw[e9] at GB
 have d2:W2.cell? ⟨x.S,2,none⟩=some (.int .i64 (s.be:Nat)):=GL.sx.c 2 _ rfl
 have f2:W2.frozen? ⟨x.S,2,none⟩=false:=GL.sx.f 2
 obtain ⟨W3,hW3⟩:∃W3,W2.setCell ⟨x.S,2,none⟩ (.int .i64 ((s.be:Int)+1))=W3:=⟨_,rfl⟩
 have GB1:Gk (fun g=>No g∨g=M) (M+1) tx {s with cu:=s.be,be:=s.be+1,lo:=[],br:=[]} W3:=by rw[←hW3];exact ⟨_,GB.1⟩
 have KB:Kn (fun g=>No g∨g=M) W2 W3:=by rw[←hW3];exact GB.2
 have K3:Kn No W W3:=(Kn.of_below BL).trans (KB.mono fun _ _ e=>.inl e)
 have C1:=bringG_any (fun g=>No g∨g=M) (M+1) tx _ W3 a2 c2 pr GB1 ((HB0.out.2.2.1.kn K3).mono fun _ e=>.inl e) (by show 0+pr.len≤_;omega)
 rw[hs0] at C1
 have HK:Hid (Kn No W W3∧Bx M 54 #[.int .i64 (k),.string ⟨(t).toArray⟩,.int .i64 (n),.int .i64 (p),.slice a ks.len c] W3∧Rv W No a ks):=⟨K3,XB.kn KB (.inr rfl),HB0.out.2.1⟩
 have OB:Okg L 1 0 (nd .blk k t n p ks s0):=Okg.step (y:=ks.siz) (f:=(one k t n p ks).z31) (hL.mono (Nat.le_refl _) (by omega)) ((HB k t n p ks s0 hw).gb (Nat.le_refl _) (by omega) (Nat.le_refl _))
 have lB:=OB.code
 have lG:=gad_len 22 0 0 0 (nd .blk k t n p ks s0)
 clear GF GL GB GB1 KB K3 BL XM XB HB0 e9 hW2 S1 S2 OB
 go_wp2_with fail
 refine C1.mono ?_
 rintro e w4 ⟨rfl,hq1,hq2⟩
 have X4:=HK.out.2.1.kn hq2 (.inr rfl)
 have K4:=HK.out.1.trans (hq2.mono fun _ _ e=>.inl e)
 obtain ⟨x0,x1,x2,x3,x4⟩:=X4.five
 have C2:=CB (fun g=>No g∨g=M) (M+1) tx s0 w4 k t n p a c ks hT hq1 ((HK.out.2.2.kn K4).mono fun _ e=>.inl e) hs hw hcc hL
 have HK4:Hid (Kn No W w4):=K4
 clear C1 hq1 hq2 X4 K4 d2 f2
 go_wp2_with fail
 refine C2.mono ?_
 rintro e w5 ⟨rfl,hq1,hq2⟩
 have HK5:Hid (Kn No W w5):=HK4.out.trans (hq2.mono fun _ _ e=>.inl e)
 have C3:=hq1.add0 22 (by omega)
 clear C2 hq1 hq2 x0 x1 x2 x3 x4
 go_wp2_with fail
 refine C3.mono ?_
 rintro e w6 ⟨rfl,hq1,hq2⟩
 have HK6:Hid (Kn No W w6):=HK5.out.trans (hq2.mono fun _ _ e=>.inl e)
 have C4:=hq1.add0 25 (by omega)
 clear C3 hq1 hq2
 go_wp2_with fail
 refine C4.mono ?_
 rintro e w7 ⟨rfl,hq1,hq2⟩
 have HF:Hid ((∃y,SK No tx y (gad 25 0 0 0 (gad 22 0 0 0 (nd .blk k t n p ks s0))) w7)∧Kn No W w7):=⟨by obtain ⟨y,hy⟩:=hq1;exact ⟨y,(hy.less fun _ e=>.inl e).sk⟩,HK6.out.trans (hq2.mono fun _ _ e=>.inl e)⟩
 clear C4 hq1 hq2
 go_wp2
 go_end0
 exact ⟨rfl,HF.out⟩
end Go.Proofs.YtkjbgggghigapaaGreat


namespace Go.Proofs.YtkjbgggghigapaaGreat
open Go.RowKit
theorem put_oth (c:List In) (s:Gs):(s.put c).be=s.be∧(s.put c).gl=s.gl∧(s.put c).gS=s.gS∧(s.put c).gU=s.gU∧(s.put c).br=s.br:=by unfold Gs.put;cases s.us[s.cu]?<;>exact ⟨rfl,rfl,rfl,rfl,rfl⟩
theorem Okg.unit {L:Tx} {z f y g:Nat} {s:Gs} (pr:F) (h:Okg L z (f+1) s) (hz:pr.len+16 * y≤16 * z) (_hy:y≤z) (hg:g≤f):Okg L y g (brg pr {s with cu:=s.be,be:=s.be+1,lo:=[],br:=[]}):=by
 obtain ⟨q1,q2,q3,q4,q5,q6,q7⟩:=brg_oth pr {s with cu:=s.be,be:=s.be+1,lo:=[],br:=[]}
 have hw:=brg_wt pr {s with cu:=s.be,be:=s.be+1,lo:=[],br:=[]}
 have hb:=h.be
 have hl:=h.ln
 refine ⟨?_,fun i u hu=>h.cs i u (by rw[q1] at hu;exact hu),?_,?_,?_,?_⟩
 ·have q:=h.wt
  have e:({s with cu:=s.be,be:=s.be+1,lo:=[],br:=[]}:Gs).wt=cdS s.us+0+0:=rfl
  unfold Gs.wt at q
  rw[hw,e];omega
 ·rw[q2,q1];show s.be<s.us.length;omega
 ·rw[q3,q1];show s.be+1+g≤s.us.length;omega
 ·rw[q5];exact h.pl
 ·rw[q6];show 30000 * (y:Int)≤s.ln+1000000000000∧s.ln+30000 * (y:Int)≤1000000000000;omega
theorem SK.re {No:Nat→Prop} {t:Tx} {x:Gx} {s:Gs} {w:World} (h:SK No t x s w) (c:Nat) (l:List Tx) (b:List Int):SK No t x {s with cu:=c,lo:=l,br:=b} w:=⟨h.sx,h.ur,h.mp,h.cr,h.kr,h.cl,h.kl,h.ub,h.lS,h.lU,h.lm,h.lc,h.lk,h.no,h.gh⟩
theorem brk_grow {No:Nat→Prop} {b:Nat} {t:Tx} {x y:Gx} {s s2:Gs} {W W1 w1 w2:World} {X:Nat} {cur:Array Value} (h:Gy No b t s W X cur W1) (e1:Kn (fun g=>No g∨g=X) W1 w1) (hy:GK (fun g=>No g∨g=X) b t y s2 w2) (hS:Sam x y) (hk:Kn (fun g=>No g∨g=X) w1 w2) (j:Int):
 Hid (∀gg cc w3,w3.ownsRow 0 3 1 (.slice (some ⟨gg,0,none⟩) (s2.br.length+1) cc) (s2.br.length+1) (nts s2.br++[.int .i64 j])→(w2.alloc (.cells #[.int .i64 j] 3)).grownBy w3 x.vB.ownBlock→(x.vB.ownBlock=some gg∨gg=(w2.alloc (.cells #[.int .i64 j] 3)).heap.size)→
  w3.frozen? ⟨b,3,none⟩=false∧w3.cell? ⟨b,3,none⟩=some x.vB∧Hid (GP No b t W {s2 with br:=s2.br++[j]} (.returned (.tuple #[])) (w3.setCell ⟨b,3,none⟩ (.slice (some ⟨gg,0,none⟩) (s2.br.length+1) cc)))∧(w3.setCell ⟨b,3,none⟩ (.slice (some ⟨gg,0,none⟩) (s2.br.length+1) cc)).frozen? ⟨b,3,none⟩=false):=fun gg cc w3 hown hg3 hat=>by
 have eB:y.vB=x.vB:=hS.2.2.2.2
 have hb3:Bx b 101 (mcl y s2) w3:=⟨(hg3.block b (Nat.lt_of_lt_of_le hy.lt (by simp)) (fun e=>by have:=hy.lB b (by rw[eB];exact e.symm);have:=hy.lb;omega)).trans (hy.mx.alloc _).blk⟩
 have hA:=hy.appB (ys:=[j]) (w1:=w2.alloc (.cells #[.int .i64 j] 3)) (b1 _ _) hown (by rw[eB];exact hg3) (by rw[eB];exact hat)
 obtain ⟨⟨z,hz⟩,hK⟩:=hA
 refine ⟨hb3.f 3,by rw[←eB];exact hb3.c 3 _ rfl,⟨rfl,⟨z,hz.less fun _ e=>.inl e⟩,?_⟩,hz.mx.f 3⟩
 exact h.kn.trans (((e1.trans hk).trans hK).mono fun _ _ e=>.inl e)
set_option maxRecDepth 20000 in
set_option maxHeartbeats 32000000 in
theorem g_statement_any {L:Tx} {N:Nat} {nd:Jg→Ndg} (H:GG L (nd .val)) (HC:∀r,GG L (nd (.cal r))) (HBk:∀k t n p ks s,(one k t n p ks).wfG L=true→Gw L ks.siz (one k t n p ks).z31 0 s (nd .blk k t n p ks s)) (M:∀j k t n p ks s,Mo s (nd j k t n p ks s)) (CE:GN 109 L N (nd .val)) (CC:GC L N fun x=>nd (.cal x)) (CB:GN 32 L N (nd .blk)) (No:Nat→Prop) (b:Nat) (tx:Tx) (s:Gs) (W:World) (k:Int) (t:Tx) (n p:Int) (a:Option Addr) (c:Nat) (ks:F) (hT:Hid (tx=L)) (h:Gk No b tx s W) (hr:Rv W No a ks) (hs:ks.siz≤N) (hwf:(one k t n p ks).wfG L=true) (hcc:ks.len≤c∧c≤maxLen) (hL:Okg L (ks.siz+1) (one k t n p ks).z31 s):
 Calls Tryz.prog 47 #[.pointer (some ⟨b,0,none⟩),(.agg #[.int .i64 (k),.string ⟨(t).toArray⟩,.int .i64 (n),.int .i64 (p),.slice a ks.len c])] W (GP No b tx W (staG nd k t n ks s)):=by
 obtain ⟨har,-,htl,hw⟩:=F.wfG_one hwf
 have HBg:GG L (nd .blk):=fun k t n p ks s h=>(HBk k t n p ks s h).gb (by omega) (by omega) (by omega)
 have HBs:∀k t n p ks s,(one k t n p ks).wfG L=true→Gb L ks.siz (one k t n p ks).z31 s (nd .blk k t n p ks s):=fun k t n p ks s h=>(HBk k t n p ks s h).gb (by omega) (by omega) (by omega)
 have HR:BR (nd .blk):=fun k t n p ks s hc hb=>(M .blk k t n p ks s).bo hc hb
 have HLO:=fun k t n p ks s=>(M .blk k t n p ks s).lo
 have HLV:=fun k t n p ks s=>(M .val k t n p ks s).lo
 have HLX:=fun (r:F) s=>(mo_exa M 3 r s).lo
 have H8:=HC (-1)
 have hL31:Hid (Okg L (ks.siz+1) (one k t n p ks).z31 s):=hL
 have hz1:=z31_1 k t n p ks
 replace hL:=hL.mono (y:=ks.siz+1) (f:=ks.z31) (Nat.le_refl _) (by omega)
 have hlen:=ks.len_siz
 have hcd:=hL.code
 have hlo:=hL.los
 have B:=h.gy #[.int .i64 k,.string ⟨t.toArray⟩,.int .i64 n,.int .i64 p,.slice a ks.len c]
 obtain ⟨X,hX⟩:∃X,W.heap.size=X:=⟨_,rfl⟩
 obtain ⟨W1,hW1⟩:∃W1,W.alloc (.cells #[.int .i64 (k),.string ⟨(t).toArray⟩,.int .i64 (n),.int .i64 (p),.slice a ks.len c] 54)=W1:=⟨_,rfl⟩
 rw[hX,hW1] at B
 have hrB:=B.rv hr
 obtain ⟨x0,x1,x2,x3,x4⟩:=B.bx.five
 have HB:Hid (Gy No b tx s W X #[.int .i64 k,.string ⟨t.toArray⟩,.int .i64 n,.int .i64 p,.slice a ks.len c] W1):=B
 clear B h
 by_cases hk21:k=21
 ·have hE:staG nd k t n ks s=dcl nd n ks s:=by rw[hk21];unfold staG;simp
  rw[hE]
  clear hE
  subst hk21
  obtain ⟨h1,h2⟩:0≤n∧n≤(ks.len:Int):=by simpa [arG] using har
  obtain ⟨m,rfl⟩:∃m:Nat,n=(m:Nat):=⟨n.toNat,by omega⟩
  have C:=declare_any H H8 CE CC _ b tx s W1 21 t m p a c ks hT HB.out.gk hrB hs hw (by omega) hcc hL
  clear H HC HBk M CE CC CB HBg HBs HR HLO HLV HLX H8 hr hrB hL har hwf hz1 hL31
  go_enter Tryz.func47,Tryz.ntmps47
  go_wp2_with fail
  refine C.mono ?_
  rintro e w2 hq
  have H5:Hid _:=(HB.out.step hq).out
  obtain ⟨rfl,-⟩:=hq
  clear C
  go_wp2
  go_end0
  exact ⟨rfl,H5.out.2⟩
 by_cases hk22:k=22
 ·have hE:staG nd k t n ks s=asg nd n ks s:=by rw[hk22];unfold staG;simp
  rw[hE]
  clear hE
  subst hk22
  obtain ⟨h1,h2⟩:0≤n∧n≤(ks.len:Int):=by simpa [arG] using har
  obtain ⟨m,rfl⟩:∃m:Nat,n=(m:Nat):=⟨n.toNat,by omega⟩
  have C:=g_assign_any H H8 CE CC _ b tx s W1 22 t m p a c ks hT HB.out.gk hrB hs hw (by omega) hcc hL
  clear H HC HBk M CE CC CB HBg HBs HR HLO HLV HLX H8 hr hrB hL har hwf hz1 hL31
  go_enter Tryz.func47,Tryz.ntmps47
  go_wp2_with fail
  refine C.mono ?_
  rintro e w2 hq
  have H5:Hid _:=(HB.out.step hq).out
  obtain ⟨rfl,-⟩:=hq
  clear C
  go_wp2
  go_end0
  exact ⟨rfl,H5.out.2⟩
 by_cases hk23:k=23
 ·have hE:staG nd k t n ks s=ndK nd (.cal 0) ks 0 s:=by rw[hk23];unfold staG;simp
  rw[hE]
  clear hE
  subst hk23
  have h1:1≤ks.len:=by simpa [arG] using har
  obtain ⟨⟨k0,t0,n0,p0,ks0⟩,g0⟩:=ks.get_some 0 (by omega)
  have w0:=F.wfG_get ks 0 hw g0
  have hs0:=F.get_siz ks 0 _ _ _ _ _ g0
  have y1:=F.get_z31 ks 0 g0
  have y0:=F.td_z31 ks 0
  obtain ⟨g,o,a0,c0,rfl,hg,d0,d1,d2,d3,d4,hv0,hc0⟩:=Rv.nth ks 0 hrB g0
  have h1':(0:Int)<(ks.len:Int):=by omega
  simp only[Nat.zero_mul,Nat.add_zero] at d0 d1 d2 d3 d4
  have hk8:k0=8:=by
   have q:=F.wfG_run hwf
   unfold kdA at q
   rw[g0] at q
   exact q
  rw[ndK_get nd (.cal 0) g0]
  have C:=CC 0 (fun g=>No g∨g=X) b tx s W1 k0 t0 n0 p0 a0 c0 ks0 hk8 hT HB.out.gk hv0 (by omega) w0 hc0 (hL.mono (by omega) (by omega))
  clear hk8 H HC HBk M CE CC CB HBg HBs HR HLO HLV HLX H8 hr hrB hL har hwf hz1 hL31 hv0
  go_enter Tryz.func47,Tryz.ntmps47
  go_wp2_with fail
  refine C.mono ?_
  rintro e w2 hq
  have H5:Hid _:=(HB.out.step hq).out
  obtain ⟨rfl,-⟩:=hq
  clear C
  go_wp2
  go_end0
  exact ⟨rfl,H5.out.2⟩
 by_cases hk24:k=24
 ·have hE:staG nd k t n ks s=chc nd ks [] s:=by rw[hk24];unfold staG;simp
  rw[hE]
  clear hE
  subst hk24
  have C:=g_choice_any H HBs CE CB _ b tx s W1 a c ks hT HB.out.gk hrB hs hw hcc.1 hL
  clear H HC HBk M CE CC CB HBg HBs HR HLO HLV HLX H8 hr hrB hL har hwf hz1 hL31
  go_enter Tryz.func47,Tryz.ntmps47
  go_wp2_with fail
  refine C.mono ?_
  rintro e w2 hq
  have H5:Hid _:=(HB.out.step hq).out
  obtain ⟨rfl,-⟩:=hq
  clear C
  go_wp2
  go_end0
  exact ⟨rfl,H5.out.2⟩
 by_cases hk25:k=25
 ·have hE:staG nd k t n ks s=whl nd ks s:=by rw[hk25];unfold staG;simp
  rw[hE]
  clear hE
  subst hk25
  have C:=g_while_any H HBg HR CE CB _ b tx s W1 25 t n p a c ks hT HB.out.gk hrB hs hw (by simpa [arG] using har) hL
  clear H HC HBk M CE CC CB HBg HBs HR HLO HLV HLX H8 hr hrB hL har hwf hz1 hL31
  go_enter Tryz.func47,Tryz.ntmps47
  go_wp2_with fail
  refine C.mono ?_
  rintro e w2 hq
  have H5:Hid _:=(HB.out.step hq).out
  obtain ⟨rfl,-⟩:=hq
  clear C
  go_wp2
  go_end0
  exact ⟨rfl,H5.out.2⟩
 by_cases hk26:k=26
 ·have hE:staG nd k t n ks s=lpN nd ks s:=by rw[hk26];unfold staG;simp
  rw[hE]
  clear hE
  subst hk26
  have C:=loopN_any H HBg HR HLO HLV CE CB _ b tx s W1 26 t n p a c ks hT HB.out.gk hrB hs hw (by simpa [arG] using har) hcc hL
  clear H HC HBk M CE CC CB HBg HBs HR HLO HLV HLX H8 hr hrB hL har hwf hz1 hL31
  go_enter Tryz.func47,Tryz.ntmps47
  go_wp2_with fail
  refine C.mono ?_
  rintro e w2 hq
  have H5:Hid _:=(HB.out.step hq).out
  obtain ⟨rfl,-⟩:=hq
  clear C
  go_wp2
  go_end0
  exact ⟨rfl,H5.out.2⟩
 by_cases hk27:k=27
 ·have hE:staG nd k t n ks s=lpL nd n ks s:=by rw[hk27];unfold staG;simp
  rw[hE]
  clear hE
  subst hk27
  obtain ⟨h1,h2⟩:0≤n∧n+1≤(ks.len:Int):=by simpa [arG] using har
  obtain ⟨m,rfl⟩:∃m:Nat,n=(m:Nat):=⟨n.toNat,by omega⟩
  have C:=loopL_any H H8 HBg HR HLO HLX CE CC CB _ b tx s W1 27 t m p a c ks hT HB.out.gk hrB hs hw (by omega) hcc hL
  clear H HC HBk M CE CC CB HBg HBs HR HLO HLV HLX H8 hr hrB hL har hwf hz1 hL31
  go_enter Tryz.func47,Tryz.ntmps47
  go_wp2_with fail
  refine C.mono ?_
  rintro e w2 hq
  have H5:Hid _:=(HB.out.step hq).out
  obtain ⟨rfl,-⟩:=hq
  clear C
  go_wp2
  go_end0
  exact ⟨rfl,H5.out.2⟩
 by_cases hk28:k=28
 ·have hE:staG nd k t n ks s=ndK nd .blk ks 0 s:=by rw[hk28];unfold staG;simp
  rw[hE]
  clear hE
  subst hk28
  have h1:1≤ks.len:=by simpa [arG] using har
  obtain ⟨⟨k0,t0,n0,p0,ks0⟩,g0⟩:=ks.get_some 0 (by omega)
  have w0:=F.wfG_get ks 0 hw g0
  have hs0:=F.get_siz ks 0 _ _ _ _ _ g0
  have y1:=F.get_z31 ks 0 g0
  have y0:=F.td_z31 ks 0
  obtain ⟨g,o,a0,c0,rfl,hg,d0,d1,d2,d3,d4,hv0,hc0⟩:=Rv.nth ks 0 hrB g0
  have h1':(0:Int)<(ks.len:Int):=by omega
  simp only[Nat.zero_mul,Nat.add_zero] at d0 d1 d2 d3 d4
  rw[ndK_get nd .blk g0]
  have C:=CB (fun g=>No g∨g=X) b tx s W1 k0 t0 n0 p0 a0 c0 ks0 hT HB.out.gk hv0 (by omega) w0 hc0 (hL.mono (by omega) (by omega))
  clear H HC HBk M CE CC CB HBg HBs HR HLO HLV HLX H8 hr hrB hL har hwf hz1 hL31 hv0
  go_enter Tryz.func47,Tryz.ntmps47
  go_wp2_with fail
  refine C.mono ?_
  rintro e w2 hq
  have H5:Hid _:=(HB.out.step hq).out
  obtain ⟨rfl,-⟩:=hq
  clear C
  go_wp2
  go_end0
  exact ⟨rfl,H5.out.2⟩
 by_cases hk29:k=29
 ·have hE:staG nd k t n ks s={gad 18 0 0 0 s with br:=s.br++[s.nx]}:=by rw[hk29];unfold staG;simp
  rw[hE]
  clear hE
  subst hk29
  obtain ⟨i0,hi0,hz0,hz1,hz2⟩:=info_parts info3
  obtain ⟨x,hx⟩:=HB.out.gk
  have C:=addG2_any (fun g=>No g∨g=X) b tx x s W1.drew 18 _ [] hx.drew (g_opd_nil _) (by simp) (by omega)
  have hbl:s.br.length≤90000000:=by have:=hL.wt;unfold Gs.wt at this;omega
  have hb2:(gad 18 0 0 0 s).br=s.br:=(put_oth _ s).2.2.2.2
  simp only[show ∀j,opn3 ([]:List Int) j=0 from fun _=>rfl] at C
  obtain ⟨s2,hs2⟩:∃s2,gad 18 0 0 0 s=s2:=⟨_,rfl⟩
  rw[hs2] at C hb2⊢
  rw[←hb2] at hbl⊢
  have q3:W1.drew.cell? ⟨b,3,none⟩=some x.vB:=hx.drew.mx.c 3 _ rfl
  have f3:Hid (W1.drew.frozen? ⟨b,3,none⟩=false):=hx.drew.mx.f 3
  clear H HC HBk M CE CC CB HBg HBs HR HLO HLV HLX H8 hr hrB hL har hwf hL31 hx hs2 hb2
  go_enter Tryz.func47,Tryz.ntmps47
  go_wp2_with fail
  refine wp_region_held_drew (S:=(fun V=>V.frozen? ⟨b,3,none⟩=false)) (by kernel_rfl) f3.out (fun hHeld=>?_)
  refine wpAnyH_take (i:=0) (v:=?_) rfl (by kernel_rfl) (by kernel_rfl) (by kernel_rfl) (fun _ _ _ h=>h) (Or.inl ⟨by rfl,?_⟩) (by assumption) ?_
  rotate_left
  ·(intro w hSw;(try dsimp only at hSw);go_simp;try with_reducible rfl)
  try simp only[Act.put,List.setIfInBounds_toArray]
  refine wpAnyH_take (i:=1) (v:=?_) rfl (by kernel_rfl) (by kernel_rfl) (by kernel_rfl) (fun _ _ _ h=>h) (Or.inl ⟨by rfl,?_⟩) (by assumption) ?_
  rotate_left
  ·(intro w hSw;(try dsimp only at hSw);go_simp;try with_reducible rfl)
  try simp only[Act.put]
  refine wpAnyH_take (i:=2) (v:=?_) rfl (by kernel_rfl) (by kernel_rfl) (by kernel_rfl) (fun _ _ _ h=>h) (Or.inl ⟨by rfl,?_⟩) (by assumption) ?_
  rotate_left
  ·(intro w hSw;(try dsimp only at hSw);go_simp;try with_reducible rfl)
  try simp only[Act.put]
  refine wpAnyH_take (i:=3) (v:=?_) rfl (by kernel_rfl) (by kernel_rfl) (by kernel_rfl) (fun _ _ _ h=>h) (Or.inl ⟨by rfl,?_⟩) (by assumption) ?_
  rotate_left
  ·(intro w hSw;(try dsimp only at hSw);go_simp;try with_reducible rfl)
  try simp only[Act.put]
  refine wpAnyH_take (i:=5) (v:=?_) rfl (by kernel_rfl) (by kernel_rfl) (by kernel_rfl) (fun _ _ _ h=>h) (Or.inl ⟨by rfl,?_⟩) (by assumption) ?_
  rotate_left
  ·(intro w hSw;(try dsimp only at hSw);go_simp;try with_reducible rfl)
  try simp only[Act.put]
  refine wpAnyH_ready (rs:=[4,6]) (by kernel_rfl) (by simp) (AllReadyH.cons rfl (fun K hK=>?_) (AllReadyH.cons rfl (fun K hK=>?_) AllReadyH.nil))
  ·go_simp
   refine hK.out _ _ f3.out (fun hHeld=>?_)
   clear hK K
   refine wpAnyH_ready (rs:=[6]) (by kernel_rfl) (by simp) (AllReadyH.cons rfl (fun K hK=>?_) AllReadyH.nil)
   go_simp
   go_wp2_with (go_at_call 33;refine C.mono ?_;rintro e w2 ⟨rfl,⟨y,hy,hS⟩,hk2⟩;have u3:w2.frozen? ⟨b,3,none⟩=false:=hy.mx.f 3;have u3A:∀o,(w2.alloc o).frozen? ⟨b,3,none⟩=false:=fun o=>(hy.mx.alloc o).f 3;have v3:w2.cell? ⟨b,3,none⟩=some x.vB:=(by rw[←hS.2.2.2.2];exact hy.mx.c 3 _ rfl);have v3A:∀o,(w2.alloc o).cell? ⟨b,3,none⟩=some x.vB:=fun o=>(by rw[←hS.2.2.2.2];exact (hy.mx.alloc o).c 3 _ rfl);have hyb:w2.ownsRow 0 3 1 x.vB s2.br.length (nts s2.br):=(by rw[←hS.2.2.2.2];exact hy.br);have HF:=brk_grow HB.out ((Kn.refl _ W1).drew) hy hS hk2 s.nx;clear hy hS hk2)
   refine hK.out _ _ u3 (fun hHeld=>?_)
   clear hK K
   refine wpAnyH_ready (rs:=[7]) (by kernel_rfl) (by simp) (AllReadyH.cons rfl (fun K hK=>?_) AllReadyH.nil)
   go_simp
   refine hK.out _ _ (u3A _) (fun hHeld=>?_)
   clear hK K
   refine wpAnyH_ready (rs:=[8]) (by kernel_rfl) (by simp) (AllReadyH.cons rfl (fun K hK=>?_) AllReadyH.nil)
   (refine step_append_lies _ (by rfl) _ _ 82 (by rfl) 0 3 i0 _ 1 8 Tryz.underlying82 hi0 hz0 hz1 hz2 rfl (by omega) x.vB s2.br.length (nts s2.br) (by rfl) (hyb.alloc _) ⟨w2.heap.size,0,none⟩ 1 1 [.int .i64 s.nx] (by rfl) rfl (World.news_of_block (cs:=#[.int .i64 s.nx]) (t:=3) (fr:=(0,0)) (Bx.new w2 3 #[.int .i64 s.nx]).blk) (by simp[Value.oneCell']) (by omega) (by unfold maxLen;omega) (by omega) (by omega) _ rfl ?_;intro gg cc w3 hown3 hg3 hat3 hlt3;obtain ⟨fz4,fc4,HA,fz5⟩:=HF.out gg cc w3 hown3 hg3 hat3;clear hown3 hg3 hat3 hlt3)
   refine hK.out _ _ fz4 (fun hHeld=>?_)
   clear hK K
   refine wpAnyH_take (i:=9) (v:=?_) rfl (by kernel_rfl) (by kernel_rfl) (by kernel_rfl) (fun _ _ _ h=>h) (Or.inl ⟨by rfl,?_⟩) (by assumption) ?_
   rotate_left
   ·(intro w hSw;(try dsimp only at hSw);go_simp;try with_reducible rfl)
   try simp only[Act.put]
   refine wpAnyH_take (i:=10) (v:=?_) rfl (by kernel_rfl) (by kernel_rfl) (by kernel_rfl) (fun _ _ _ h=>h) (Or.inl ⟨by rfl,?_⟩) (by assumption) ?_
   rotate_left
   ·(intro w hSw;(try dsimp only at hSw);go_simp;try with_reducible rfl)
   try simp only[Act.put]
   refine wpAnyH_ready (rs:=[11]) (by kernel_rfl) (by simp) (AllReadyH.cons rfl (fun K hK=>?_) AllReadyH.nil)
   go_simp
   refine hK.out _ _ fz5 (fun hHeld=>?_)
   clear hK K
   refine wpAnyH_done (by kernel_rfl) ?_ _
   clear HF hyb v3 v3A u3 u3A fz4 fz5 fc4
   go_wp2_with fail
   go_end0
   exact HA.out
  ·go_simp
   go_wp2_with (go_at_call 33;refine C.mono ?_;rintro e w2 ⟨rfl,⟨y,hy,hS⟩,hk2⟩;have u3:w2.frozen? ⟨b,3,none⟩=false:=hy.mx.f 3;have u3A:∀o,(w2.alloc o).frozen? ⟨b,3,none⟩=false:=fun o=>(hy.mx.alloc o).f 3;have v3:w2.cell? ⟨b,3,none⟩=some x.vB:=(by rw[←hS.2.2.2.2];exact hy.mx.c 3 _ rfl);have v3A:∀o,(w2.alloc o).cell? ⟨b,3,none⟩=some x.vB:=fun o=>(by rw[←hS.2.2.2.2];exact (hy.mx.alloc o).c 3 _ rfl);have hyb:w2.ownsRow 0 3 1 x.vB s2.br.length (nts s2.br):=(by rw[←hS.2.2.2.2];exact hy.br);have HF:=brk_grow HB.out ((Kn.refl _ W1).drew) hy hS hk2 s.nx;clear hy hS hk2)
   refine hK.out _ _ u3 (fun hHeld=>?_)
   clear hK K
   refine wpAnyH_ready (rs:=[4,7]) (by kernel_rfl) (by simp) (AllReadyH.cons rfl (fun K hK=>?_) (AllReadyH.cons rfl (fun K hK=>?_) AllReadyH.nil))
   ·go_simp
    refine hK.out _ _ u3 (fun hHeld=>?_)
    clear hK K
    refine wpAnyH_ready (rs:=[7]) (by kernel_rfl) (by simp) (AllReadyH.cons rfl (fun K hK=>?_) AllReadyH.nil)
    go_simp
    refine hK.out _ _ (u3A _) (fun hHeld=>?_)
    clear hK K
    refine wpAnyH_ready (rs:=[8]) (by kernel_rfl) (by simp) (AllReadyH.cons rfl (fun K hK=>?_) AllReadyH.nil)
    (refine step_append_lies _ (by rfl) _ _ 82 (by rfl) 0 3 i0 _ 1 8 Tryz.underlying82 hi0 hz0 hz1 hz2 rfl (by omega) x.vB s2.br.length (nts s2.br) (by rfl) (hyb.alloc _) ⟨w2.heap.size,0,none⟩ 1 1 [.int .i64 s.nx] (by rfl) rfl (World.news_of_block (cs:=#[.int .i64 s.nx]) (t:=3) (fr:=(0,0)) (Bx.new w2 3 #[.int .i64 s.nx]).blk) (by simp[Value.oneCell']) (by omega) (by unfold maxLen;omega) (by omega) (by omega) _ rfl ?_;intro gg cc w3 hown3 hg3 hat3 hlt3;obtain ⟨fz4,fc4,HA,fz5⟩:=HF.out gg cc w3 hown3 hg3 hat3;clear hown3 hg3 hat3 hlt3)
    refine hK.out _ _ fz4 (fun hHeld=>?_)
    clear hK K
    refine wpAnyH_take (i:=9) (v:=?_) rfl (by kernel_rfl) (by kernel_rfl) (by kernel_rfl) (fun _ _ _ h=>h) (Or.inl ⟨by rfl,?_⟩) (by assumption) ?_
    rotate_left
    ·(intro w hSw;(try dsimp only at hSw);go_simp;try with_reducible rfl)
    try simp only[Act.put]
    refine wpAnyH_take (i:=10) (v:=?_) rfl (by kernel_rfl) (by kernel_rfl) (by kernel_rfl) (fun _ _ _ h=>h) (Or.inl ⟨by rfl,?_⟩) (by assumption) ?_
    rotate_left
    ·(intro w hSw;(try dsimp only at hSw);go_simp;try with_reducible rfl)
    try simp only[Act.put]
    refine wpAnyH_ready (rs:=[11]) (by kernel_rfl) (by simp) (AllReadyH.cons rfl (fun K hK=>?_) AllReadyH.nil)
    go_simp
    refine hK.out _ _ fz5 (fun hHeld=>?_)
    clear hK K
    refine wpAnyH_done (by kernel_rfl) ?_ _
    clear HF hyb v3 v3A u3 u3A fz4 fz5 fc4
    go_wp2_with fail
    go_end0
    exact HA.out
   ·go_simp
    refine hK.out _ _ (u3A _) (fun hHeld=>?_)
    clear hK K
    refine wpAnyH_ready (rs:=[4]) (by kernel_rfl) (by simp) (AllReadyH.cons rfl (fun K hK=>?_) AllReadyH.nil)
    go_simp
    refine hK.out _ _ (u3A _) (fun hHeld=>?_)
    clear hK K
    refine wpAnyH_ready (rs:=[8]) (by kernel_rfl) (by simp) (AllReadyH.cons rfl (fun K hK=>?_) AllReadyH.nil)
    (refine step_append_lies _ (by rfl) _ _ 82 (by rfl) 0 3 i0 _ 1 8 Tryz.underlying82 hi0 hz0 hz1 hz2 rfl (by omega) x.vB s2.br.length (nts s2.br) (by rfl) (hyb.alloc _) ⟨w2.heap.size,0,none⟩ 1 1 [.int .i64 s.nx] (by rfl) rfl (World.news_of_block (cs:=#[.int .i64 s.nx]) (t:=3) (fr:=(0,0)) (Bx.new w2 3 #[.int .i64 s.nx]).blk) (by simp[Value.oneCell']) (by omega) (by unfold maxLen;omega) (by omega) (by omega) _ rfl ?_;intro gg cc w3 hown3 hg3 hat3 hlt3;obtain ⟨fz4,fc4,HA,fz5⟩:=HF.out gg cc w3 hown3 hg3 hat3;clear hown3 hg3 hat3 hlt3)
    refine hK.out _ _ fz4 (fun hHeld=>?_)
    clear hK K
    refine wpAnyH_take (i:=9) (v:=?_) rfl (by kernel_rfl) (by kernel_rfl) (by kernel_rfl) (fun _ _ _ h=>h) (Or.inl ⟨by rfl,?_⟩) (by assumption) ?_
    rotate_left
    ·(intro w hSw;(try dsimp only at hSw);go_simp;try with_reducible rfl)
    try simp only[Act.put]
    refine wpAnyH_take (i:=10) (v:=?_) rfl (by kernel_rfl) (by kernel_rfl) (by kernel_rfl) (fun _ _ _ h=>h) (Or.inl ⟨by rfl,?_⟩) (by assumption) ?_
    rotate_left
    ·(intro w hSw;(try dsimp only at hSw);go_simp;try with_reducible rfl)
    try simp only[Act.put]
    refine wpAnyH_ready (rs:=[11]) (by kernel_rfl) (by simp) (AllReadyH.cons rfl (fun K hK=>?_) AllReadyH.nil)
    go_simp
    refine hK.out _ _ fz5 (fun hHeld=>?_)
    clear hK K
    refine wpAnyH_done (by kernel_rfl) ?_ _
    clear HF hyb v3 v3A u3 u3A fz4 fz5 fc4
    go_wp2_with fail
    go_end0
    exact HA.out
 by_cases hk30:k=30
 ·have hE:staG nd k t n ks s=gad 25 0 0 0 (opn nd ks (gad 22 0 0 0 s)):=by rw[hk30];unfold staG;simp
  rw[hE]
  clear hE
  subst hk30
  have C1:=HB.out.gk.add0 22 (by omega)
  have G1:=gw_gad 22 0 0 0 s L
  have O1:Okg L ks.siz ks.z31 (gad 22 0 0 0 s):=(hL.mono (y:=1+ks.siz) (f:=0+ks.z31) (by omega) (by omega)).step (G1.gb (by omega) (by omega) (by omega))
  have O2:Okg L 0 0 (opn nd ks (gad 22 0 0 0 s)):=Okg.step (y:=ks.siz) (f:=ks.z31) (O1.mono (by omega) (by omega)) (gb_opn H H8 ks _ hw)
  have l2:=O2.code
  have HRR:Hid (Rv W No a ks):=hr
  have CO:=fun w (hg:Gk (fun g=>No g∨g=X) b tx (gad 22 0 0 0 s) w) (hv:Rv w (fun g=>No g∨g=X) a ks)=>open_any H CE CC (fun g=>No g∨g=X) b tx (gad 22 0 0 0 s) w a c ks hT hg hv hs hw hcc.1 O1
  obtain ⟨s1,hs1⟩:∃s1,gad 22 0 0 0 s=s1:=⟨_,rfl⟩
  rw[hs1] at C1 CO l2⊢
  clear H HC HBk M CE CC CB HBg HBs HR HLO HLV HLX H8 hr hrB hL har hwf hz1 hL31 G1 O1 O2
  go_enter Tryz.func47,Tryz.ntmps47
  go_wp2_with fail
  refine C1.mono ?_
  rintro e w2 ⟨rfl,hq1,hq2⟩
  have D2:=HB.out.to hq1 hq2
  obtain ⟨x0,x1,x2,x3,x4⟩:=D2.bx.five
  have C2:=CO w2 D2.gk (D2.rv HRR.out)
  have HD2:Hid _:=D2
  clear D2 C1 hq1 hq2 CO
  go_wp2_with fail
  refine C2.mono ?_
  rintro e w3 hq
  have D3:=HD2.out.step hq
  obtain ⟨rfl,-⟩:=hq
  have C3:=D3.gk.add0 25 (by omega)
  have HD3:Hid _:=D3
  clear D3 C2 HD2
  go_wp2_with fail
  refine C3.mono ?_
  rintro e w4 ⟨rfl,hq1,hq2⟩
  have H5:Hid _:=(HD3.out.to hq1 hq2).out
  clear C3 hq1 hq2
  go_wp2
  go_end0
  exact ⟨rfl,H5.out.2⟩
 by_cases hk31:k=31
 ·have hE:staG nd k t n ks s=mkU nd (ks.take n.toNat) ks n.toNat (gad 9 (lst t 0 s.gl) 0 0 (gad 11 (s.be:Int) 0 0 s)):=by rw[hk31];unfold staG;simp
  rw[hE]
  clear hE
  subst hk31
  obtain ⟨h1,h2⟩:0≤n∧n+1≤(ks.len:Int):=by simpa [arG] using har
  obtain ⟨m,rfl⟩:∃m:Nat,n=(m:Nat):=⟨n.toNat,by omega⟩
  rw[Int.toNat_natCast]
  obtain ⟨⟨k1,t1,n1,p1,ks1⟩,g1⟩:=ks.get_some m (by omega)
  have w1:=F.wfG_get ks m hw g1
  have y1:=F.get_z31 ks m g1
  have y0:=F.td_z31 ks m
  have z1:=F.get_drop ks m g1
  have z0:=F.td_siz ks m
  have lt:=F.len_take ks m (by omega)
  have ltz:=(ks.take m).len_siz
  rw[if_pos rfl] at hz1
  have O2:Okg L ks.siz (ks.z31+1) (gad 9 (lst t 0 s.gl) 0 0 (gad 11 (s.be:Int) 0 0 s)):=(hL31.out.mono (y:=1+ks.siz) (f:=0+(ks.z31+1)) (by omega) (by omega)).step (gb_gad2 11 (s.be:Int) 0 0 9 (lst t 0 s.gl) 0 0 s L)
  have hsz:ks.siz≤6000000:=by have:=O2.wt;omega
  have O3:=O2.unit (ks.take m) (y:=ks1.siz+1) (g:=(one k1 t1 n1 p1 ks1).z31) (by omega) (by omega) (by omega)
  have hbe:(gad 9 (lst t 0 s.gl) 0 0 (gad 11 (s.be:Int) 0 0 s)).be<(gad 9 (lst t 0 s.gl) 0 0 (gad 11 (s.be:Int) 0 0 s)).us.length:=by have:=O2.be;omega
  have hcu:=O2.cu
  have hl1:=gad_len 11 (s.be:Int) 0 0 s
  obtain ⟨s1,hs1⟩:∃s1,gad 11 (s.be:Int) 0 0 s=s1:=⟨_,rfl⟩
  have hgl:s1.gl=s.gl:=by rw[←hs1];exact (put_oth _ s).2.1
  rw[hs1] at O3 hbe hcu hl1⊢
  obtain ⟨s2,hs2⟩:∃s2,gad 9 (lst t 0 s.gl) 0 0 s1=s2:=⟨_,rfl⟩
  rw[hs2] at O3 hbe hcu⊢
  obtain ⟨ℓ,hℓ⟩:∃z,lst t 0 s.gl=z:=⟨_,rfl⟩
  rw[hℓ] at hs2
  have hkey:keyOf Tryz.prog 9 (.string ⟨t.toArray⟩)=some (.string t):=by
   have:=WideMaps.keyOf_string_mk (P:=Tryz.prog) Tryz.underlying9 (s:=⟨t.toArray⟩) (by show t.toArray.size≤maxLen;simp;unfold maxLen;omega)
   simpa using this
  have hmU:=mo_mkU M (ks.take m) ks m s2
  have hmE:mkU nd (ks.take m) ks m s2={gad 25 0 0 0 (gad 22 0 0 0 (nd .blk k1 t1 n1 p1 ks1 (brg (ks.take m) {s2 with cu:=s2.be,be:=s2.be+1,lo:=[],br:=[]}))) with cu:=s2.cu,lo:=s2.lo,br:=s2.br}:=by unfold mkU;rw[ndK_get nd .blk g1]
  obtain ⟨g,o,-,-,rfl,-⟩:=Rv.nth ks m hrB g1
  have HU:Hid (Mo s2 (mkU nd (ks.take m) ks m s2)∧mkU nd (ks.take m) ks m s2={gad 25 0 0 0 (gad 22 0 0 0 (nd .blk k1 t1 n1 p1 ks1 (brg (ks.take m) {s2 with cu:=s2.be,be:=s2.be+1,lo:=[],br:=[]}))) with cu:=s2.cu,lo:=s2.lo,br:=s2.br}∧ks.get? m=some (k1,t1,n1,p1,ks1)∧gad 9 ℓ 0 0 s1=s2∧s2.cu<s2.us.length):=⟨hmU,hmE,g1,hs2,hcu⟩
  have CU:Hid (∀(No':Nat→Prop) (x':Gx) (w:World) (a':Option Addr) (c':Nat),SK No' tx x' s2 w→Rv w No' a' ks1→Rv w No' (some ⟨g,o,none⟩) (ks.take m)→(ks1.len≤c'∧c'≤maxLen)→Calls Tryz.prog 22 #[.pointer (some ⟨x'.S,0,none⟩),.slice (some ⟨g,o,none⟩) m c,(.agg #[.int .i64 (k1),.string ⟨(t1).toArray⟩,.int .i64 (n1),.int .i64 (p1),.slice a' ks1.len c'])] w fun e w'=>e= .returned (.tuple #[])∧(∃y,SK No' tx y (gad 25 0 0 0 (gad 22 0 0 0 (nd .blk k1 t1 n1 p1 ks1 (brg (ks.take m) {s2 with cu:=s2.be,be:=s2.be+1,lo:=[],br:=[]})))) w')∧Kn No' w w'):=fun No' x' w a' c' hk hv hp hc=>by
   have q:=makeUnit_any HBk CB No' tx x' s2 w k1 t1 n1 p1 a' c' ks1 (some ⟨g,o,none⟩) c (ks.take m) hT hk hv hp (by omega) w1 hc hbe (by omega) _ rfl O3
   rw[lt] at q
   exact q
  have HRR:Hid (Rv W No (some ⟨g,o,none⟩) ks):=hr
  have hml:(m:Int)<(ks.len:Int):=by omega
  have hmc:(m:Int)≤(c:Int):=by omega
  have SL:∀W,(Instr.sliceAt 52 (.slice (some ⟨g,o,none⟩) ks.len c) none (some (.int .i64 (m:Nat))) none).run Tryz.prog W= .ok (.slice (some ⟨g,o,none⟩) m c) W:=fun W=>by
   have q1:m≤c:=by omega
   simp[go_sem,Instr.sliceAt,q1]
  have C1:=HB.out.gk.add1 11 (s.be:Int) (by omega)
  rw[hs1] at C1
  obtain ⟨x,hx⟩:=HB.out.gk
  have v0:=hx.seen.1
  have v2:=hx.src.2.2.1
  clear H HC HBk M CE CC CB HBg HBs HR HLO HLV HLX H8 hr hrB hL har hwf hz1 hL31 hx hs1 hs2 hcu hmU hmE g1 O2 O3 hbe w1 y1 y0 z1 z0 lt ltz
  go_enter Tryz.func47,Tryz.ntmps47
  go_wp2_with fail
  refine C1.mono ?_
  rintro e w2 ⟨rfl,hq1,hq2⟩
  have D2:=HB.out.to hq1 hq2
  obtain ⟨x2,hx2⟩:=D2.gk.drew
  have B2:=D2.drew.bx
  have y0:=hx2.seen.1
  have y3:=hx2.src.2.2.2.1
  have y1:w2.drew.cell? ⟨X,1,none⟩=some (.string ⟨t.toArray⟩):=B2.c 1 _ rfl
  have y0A:∀o,(w2.drew.alloc o).cell? ⟨b,0,none⟩=some (.pointer (some ⟨x2.S,0,none⟩)):=fun o=>(hx2.alloc o).seen.1
  have y3A:∀o,(w2.drew.alloc o).cell? ⟨x2.S,3,none⟩=some (.map (some x2.m)):=fun o=>(hx2.alloc o).src.2.2.2.1
  have y1A:∀o,(w2.drew.alloc o).cell? ⟨X,1,none⟩=some (.string ⟨t.toArray⟩):=fun o=>(B2.alloc o).c 1 _ rfl
  obtain ⟨Dm,nm,hM,hD⟩:=hx2.mp.ex
  obtain ⟨cv,hrun,hat,-⟩:=hM.lookup_int law9 Tryz.underlying69 Tryz.underlying3 (zero3 _) hkey
  have hcv:cv=ℓ:=by
   have q:=(hD t).symm.trans hat
   rw[hgl,hℓ] at q
   injection q with q
   injection q with _ q
   exact q.symm
  subst hcv
  have C2:=addG2_any (fun g=>No g∨g=X) b tx x2 s1 (w2.drew.alloc (.cells #[.int .i64 cv] 3)) 9 _ [cv] (hx2.alloc _) (opd1 w2.drew cv) (by simp) (by omega)
  simp only[show opn3 [cv] 0=cv from rfl,show opn3 [cv] 1=0 from rfl,show opn3 [cv] 2=0 from rfl] at C2
  rw[HU.out.2.2.2.1] at C2
  have HY:Hid (w2.drew.cell? ⟨b,0,none⟩=some (.pointer (some ⟨x2.S,0,none⟩))∧w2.drew.cell? ⟨x2.S,3,none⟩=some (.map (some x2.m))∧w2.drew.cell? ⟨X,1,none⟩=some (.string ⟨t.toArray⟩)):=⟨y0,y3,y1⟩
  have HD2:Hid _:=D2
  clear D2 C1 hq1 hq2 hx2 B2 hM hD hat v0 v2
  go_wp2_with fail
  go_region_held3 (fun V=>V.cell? ⟨b,0,none⟩=some (.pointer (some ⟨x2.S,0,none⟩))∧V.cell? ⟨x2.S,3,none⟩=some (.map (some x2.m))∧V.cell? ⟨X,1,none⟩=some (.string ⟨t.toArray⟩)) (first | exact HY.out | exact ⟨y0A _,y3A _,y1A _⟩ | exact HY3.out)
   (first | (go_at_call 33;refine C2.mono ?_;rintro e w3 ⟨rfl,⟨x3,hx3,hS3⟩,hk3⟩;have HD3:Hid (Gy No b tx s2 W X #[.int .i64 31,.string ⟨t.toArray⟩,.int .i64 (m:Nat),.int .i64 p,.slice (some ⟨g,o,none⟩) ks.len c] w3∧GK (fun g=>No g∨g=X) b tx x3 s2 w3):=⟨HD2.out.to ⟨x3,hx3⟩ ((((Kn.refl _ w2).drew).alloc _).trans hk3),hx3⟩;have HY3:Hid (w3.cell? ⟨b,0,none⟩=some (.pointer (some ⟨x2.S,0,none⟩))∧w3.cell? ⟨x2.S,3,none⟩=some (.map (some x2.m))∧w3.cell? ⟨X,1,none⟩=some (.string ⟨t.toArray⟩)):=⟨by rw[←hS3.1];exact hx3.seen.1,by rw[←hS3.1,←hS3.2.2.1];exact hx3.src.2.2.2.1,HD3.out.1.bx.c 1 _ rfl⟩;clear hx3 hS3 hk3))
  all_goals
   clear y0 y1 y3 y0A y1A y3A hrun C2 HY HY3 HD2
   have D3:=HD3.out.1.drew
   have hx3:=HD3.out.2.drew
   obtain ⟨g',o',a1,c1,eq,hg1,r0,r1,r2,r3,r4,hv1,hc1⟩:=Rv.nth ks m (D3.rv HRR.out) HU.out.2.2.1
   injection eq with eq
   injection eq with eq1 eq2
   subst eq1 eq2
   have v0:=hx3.seen.1
   obtain ⟨x0,x1,x2',x3',x4⟩:=D3.bx.five
   obtain ⟨y,hsk,eS⟩:=hx3.aside
   have C3:=CU.out (Aside (fun g=>No g∨g=X) b x3) y w3.drew a1 c1 hsk (hv1.mono fun _ e=>.inl e) (((D3.rv HRR.out).take m).mono fun _ e=>.inl e) hc1
   rw[eS] at C3
   have HZ:Hid (w3.drew.cell? ⟨b,0,none⟩=some (.pointer (some ⟨x3.S,0,none⟩))∧w3.drew.cell? ⟨X,2,none⟩=some (.int .i64 (m:Nat))∧w3.drew.cell? ⟨X,4,none⟩=some (.slice (some ⟨g,o,none⟩) ks.len c)):=⟨v0,x2',x4⟩
   have HL:Hid (b<w3.drew.heap.size∧X<w3.drew.heap.size):=⟨hx3.lt,D3.bx.lt⟩
   clear D3 hx3 hsk eS hv1
   go_wp2_with fail
   refine wp_region_noPanic ?_
   refine wp_region_held_drew (S:=(fun V=>V.cell? ⟨b,0,none⟩=some (.pointer (some ⟨x3.S,0,none⟩))∧V.cell? ⟨X,2,none⟩=some (.int .i64 (m:Nat))∧V.cell? ⟨X,4,none⟩=some (.slice (some ⟨g,o,none⟩) ks.len c))) (by kernel_rfl) HZ.out (fun hHeld=>?_)
   refine wpAnyH_take (i:=0) (v:=?_) rfl (by kernel_rfl) (by kernel_rfl) (by kernel_rfl) (fun _ _ _ h=>h) (Or.inl ⟨by rfl,?_⟩) (by assumption) ?_
   rotate_left
   ·(intro w hSw;(try dsimp only at hSw);go_simp;try with_reducible rfl)
   try simp only[Act.put,List.setIfInBounds_toArray]
   refine wpAnyH_take (i:=1) (v:=?_) rfl (by kernel_rfl) (by kernel_rfl) (by kernel_rfl) (fun _ _ _ h=>h) (Or.inl ⟨by rfl,?_⟩) (by assumption) ?_
   rotate_left
   ·(intro w hSw;(try dsimp only at hSw);go_simp;try with_reducible rfl)
   try simp only[Act.put]
   refine wpAnyH_take (i:=2) (v:=?_) rfl (by kernel_rfl) (by kernel_rfl) (by kernel_rfl) (fun _ _ _ h=>h) (Or.inl ⟨by rfl,?_⟩) (by assumption) ?_
   rotate_left
   ·(intro w hSw;(try dsimp only at hSw);go_simp;try with_reducible rfl)
   try simp only[Act.put]
   refine wpAnyH_take (i:=3) (v:=?_) rfl (by kernel_rfl) (by kernel_rfl) (by kernel_rfl) (fun _ _ _ h=>h) (Or.inl ⟨by rfl,?_⟩) (by assumption) ?_
   rotate_left
   ·(intro w hSw;(try dsimp only at hSw);go_simp;try with_reducible rfl)
   try simp only[Act.put]
   refine wpAnyH_take (i:=4) (v:=?_) rfl (by kernel_rfl) (by kernel_rfl) (by kernel_rfl) (fun _ _ _ h=>h) (Or.inl ⟨by rfl,?_⟩) (by assumption) ?_
   rotate_left
   ·(intro w hSw;(try dsimp only at hSw);go_simp;try with_reducible rfl)
   try simp only[Act.put]
   refine wpAnyH_take (i:=5) (v:=?_) rfl (by kernel_rfl) (by kernel_rfl) (by kernel_rfl) (fun _ _ _ h=>h) (Or.inl ⟨by rfl,?_⟩) (by assumption) ?_
   rotate_left
   ·(intro w hSw;(try dsimp only at hSw);go_simp;try with_reducible rfl)
   try simp only[Act.put]
   refine wpAnyH_take (i:=6) (v:=?_) rfl (by kernel_rfl) (by kernel_rfl) (by kernel_rfl) (fun _ _ _ h=>h) (Or.inl ⟨by rfl,?_⟩) (by assumption) ?_
   rotate_left
   ·(intro w hSw;(try dsimp only at hSw);go_simp;try with_reducible rfl)
   try simp only[Act.put]
   refine wpAnyH_take (i:=7) (v:=?_) rfl (by kernel_rfl) (by kernel_rfl) (by kernel_rfl) (fun _ _ _ h=>h) (Or.inl ⟨by rfl,?_⟩) (by assumption) ?_
   rotate_left
   ·(intro w hSw;(try dsimp only at hSw);go_simp;try with_reducible rfl)
   try simp only[Act.put]
   refine wpAnyH_take (i:=8) (v:=?_) rfl (by kernel_rfl) (by kernel_rfl) (by kernel_rfl) (fun _ _ _ h=>h) (Or.inl ⟨by rfl,?_⟩) (by assumption) ?_
   rotate_left
   ·(intro w hSw;(try dsimp only at hSw);go_simp;try with_reducible rfl)
   try simp only[Act.put]
   refine wpAnyH_take (i:=9) (v:=?_) rfl (by kernel_rfl) (by kernel_rfl) (by kernel_rfl) (fun _ _ _ h=>h) (Or.inl ⟨by rfl,?_⟩) (by assumption) ?_
   rotate_left
   ·(intro w hSw;(try dsimp only at hSw);go_simp;try with_reducible rfl)
   try simp only[Act.put]
   refine wpAnyH_take (i:=10) (v:=?_) rfl (by kernel_rfl) (by kernel_rfl) (by kernel_rfl) (fun _ _ _ h=>h) (Or.inl ⟨by rfl,?_⟩) (by assumption) ?_
   rotate_left
   ·(intro w hSw;(try dsimp only at hSw);go_simp;try with_reducible rfl)
   try simp only[Act.put]
   refine wpAnyH_take (i:=11) (v:=?_) rfl (by kernel_rfl) (by kernel_rfl) (by kernel_rfl) (fun _ _ _ h=>h) (Or.inl ⟨by rfl,?_⟩) (by assumption) ?_
   rotate_left
   ·(intro w hSw;(try dsimp only at hSw);go_simp;try with_reducible rfl)
   try simp only[Act.put]
   refine wpAnyH_take (i:=12) (v:=?_) rfl (by kernel_rfl) (by kernel_rfl) (by kernel_rfl) (fun _ _ _ h=>h) (Or.inl ⟨by rfl,?_⟩) (by assumption) ?_
   rotate_left
   ·(intro w hSw;(try dsimp only at hSw);go_simp;try with_reducible rfl)
   try simp only[Act.put]
   refine wpAnyH_take (i:=13) (v:=?_) rfl (by kernel_rfl) (by kernel_rfl) (by kernel_rfl) (fun _ _ _ h=>h) (Or.inl ⟨by rfl,?_⟩) (by assumption) ?_
   rotate_left
   ·(intro w hSw;(try dsimp only at hSw);go_simp;try with_reducible rfl)
   try simp only[Act.put]
   refine wpAnyH_ready (rs:=[14]) (by kernel_rfl) (by simp) (AllReadyH.cons rfl (fun K hK=>?_) AllReadyH.nil)
   go_simp
   refine hK.out _ _ HZ.out (fun hHeld=>?_)
   clear hK K
   refine wpAnyH_ready (rs:=[15]) (by kernel_rfl) (by simp) (AllReadyH.cons rfl (fun K hK=>?_) AllReadyH.nil)
   go_simp
   go_wp2_with (go_at_call 22;refine C3.mono ?_;rintro e w4 ⟨rfl,⟨z,hz⟩,hk4⟩;have HZ4:Hid (w4.cell? ⟨b,0,none⟩=some (.pointer (some ⟨x3.S,0,none⟩))∧w4.cell? ⟨X,2,none⟩=some (.int .i64 (m:Nat))∧w4.cell? ⟨X,4,none⟩=some (.slice (some ⟨g,o,none⟩) ks.len c)):=⟨(World.cell?_of_block (a:=⟨b,0,none⟩) (hk4.block b HL.out.1 (.inr (.inl rfl)))).trans HZ.out.1,(World.cell?_of_block (a:=⟨X,2,none⟩) (hk4.block X HL.out.2 (.inl (.inr rfl)))).trans HZ.out.2.1,(World.cell?_of_block (a:=⟨X,4,none⟩) (hk4.block X HL.out.2 (.inl (.inr rfl)))).trans HZ.out.2.2⟩;have HK4:Hid ((∃z,SK (Aside (fun g=>No g∨g=X) b x3) tx z (gad 25 0 0 0 (gad 22 0 0 0 (nd .blk k1 t1 n1 p1 ks1 (brg (ks.take m) {s2 with cu:=s2.be,be:=s2.be+1,lo:=[],br:=[]})))) w4)∧Kn (Aside (fun g=>No g∨g=X) b x3) w3.drew w4):=⟨⟨z,hz⟩,hk4⟩;clear hz hk4)
   refine hK.out _ _ HZ4.out (fun hHeld=>?_)
   clear hK K
   refine wpAnyH_done (by kernel_rfl) ?_ _
   show _
   all_goals
    have HF:Hid (GP No b tx W (mkU nd (ks.take m) ks m s2) (.returned (.tuple #[])) w4):=by
     obtain ⟨⟨z,hz⟩,hk4⟩:=HK4.out
     have gh:=HU.out.1.gh
     have ul:=HU.out.1.ul
     rw[HU.out.2.1] at gh ul⊢
     have q:=HD3.out.2.drew.again (hz.re s2.cu s2.lo s2.br) hk4 rfl rfl rfl gh.1 gh.2 (by have:=HU.out.2.2.2.2;rw[←ul] at this;exact this)
     exact (HD3.out.1.drew.to q.1 q.2).out
    clear HK4 HZ4 HZ HL C3 CU HU HD3 v0 x0 x1 x2' x3' x4 r0 r1 r2 r3 r4
    go_wp2_with fail
    go_end0
    exact HF.out
 have hE:staG nd k t n ks s=s:=by unfold staG;simp[hk21,hk22,hk23,hk24,hk25,hk26,hk27,hk28,hk29,hk30,hk31]
 rw[hE]
 have e21:(k==21)=false:=by simpa using hk21
 have e22:(k==22)=false:=by simpa using hk22
 have e23:(k==23)=false:=by simpa using hk23
 have e24:(k==24)=false:=by simpa using hk24
 have e25:(k==25)=false:=by simpa using hk25
 have e26:(k==26)=false:=by simpa using hk26
 have e27:(k==27)=false:=by simpa using hk27
 have e28:(k==28)=false:=by simpa using hk28
 have e29:(k==29)=false:=by simpa using hk29
 have e30:(k==30)=false:=by simpa using hk30
 have e31:(k==31)=false:=by simpa using hk31
 clear hE hk21 hk22 hk23 hk24 hk25 hk26 hk27 hk28 hk29 hk30 hk31 H HC HBk M CE CC CB HBg HBs HR HLO HLV HLX H8 hr hrB hL har hwf hz1 hL31
 have H5:Hid _:=HB.out.out
 go_enter Tryz.func47,Tryz.ntmps47
 go_wp2_with fail
 go_end0
 exact ⟨rfl,H5.out.2⟩
end Go.Proofs.YtkjbgggghigapaaGreat


namespace Go.Proofs.YtkjbgggghigapaaGreat
open Go.RowKit
theorem jobs_any {L:Tx} (h20:L.length≤20000):∀N,GN 109 L N (gn (lfT L) N .val)∧(GC L N fun x=>gn (lfT L) N (.cal x))∧GN 32 L N (gn (lfT L) N .blk)∧GN 47 L N (gn (lfT L) N .sta)
 | 0=>⟨fun _ _ _ _ _ _ _ _ _ _ _ _ _ _ _ hs=>absurd hs (Nat.not_lt_zero _),fun _ _ _ _ _ _ _ _ _ _ _ _ _ _ _ _ _ hs=>absurd hs (Nat.not_lt_zero _),fun _ _ _ _ _ _ _ _ _ _ _ _ _ _ _ hs=>absurd hs (Nat.not_lt_zero _),fun _ _ _ _ _ _ _ _ _ _ _ _ _ _ _ hs=>absurd hs (Nat.not_lt_zero _)⟩
 | N+1=>by
   obtain ⟨CE,CC,CB,CS⟩:=jobs_any h20 N
   have HF:∀a b,0≤lfT L a b∧lfT L a b≤30000:=fun a b=>by have:=lfT_rng L a b;omega
   obtain ⟨H,HC,HB,HS⟩:=gw_gn (L:=L) HF N
   have M:=mo_gn (lfT L) N
   refine ⟨?_,?_,?_,?_⟩
   ·intro No b tx s W k t n p a c ks hT h hr hs hw hcc hL
    exact value_any H (HC (-1)) CE CC No b tx s W k t n p a c ks hT h hr (by omega) hw hcc hL
   ·intro x No b tx s W k t n p a c ks hk hT h hr hs hw hcc hL
    obtain ⟨ha,-,-,hwk⟩:=F.wfG_one hw
    subst hk
    have hz:=z31_1 8 t n p ks
    exact call_any H (HC (-1)) CE CC x No b tx s W 8 t n p a c ks hT h hr (by omega) hwk (by simpa [arG] using ha) hcc (hL.mono (Nat.le_refl _) (by omega))
   ·intro No b tx s W k t n p a c ks hT h hr hs hw hcc hL
    have hz:=z31_1 k t n p ks
    exact g_block_any HS (fun k t n p ks s=>(M .sta k t n p ks s).lo) CS h20 No b tx s W k t n p a c ks hT h hr (by omega) (F.wfG_one hw).2.2.2 hcc (hL.mono (Nat.le_refl _) (by omega))
   ·intro No b tx s W k t n p a c ks hT h hr hs hw hcc hL
    exact g_statement_any H HC HB M CE CC CB No b tx s W k t n p a c ks hT h hr (by omega) hw hcc hL
end Go.Proofs.YtkjbgggghigapaaGreat
