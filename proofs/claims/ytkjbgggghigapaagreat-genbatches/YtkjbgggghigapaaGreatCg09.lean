import Derived.Test.YtkjbgggghigapaaGreatCg08
import Derived.Test.YtkjbgggghigapaaGreatCg07
import Derived.Deep.RegionHeld3
namespace Go.Proofs.YtkjbgggghigapaaGreat
open Go.RowKit
theorem gb_gad (op a b c:Int) (s:Gs) (L:Tx) (z f:Nat) (hz:1≤16 * z):Gb L z f s (gad op a b c s):=gb_put _ s L z f 1 (by simp) (by simp) hz
set_option maxRecDepth 20000 in
set_option maxHeartbeats 8000000 in
theorem either_any {L:Tx} {N:Nat} {nd:Jg→Ndg} (H:GG L (nd .val)) (CE:GN 109 L N (nd .val)) (op:Int) (No:Nat→Prop) (b:Nat) (tx:Tx) (s:Gs) (W:World) (k:Int) (t:Tx) (n p:Int) (a:Option Addr) (c:Nat) (ks:F) (hT:Hid (tx=L)) (h:Gk No b tx s W) (hr:Rv W No a ks) (hs:ks.siz≤N) (hw:ks.wfG L=true) (h2:2≤ks.len) (hL:Okg L (ks.siz+1) ks.z31 s):
 Calls Tryz.prog 147 #[.pointer (some ⟨b,0,none⟩),.int .i64 op,(.agg #[.int .i64 (k),.string ⟨(t).toArray⟩,.int .i64 (n),.int .i64 (p),.slice a ks.len c])] W (GP No b tx W (eit nd op ks s)):=by
 obtain ⟨⟨k0,t0,n0,p0,ks0⟩,g0⟩:=ks.get_some 0 (by omega)
 obtain ⟨⟨k1,t1,n1,p1,ks1⟩,g1⟩:=ks.get_some 1 (by omega)
 have e0:∀s,ndK nd .val ks 0 s=nd .val k0 t0 n0 p0 ks0 s:=fun s=>by unfold ndK;rw[g0];rfl
 have e1:∀s,ndK nd .val ks 1 s=nd .val k1 t1 n1 p1 ks1 s:=fun s=>by unfold ndK;rw[g1];rfl
 have z0:=F.td_siz ks 1
 have z1:=F.get_drop ks 1 g1
 have y0:=F.td_z31 ks 1
 have y1:=F.get_z31 ks 1 g1
 have hok:Okg L ((ks0.siz+1)+(1+(ks1.siz+1))) ((one k0 t0 n0 p0 ks0).z31+(0+(one k1 t1 n1 p1 ks1).z31)) s:=by
  have q0:=F.get_z31 (ks.take 1) 0 (k:=k0) (t:=t0) (n:=n0) (p:=p0) (ks:=ks0) (by cases ks<;>simp_all[F.take,F.get?])
  have q1:=F.get_drop (ks.take 1) 0 (k:=k0) (t:=t0) (n:=n0) (p:=p0) (ks:=ks0) (by cases ks<;>simp_all[F.take,F.get?])
  have q2:=F.td_siz (ks.take 1) 0
  have q3:=F.td_z31 (ks.take 1) 0
  exact hL.mono (by omega) (by omega)
 have w0:=F.wfG_get ks 0 hw g0
 have w1:=F.wfG_get ks 1 hw g1
 have G0:=H k0 t0 n0 p0 ks0 s w0
 have hok1:=hok.step G0
 have G1:=gb_gad op 0 0 0 (nd .val k0 t0 n0 p0 ks0 s) L 1 0 (by omega)
 have hok2:=hok1.step G1
 have G2:=H k1 t1 n1 p1 ks1 (gad op 0 0 0 (nd .val k0 t0 n0 p0 ks0 s)) w1
 have hok3:Okg L 0 0 (nd .val k1 t1 n1 p1 ks1 (gad op 0 0 0 (nd .val k0 t0 n0 p0 ks0 s))):=Okg.step (y:=ks1.siz+1) (f:=(one k1 t1 n1 p1 ks1).z31) hok2 G2
 have hs0:=F.get_siz ks 0 _ _ _ _ _ g0
 have hs1:=F.get_siz ks 1 _ _ _ _ _ g1
 have hE:eit nd op ks s=lnd (nd .val k0 t0 n0 p0 ks0 s).nx (nd .val k1 t1 n1 p1 ks1 (gad op 0 0 0 (nd .val k0 t0 n0 p0 ks0 s))):=by unfold eit;rw[e0,e1]
 rw[hE]
 have hlt:(nd .val k0 t0 n0 p0 ks0 s).code.length<(nd .val k1 t1 n1 p1 ks1 (gad op 0 0 0 (nd .val k0 t0 n0 p0 ks0 s))).code.length:=by
  have q:=G2.cl
  obtain ⟨u,hu⟩:∃u,(nd .val k0 t0 n0 p0 ks0 s).us[(nd .val k0 t0 n0 p0 ks0 s).cu]?=some u:=⟨_,List.getElem?_eq_getElem hok1.cu⟩
  have e:(gad op 0 0 0 (nd .val k0 t0 n0 p0 ks0 s)).code.length=(nd .val k0 t0 n0 p0 ks0 s).code.length+1:=by unfold gad;rw[Gs.code_put hu];simp
  omega
 have l1:=hok1.code
 have l3:=hok3.code
 have B:=h.gy #[.int .i64 k,.string ⟨t.toArray⟩,.int .i64 n,.int .i64 p,.slice a ks.len c]
 obtain ⟨X,hX⟩:∃X,W.heap.size=X:=⟨_,rfl⟩
 obtain ⟨W1,hW1⟩:∃W1,W.alloc (.cells #[.int .i64 (k),.string ⟨(t).toArray⟩,.int .i64 (n),.int .i64 (p),.slice a ks.len c] 54)=W1:=⟨_,rfl⟩
 rw[hX,hW1] at B
 obtain ⟨g,o,a0,c0,rfl,hg,d0,d1,d2,d3,d4,hv0,hc0⟩:=Rv.nth ks 0 (B.rv hr) g0
 have C0:=CE (fun g=>No g∨g=X) b tx s W1 k0 t0 n0 p0 a0 c0 ks0 hT B.gk hv0 (by omega) w0 hc0 (hok.mono (by omega) (by omega))
 have x4:=B.bx.five
 have HB:Hid (Gy No b tx s W X #[.int .i64 k,.string ⟨t.toArray⟩,.int .i64 n,.int .i64 p,.slice (some ⟨g,o,none⟩) ks.len c] W1):=B
 have HR:Hid (Rv W No (some ⟨g,o,none⟩) ks):=hr
 have h2':(1:Int)<(ks.len:Int):=by omega
 have h1':(0:Int)<(ks.len:Int):=by omega
 simp only[Nat.zero_mul,Nat.add_zero] at d0 d1 d2 d3 d4
 obtain ⟨x0,x1,x2,x3,x4⟩:=x4
 clear h hr B hv0 hE G0 G1 G2 z0 z1 y0 y1 e0 e1 g0
 go_enter Tryz.func147,Tryz.ntmps147
 go_wp2_with fail
 refine C0.mono ?_
 rintro e w2 hq
 have D2:=HB.out.step hq
 obtain ⟨rfl,-⟩:=hq
 have C1:=D2.gk.add0 op (by omega)
 have HD2:Hid _:=D2
 clear D2 C0
 go_wp2_with fail
 refine C1.mono ?_
 rintro e w3 ⟨rfl,hq1,hq2⟩
 have D3:=HD2.out.to hq1 hq2
 obtain ⟨g',o',a1,c1,eq,hg1,r0,r1,r2,r3,r4,hv1,hc1⟩:=Rv.nth ks 1 (D3.rv HR.out) g1
 injection eq with eq
 injection eq with eq1 eq2
 subst eq1 eq2
 have C2:=CE (fun g=>No g∨g=X) b tx _ w3 k1 t1 n1 p1 a1 c1 ks1 hT D3.gk hv1 (by omega) w1 hc1 (hok2.mono (by omega) (by omega))
 obtain ⟨x0,x1,x2,x3,x4⟩:=D3.bx.five
 have HD3:Hid _:=D3
 clear D3 C1 hq1 hq2 HD2 hv1
 go_wp2_with fail
 refine C2.mono ?_
 rintro e w4 hq
 have D4:=HD3.out.step hq
 obtain ⟨rfl,-⟩:=hq
 have C3:=D4.gk.land1 (nd .val k0 t0 n0 p0 ks0 s).nx (by unfold Gs.nx;omega) (by unfold Gs.nx;omega) (by omega)
 have HD4:Hid _:=D4
 clear D4 C2 HD3
 go_wp2_with fail
 refine C3.mono ?_
 rintro e w5 hq
 have H5:Hid _:=(HD4.out.step hq).out
 obtain ⟨rfl,-⟩:=hq
 go_wp2
 go_end0
 exact ⟨rfl,H5.out.2⟩
end Go.Proofs.YtkjbgggghigapaaGreat


namespace Go.Proofs.YtkjbgggghigapaaGreat
open Go.RowKit
set_option maxRecDepth 20000 in
set_option maxHeartbeats 4000000 in
theorem unary_any (t:Tx) (w:World):Calls Tryz.prog 133 #[.string ⟨t.toArray⟩] w fun e w'=>e= .returned (.int .i64 (unN t))∧w'=w:=by
 by_cases h0:t=[110,111,116]
 ·subst h0
  rw[show unN [110,111,116]=1 from by decide]
  go_enter Tryz.func133,Tryz.ntmps133
  go_wp2
  go_ret
  exact ⟨rfl,rfl⟩
 by_cases h1:t=[35]
 ·subst h1
  rw[show unN [35]=2 from by decide]
  clear h0
  go_enter Tryz.func133,Tryz.ntmps133
  go_wp2
  go_ret
  exact ⟨rfl,rfl⟩
 have hv:unN t=3:=by unfold unN;simp[h0,h1]
 rw[hv]
 have g0:(t==[110,111,116])=false:=by simpa using h0
 have g1:(t==[35])=false:=by simpa using h1
 clear hv h0 h1
 go_enter Tryz.func133,Tryz.ntmps133
 go_wp2
 go_ret
 exact ⟨rfl,rfl⟩
set_option maxRecDepth 20000 in
set_option maxHeartbeats 4000000 in
theorem binaryN_any (t:Tx) (w:World):Calls Tryz.prog 148 #[.string ⟨t.toArray⟩] w fun e w'=>e= .returned (.int .i64 (biN t))∧w'=w:=by
 by_cases h0:t=[43]
 ·subst h0
  rw[show biN [43]=1 from by decide]
  go_enter Tryz.func148,Tryz.ntmps148
  go_wp2
  go_ret
  exact ⟨rfl,rfl⟩
 by_cases h1:t=[45]
 ·subst h1
  rw[show biN [45]=2 from by decide]
  clear h0
  go_enter Tryz.func148,Tryz.ntmps148
  go_wp2
  go_ret
  exact ⟨rfl,rfl⟩
 by_cases h2:t=[42]
 ·subst h2
  rw[show biN [42]=3 from by decide]
  clear h0 h1
  go_enter Tryz.func148,Tryz.ntmps148
  go_wp2
  go_ret
  exact ⟨rfl,rfl⟩
 by_cases h3:t=[47,47]
 ·subst h3
  rw[show biN [47,47]=4 from by decide]
  clear h0 h1 h2
  go_enter Tryz.func148,Tryz.ntmps148
  go_wp2
  go_ret
  exact ⟨rfl,rfl⟩
 by_cases h4:t=[37]
 ·subst h4
  rw[show biN [37]=5 from by decide]
  clear h0 h1 h2 h3
  go_enter Tryz.func148,Tryz.ntmps148
  go_wp2
  go_ret
  exact ⟨rfl,rfl⟩
 by_cases h5:t=[46,46]
 ·subst h5
  rw[show biN [46,46]=6 from by decide]
  clear h0 h1 h2 h3 h4
  go_enter Tryz.func148,Tryz.ntmps148
  go_wp2
  go_ret
  exact ⟨rfl,rfl⟩
 by_cases h6:t=[61,61]
 ·subst h6
  rw[show biN [61,61]=7 from by decide]
  clear h0 h1 h2 h3 h4 h5
  go_enter Tryz.func148,Tryz.ntmps148
  go_wp2
  go_ret
  exact ⟨rfl,rfl⟩
 by_cases h7:t=[126,61]
 ·subst h7
  rw[show biN [126,61]=8 from by decide]
  clear h0 h1 h2 h3 h4 h5 h6
  go_enter Tryz.func148,Tryz.ntmps148
  go_wp2
  go_ret
  exact ⟨rfl,rfl⟩
 by_cases h8:t=[60]
 ·subst h8
  rw[show biN [60]=9 from by decide]
  clear h0 h1 h2 h3 h4 h5 h6 h7
  go_enter Tryz.func148,Tryz.ntmps148
  go_wp2
  go_ret
  exact ⟨rfl,rfl⟩
 by_cases h9:t=[60,61]
 ·subst h9
  rw[show biN [60,61]=10 from by decide]
  clear h0 h1 h2 h3 h4 h5 h6 h7 h8
  go_enter Tryz.func148,Tryz.ntmps148
  go_wp2
  go_ret
  exact ⟨rfl,rfl⟩
 by_cases h10:t=[62]
 ·subst h10
  rw[show biN [62]=11 from by decide]
  clear h0 h1 h2 h3 h4 h5 h6 h7 h8 h9
  go_enter Tryz.func148,Tryz.ntmps148
  go_wp2
  go_ret
  exact ⟨rfl,rfl⟩
 by_cases h11:t=[62,61]
 ·subst h11
  rw[show biN [62,61]=12 from by decide]
  clear h0 h1 h2 h3 h4 h5 h6 h7 h8 h9 h10
  go_enter Tryz.func148,Tryz.ntmps148
  go_wp2
  go_ret
  exact ⟨rfl,rfl⟩
 have hv:biN t=0:=by unfold biN;simp[h0,h1,h2,h3,h4,h5,h6,h7,h8,h9,h10,h11]
 rw[hv]
 have g0:(t==[43])=false:=by simpa using h0
 have g1:(t==[45])=false:=by simpa using h1
 have g2:(t==[42])=false:=by simpa using h2
 have g3:(t==[47,47])=false:=by simpa using h3
 have g4:(t==[37])=false:=by simpa using h4
 have g5:(t==[46,46])=false:=by simpa using h5
 have g6:(t==[61,61])=false:=by simpa using h6
 have g7:(t==[126,61])=false:=by simpa using h7
 have g8:(t==[60])=false:=by simpa using h8
 have g9:(t==[60,61])=false:=by simpa using h9
 have g10:(t==[62])=false:=by simpa using h10
 have g11:(t==[62,61])=false:=by simpa using h11
 clear hv h0 h1 h2 h3 h4 h5 h6 h7 h8 h9 h10 h11
 go_enter Tryz.func148,Tryz.ntmps148
 go_wp2
 go_ret
 exact ⟨rfl,rfl⟩
set_option maxRecDepth 20000 in
set_option maxHeartbeats 8000000 in
theorem bringLoop_any (No:Nat→Prop) (b:Nat) (t:Tx) (s:Gs) (W:World) (a:Option Addr) (c:Nat) (r:F) (h:Gk No b t s W) (hr:Rv W No a r) (hL:s.lo.length+3+r.len≤100000000):
 Calls Tryz.prog 112 #[.pointer (some ⟨b,0,none⟩),.slice a r.len c] W (GP No b t W (brL r s)):=by
 obtain ⟨i0,hi0,hz0,hz1,hz2⟩:=info_parts info9
 obtain ⟨x,h⟩:=h
 have q4:W.cell? ⟨b,2,none⟩=some x.vL:=h.mx.c 2 _ rfl
 have q4A:∀o,(W.alloc o).cell? ⟨b,2,none⟩=some x.vL:=fun o=>(h.alloc o).mx.c 2 _ rfl
 have HF:Hid (∀o w3,(W.alloc o).grownBy w3 x.vL.ownBlock→w3.frozen? ⟨b,2,none⟩=false∧w3.cell? ⟨b,2,none⟩=some x.vL):=fun o w3 hg3=>by
  have hb3:Bx b 101 (mcl x s) w3:=⟨(hg3.block b (Nat.lt_of_lt_of_le h.lt (by simp)) (fun e=>by have:=h.lL b e.symm;have:=h.lb;omega)).trans (h.mx.alloc o).blk⟩
  exact ⟨hb3.f 2,hb3.c 2 _ rfl⟩
 have hlr:=h.lr
 obtain ⟨aL,cL,hvL⟩:=row_form hlr
 have HX:Hid (GK No b t x s W∧Rv W No a r):=⟨h,hr⟩
 have C:=fun V (hc:Gk No b t {s with lo:=s.lo++[[],[],[]]} V) (hv:Rv V No a r)=>bringG_any No b t {s with lo:=s.lo++[[],[],[]]} V a c r hc hv (by simp only[List.length_append,List.length_cons,List.length_nil];omega)
 rw[hvL] at q4 q4A HF hlr
 clear h hr
 go_enter Tryz.func112,Tryz.ntmps112
 go_wp2_with (at_builtin;refine wpList_append_lies _ rfl _ _ 23 rfl 0 9 i0 _ 1 16 Tryz.underlying23 hi0 hz0 hz1 hz2 rfl (by omega) (.slice aL s.lo.length cL) s.lo.length (strs s.lo) rfl (hlr.alloc _) ⟨W.heap.size,0,none⟩ 3 3 [.string ⟨#[]⟩,.string ⟨#[]⟩,.string ⟨#[]⟩] rfl rfl (World.news_of_block (cs:=#[.string ⟨#[]⟩,.string ⟨#[]⟩,.string ⟨#[]⟩]) (t:=9) (fr:=(0,0)) (Bx.new W 9 #[.string ⟨#[]⟩,.string ⟨#[]⟩,.string ⟨#[]⟩]).blk) (by simp[Value.oneCell']) (by omega) (by unfold maxLen;omega) (by omega) (by omega) _ rfl ?_;intro gg cc w3 hown3 hg3 hat3 hlt3;obtain ⟨fz4,fc4⟩:=HF.out _ w3 hg3)
 have hA:=HX.out.1.appL (ys:=[[],[],[]]) (w1:=W.alloc (.cells #[.string ⟨#[]⟩,.string ⟨#[]⟩,.string ⟨#[]⟩] 9)) (b1 _ _) hown3 (by rw[hvL];exact hg3) (by rw[hvL];exact hat3)
 have C2:=C _ hA.1 (HX.out.2.kn hA.2)
 have HK:Hid (Kn No W _):=hA.2
 clear hA hown3 hg3 hat3 hlt3 fz4 fc4 C HF HX hlr q4 q4A
 go_wp2_with fail
 refine C2.mono ?_
 rintro e w5 ⟨rfl,h5,k5⟩
 have H5:Hid (GP No b t W (brL r s) (.returned (.tuple #[])) w5):=⟨rfl,h5,HK.out.trans k5⟩
 go_wp2
 go_end0
 exact H5.out
end Go.Proofs.YtkjbgggghigapaaGreat


namespace Go.Proofs.YtkjbgggghigapaaGreat
open Go.RowKit
theorem gb_vls {L:Tx} {nd:Jg→Ndg} (H:GG L (nd .val)):∀(r:F) (s:Gs),r.wfG L=true→Gb L r.siz r.z31 s (vls nd r s)
 | .nil,s,_=>.refl _ _ _ _
 | .cons k t n p ks r,s,h=>by
   obtain ⟨h1,h2⟩:=F.wfG_cons h
   have q:=(H k t n p ks s h1).trans (gb_vls H r (nd .val k t n p ks s) h2)
   rw[z31_cons]
   exact q.mono (by simp only[F.siz];omega) (Nat.le_refl _)
set_option maxRecDepth 20000 in
set_option maxHeartbeats 8000000 in
theorem binary_any {L:Tx} {N:Nat} {nd:Jg→Ndg} (H:GG L (nd .val)) (CE:GN 109 L N (nd .val)) (No:Nat→Prop) (b:Nat) (tx:Tx) (s:Gs) (W:World) (k:Int) (t:Tx) (n p:Int) (a:Option Addr) (c:Nat) (ks:F) (hT:Hid (tx=L)) (h:Gk No b tx s W) (hr:Rv W No a ks) (hs:ks.siz≤N) (hw:ks.wfG L=true) (h2:2≤ks.len) (hL:Okg L (ks.siz+1) ks.z31 s):
 Calls Tryz.prog 134 #[.pointer (some ⟨b,0,none⟩),(.agg #[.int .i64 (k),.string ⟨(t).toArray⟩,.int .i64 (n),.int .i64 (p),.slice a ks.len c])] W (GP No b tx W (binG nd t ks s)):=by
 have B:=h.gy #[.int .i64 k,.string ⟨t.toArray⟩,.int .i64 n,.int .i64 p,.slice a ks.len c]
 obtain ⟨X,hX⟩:∃X,W.heap.size=X:=⟨_,rfl⟩
 obtain ⟨W1,hW1⟩:∃W1,W.alloc (.cells #[.int .i64 (k),.string ⟨(t).toArray⟩,.int .i64 (n),.int .i64 (p),.slice a ks.len c] 54)=W1:=⟨_,rfl⟩
 rw[hX,hW1] at B
 have CX:=fun op=>either_any H CE op (fun g=>No g∨g=X) b tx s W1 k t n p a c ks hT B.gk (B.rv hr) hs hw h2 hL
 have CV:=values_any H CE (fun g=>No g∨g=X) b tx s W1 a c ks hT B.gk (B.rv hr) hs hw (hL.mono (by omega) (Nat.le_refl _))
 have l1:(vls nd ks s).code.length≤90000000:=(Okg.step (y:=ks.siz) (z:=1) (f:=ks.z31) (g:=0) hL (gb_vls H ks s hw)).code
 obtain ⟨x0,x1,x2,x3,x4⟩:=B.bx.five
 have HB:Hid (Gy No b tx s W X #[.int .i64 k,.string ⟨t.toArray⟩,.int .i64 n,.int .i64 p,.slice a ks.len c] W1):=B
 clear h hr B
 by_cases h0:t=[97,110,100]
 ·have hE:binG nd t ks s=eit nd 20 ks s:=by unfold binG;rw[if_pos h0]
  rw[hE]
  subst h0
  have C:=CX 20
  clear CX CV hE
  go_enter Tryz.func134,Tryz.ntmps134
  go_wp2_with fail
  refine C.mono ?_
  rintro e w2 hq
  have H5:Hid _:=(HB.out.step hq).out
  obtain ⟨rfl,-⟩:=hq
  go_wp2
  go_end0
  exact ⟨rfl,H5.out.2⟩
 by_cases h1:t=[111,114]
 ·have hE:binG nd t ks s=eit nd 21 ks s:=by unfold binG;rw[if_neg h0,if_pos h1]
  rw[hE]
  subst h1
  have C:=CX 21
  clear CX CV hE h0
  go_enter Tryz.func134,Tryz.ntmps134
  go_wp2_with fail
  refine C.mono ?_
  rintro e w2 hq
  have H5:Hid _:=(HB.out.step hq).out
  obtain ⟨rfl,-⟩:=hq
  go_wp2
  go_end0
  exact ⟨rfl,H5.out.2⟩
 have hE:binG nd t ks s=gad 17 (biN t) 0 0 (vls nd ks s):=by unfold binG;rw[if_neg h0,if_neg h1]
 rw[hE]
 have g0:(t==[97,110,100])=false:=by simpa using h0
 have g1:(t==[111,114])=false:=by simpa using h1
 clear CX hE h0 h1
 go_enter Tryz.func134,Tryz.ntmps134
 go_wp2_with fail
 refine CV.mono ?_
 rintro e w2 hq
 have D2:=HB.out.step hq
 obtain ⟨rfl,-⟩:=hq
 obtain ⟨x0,x1,x2,x3,x4⟩:=D2.bx.five
 have C2:=binaryN_any t w2
 have C3:=D2.gk.add1 17 (biN t) (by omega)
 have HD2:Hid _:=D2
 clear D2 CV
 go_wp2_with fail
 refine C2.mono ?_
 rintro e w3 ⟨rfl,rfl⟩
 go_wp2_with fail
 refine C3.mono ?_
 rintro e w4 ⟨rfl,hq1,hq2⟩
 have H5:Hid _:=(HD2.out.to hq1 hq2).out
 go_wp2
 go_end0
 exact ⟨rfl,H5.out.2⟩
end Go.Proofs.YtkjbgggghigapaaGreat


namespace Go.Proofs.YtkjbgggghigapaaGreat
open Go.RowKit
theorem F.len_take:∀(f:F) (i:Nat),i≤f.len→(f.take i).len=i
 | .nil,i,h=>by simp only[F.len] at h;obtain rfl:i=0:=by omega
                rfl
 | .cons _ _ _ _ _ _,0,_=>rfl
 | .cons k t n p ks r,i+1,h=>by simp only[F.len,F.take] at h⊢;rw[F.len_take r i (by omega)]
def GC (L:Tx) (N:Nat) (nd:Int→Ndg):Prop:=∀(x:Int) (No:Nat→Prop) (b:Nat) (tx:Tx) (s:Gs) (W:World) (k:Int) (t:Tx) (n p:Int) (a:Option Addr) (c:Nat) (ks:F),k=8→tx=L→Gk No b tx s W→Rv W No a ks→ks.siz<N→(one k t n p ks).wfG L=true→(ks.len≤c∧c≤maxLen)→Okg L (ks.siz+1) (one k t n p ks).z31 s→
 Calls Tryz.prog 72 #[.pointer (some ⟨b,0,none⟩),(.agg #[.int .i64 (k),.string ⟨(t).toArray⟩,.int .i64 (n),.int .i64 (p),.slice a ks.len c]),.int .i64 x] W (GP No b tx W (nd x k t n p ks s))
set_option maxRecDepth 20000 in
set_option maxHeartbeats 8000000 in
theorem open_any {L:Tx} {N:Nat} {nd:Jg→Ndg} (H:GG L (nd .val)) (CE:GN 109 L N (nd .val)) (CC:GC L N fun x=>nd (.cal x)) (No:Nat→Prop) (b:Nat) (tx:Tx) (s:Gs) (W:World) (a:Option Addr) (c:Nat) (r:F) (hT:Hid (tx=L)) (h:Gk No b tx s W) (hr:Rv W No a r) (hs:r.siz≤N) (hw:r.wfG L=true) (hc:r.len≤c) (hL:Okg L r.siz r.z31 s):
 Calls Tryz.prog 77 #[.pointer (some ⟨b,0,none⟩),.slice a r.len c] W (GP No b tx W (opn nd r s)):=by
 have hlen:=r.len_siz
 have hsz:r.siz≤10000000:=by have:=hL.wt;omega
 have wl:IntKind.i64.wrap ((r.len:Int) - 1)=(r.len:Int) - 1:=by rw[IntKind.wrap_i64];omega
 have CV:=values_any H CE No b tx s W a c r hT h hr hs hw hL
 by_cases h0:r.len=0
 ·have hE:opn nd r s=vls nd r s:=by unfold opn;rw[if_pos (.inl h0)]
  rw[hE]
  rw[h0] at CV wl⊢
  clear hE h hr CC CE H
  go_enter Tryz.func77,Tryz.ntmps77
  go_wp2_with fail
  refine CV.mono ?_
  rintro e w2 hq
  have H5:Hid _:=hq
  obtain ⟨rfl,-⟩:=hq
  go_wp2
  go_end0
  exact ⟨rfl,H5.out.2⟩
 obtain ⟨⟨k1,t1,n1,p1,ks1⟩,g1⟩:=r.get_some (r.len - 1) (by omega)
 obtain ⟨m,hm⟩:∃m,r.len=m+1:=⟨r.len - 1,by omega⟩
 have hm1:r.len - 1=m:=by omega
 rw[hm1] at g1
 have hkd:kdA r (r.len - 1)=k1:=by unfold kdA;rw[hm1,g1];rfl
 obtain ⟨g,o,a1,c1,rfl,hg,d0,d1,d2,d3,d4,hv1,hc1⟩:=Rv.nth r m hr g1
 have hmi:((r.len:Nat):Int) - 1=(m:Int):=by omega
 have hml:(m:Int)<(r.len:Int):=by omega
 rw[hmi] at wl
 by_cases h8:k1=8
 ·have hE:opn nd r s=nd (.cal (-1)) k1 t1 n1 p1 ks1 (vls nd (r.take m) s):=by
   unfold opn
   rw[if_neg (by rw[hkd];omega),hm1]
   unfold ndK
   rw[g1];rfl
  rw[hE]
  have z0:=F.td_siz r m
  have z1:=F.get_drop r m g1
  have y0:=F.td_z31 r m
  have y1:=F.get_z31 r m g1
  have w1:=F.wfG_get r m hw g1
  have hok:Okg L ((r.take m).siz+(ks1.siz+1)) ((r.take m).z31+(one k1 t1 n1 p1 ks1).z31) s:=hL.mono (by omega) (by omega)
  have hok2:=hok.step (gb_vls H (r.take m) s (F.wfG_take r m hw))
  have CT:=values_any H CE No b tx s W (some ⟨g,o,none⟩) c (r.take m) hT h (hr.take m) (by omega) (F.wfG_take r m hw) (hL.mono (by omega) (by omega))
  rw[F.len_take r m (by omega)] at CT
  have SL:∀W,(Instr.sliceAt 52 (.slice (some ⟨g,o,none⟩) (m+1) c) none (some (.int .i64 (m:Nat))) none).run Tryz.prog W= .ok (.slice (some ⟨g,o,none⟩) m c) W:=fun W=>by
   have q1:m≤c:=by omega
   simp[go_sem,Instr.sliceAt,q1]
  have HR:Hid (Rv W No (some ⟨g,o,none⟩) r∧r.get? m=some (k1,t1,n1,p1,ks1)):=⟨hr,g1⟩
  have C9:=fun V hV a1 c1 hv hcc=>CC (-1) No b tx (vls nd (r.take m) s) V k1 t1 n1 p1 a1 c1 ks1 h8 hT hV hv (by omega) w1 hcc hok2
  clear hE h hr CC CE H hkd g1 hv1 hc1 hok CV
  rw[hm] at hml⊢
  subst h8
  go_enter Tryz.func77,Tryz.ntmps77
  go_wp2_with fail
  refine CT.mono ?_
  rintro e w2 ⟨rfl,hq1,hq2⟩
  obtain ⟨g',o',a2,c2,eq,hg2,r0,r1,r2,r3,r4,hv2,hc2⟩:=Rv.nth r m (HR.out.1.kn hq2) HR.out.2
  injection eq with eq
  injection eq with eq1 eq2
  subst eq1 eq2
  have C3:=C9 w2 hq1 a2 c2 hv2 hc2
  have HK:Hid (Kn No W w2):=hq2
  clear C9 CT hq1 hq2 hv2 hc2
  go_wp2_with fail
  refine C3.mono ?_
  rintro e w3 ⟨rfl,hq1,hq2⟩
  have H5:Hid (Gk No b tx _ w3∧Kn No W w3):=⟨hq1,HK.out.trans hq2⟩
  go_wp2
  go_end0
  exact ⟨rfl,H5.out⟩
 ·have hE:opn nd r s=vls nd r s:=by unfold opn;rw[if_pos (.inr (by rw[hkd];exact h8))]
  rw[hE]
  have hb1:(k1==8)=false:=by simpa using h8
  have hb2:(k1 !=8)=true:=by simpa using h8
  have wm:IntKind.i64.wrap ((m:Int)+1 - 1)=(m:Int):=by rw[IntKind.wrap_i64];omega
  clear hE h hr CC CE H hkd g1 hv1 hc1 h8 h0 hw hL hs hT hlen hsz hm1
  rw[hm] at CV hml⊢
  clear hm hmi
  go_enter Tryz.func77,Tryz.ntmps77
  go_wp2_with fail
  refine CV.mono ?_
  rintro e w2 hq
  have H5:Hid _:=hq
  obtain ⟨rfl,-⟩:=hq
  go_wp2
  go_end0
  exact ⟨rfl,H5.out.2⟩
end Go.Proofs.YtkjbgggghigapaaGreat


namespace Go.Proofs.YtkjbgggghigapaaGreat
open Go.RowKit
theorem slice_from (a:Option Addr) (m c:Nat) (ks:F) (hm:m≤ks.len) (hc:ks.len≤c) {P:Nat→Prop}:∃a2 c2,(∀W,(Instr.sliceAt 52 (.slice a ks.len c) (some (.int .i64 (m:Nat))) none none).run Tryz.prog W= .ok (.slice a2 (ks.len - m) c2) W)∧∀w,Rv w P a ks→Rv w P a2 (ks.drop m):=by
 refine ⟨if c=m then a else a.map (·.add (m * 5)),c - m,fun W=>?_,fun w h=>?_⟩
 ·simp[go_sem,Instr.sliceAt,hm]
 ·by_cases hlt:m<ks.len
  ·rw[if_neg (by omega)]
   obtain ⟨x,hx⟩:=ks.get_some 0 (by omega)
   obtain ⟨g,o,_,_,e,_⟩:=Rv.nth ks 0 h (k:=x.1) (t:=x.2.1) (n:=x.2.2.1) (p:=x.2.2.2.1) (ks:=x.2.2.2.2) hx
   subst e
   have q:=Rv.drop ks m h
   simp only[Option.map_some]
   unfold Addr.add
   split
   ·next h0=>
    have h0:m=0:=by omega
    subst h0
    simpa using q
   ·exact q
  ·have e:m=ks.len:=by omega
   rw[e,F.drop_all ks]
   exact Rv.nil _
set_option maxRecDepth 20000 in
set_option maxHeartbeats 8000000 in
theorem localc_any {N:Nat} {nd:Ndc} (H:∀k t n p ks s,Gd (ks.siz+1) s (nd k t n p ks s)) (CE:CN 23 N nd) (No:Nat→Prop) (b:Nat) (s:Cs) (W:World) (k:Int) (t:Tx) (m:Nat) (p:Int) (a:Option Addr) (c:Nat) (ks:F) (h:Ck No b s W) (hr:Rv W No a ks) (hs:ks.siz<N+1) (hwk:ks.wfC=true) (hcc:ks.len≤c∧c≤maxLen) (hm:m≤ks.len) (hL:s.wt+4 * (ks.siz+1)≤1000000) (hp0:0≤s.lp) (hp:s.lp+((ks.siz:Nat):Int)+1≤1000000):
 Calls Tryz.prog 57 #[.pointer (some ⟨b,0,none⟩),(.agg #[.int .i64 (k),.string ⟨(t).toArray⟩,.int .i64 ((m:Nat)),.int .i64 (p),.slice a ks.len c])] W (CP No b W (bri p (ks.take m) (ckN nd (ks.drop m) (lim p ((ks.len:Int) - m) 50 (lim p m 50 s))))):=by
 have hlen:=ks.len_siz
 have hcm:m≤c:=by omega
 have hcm':(m:Int)≤(c:Int):=by omega
 have hm0:¬(m:Int)<0:=by omega
 have wl:IntKind.i64.wrap ((ks.len:Int) - (m:Int))=(ks.len:Int) - (m:Int):=by rw[IntKind.wrap_i64];omega
 have B:=h.cy #[.int .i64 k,.string ⟨t.toArray⟩,.int .i64 (m:Nat),.int .i64 p,.slice a ks.len c]
 obtain ⟨X,hX⟩:∃X,W.heap.size=X:=⟨_,rfl⟩
 obtain ⟨W1,hW1⟩:∃W1,W.alloc (.cells #[.int .i64 (k),.string ⟨(t).toArray⟩,.int .i64 ((m:Nat)),.int .i64 (p),.slice a ks.len c] 54)=W1:=⟨_,rfl⟩
 rw[hX,hW1] at B
 have C1:=limit_any B.ck k t m p (.slice a ks.len c) (m:Int) 50
 have g1:=gd_lim p (m:Int) 50 s
 generalize lim p (m:Int) 50 s=s1 at *
 have g2:=gd_lim p ((ks.len:Int) - (m:Int)) 50 s1
 have HS2:Hid (lim p ((ks.len:Int) - (m:Int)) 50 s1=lim p ((ks.len:Int) - (m:Int)) 50 s1):=rfl
 have C2:Hid (∀(w:World),Ck (fun g=>No g∨g=X) b s1 w→Calls Tryz.prog 37 #[.pointer (some ⟨b,0,none⟩),(.agg #[.int .i64 (k),.string ⟨(t).toArray⟩,.int .i64 ((m:Nat)),.int .i64 (p),.slice a ks.len c]),.int .i64 ((ks.len:Int) - (m:Int)),.int .i64 50] w (CP (fun g=>No g∨g=X) b w (lim p ((ks.len:Int) - (m:Int)) 50 s1))):=fun w hw=>limit_any hw k t m p (.slice a ks.len c) ((ks.len:Int) - (m:Int)) 50
 generalize lim p ((ks.len:Int) - (m:Int)) 50 s1=s2 at *
 have hts:=F.td_siz ks m
 have htl:=(ks.take m).len_siz
 have w1:=g1.wt
 have w2:=g2.wt
 have l1:=g1.lp
 have l2:=g2.lp
 have g3:=gd_ckN H (ks.drop m) s2
 have w3:=g3.wt
 have C3:Hid (∀(w:World) (a':Option Addr) (c':Nat),Ck (fun g=>No g∨g=X) b s2 w→Rv w (fun g=>No g∨g=X) a' (ks.drop m)→Calls Tryz.prog 38 #[.pointer (some ⟨b,0,none⟩),.slice a' (ks.len - m) c'] w (CP (fun g=>No g∨g=X) b w (ckN nd (ks.drop m) s2))):=fun w a' c' hw hv=>by
  have:=nodes_any H CE (fun g=>No g∨g=X) b s2 w a' c' (ks.drop m) hw hv (by omega) (F.wfC_drop ks m hwk) (by omega) (by omega) (by omega)
  rw[F.drop_len] at this
  exact this
 generalize ckN nd (ks.drop m) s2=s3 at *
 have C4:Hid (∀(w:World),Ck (fun g=>No g∨g=X) b s3 w→Rv w (fun g=>No g∨g=X) a ks→Calls Tryz.prog 81 #[.pointer (some ⟨b,0,none⟩),(.agg #[.int .i64 (k),.string ⟨(t).toArray⟩,.int .i64 ((m:Nat)),.int .i64 (p),.slice a ks.len c]),.slice a m c] w (CP (fun g=>No g∨g=X) b w (bri p (ks.take m) s3))):=fun w hw hv=>by
  have:=bring_any (fun g=>No g∨g=X) b s3 w k t (m:Nat) p (.slice a ks.len c) a c (ks.take m) hw (hv.take m) (by omega)
  rw[F.take_len ks m hm] at this
  exact this
 obtain ⟨p0,p1,p2,p3,p4⟩:=B.bx.five
 have HB:Hid (_∧_):=⟨B,hr⟩
 clear h B g1 g2 g3 w1 w2 w3 l1 l2
 obtain ⟨a2,c2,hsl,hR2⟩:∃a2 c2,(∀W,(Instr.sliceAt 52 (.slice a ks.len c) (some (.int .i64 (m:Nat))) none none).run Tryz.prog W= .ok (.slice a2 (ks.len - m) c2) W)∧∀w,Rv w (fun g=>No g∨g=X) a ks→Rv w (fun g=>No g∨g=X) a2 (ks.drop m):=slice_from a m c ks hm (by omega)
 have HR2:Hid _:=hR2
 clear hr hR2
 go_enter Tryz.func57,Tryz.ntmps57
 go_wp2_with fail
 refine C1.mono ?_
 rintro e v1 hq
 have D1:=HB.out.1.step hq
 obtain ⟨rfl,-⟩:=hq
 obtain ⟨q0,q1,q2,q3,q4⟩:=D1.bx.five
 have K2:=C2.out v1 D1.ck
 have HD1:Hid _:=D1
 clear C1 D1
 go_wp2_with fail
 refine K2.mono ?_
 rintro e v2 hq
 have D2:=HD1.out.step hq
 obtain ⟨rfl,-⟩:=hq
 obtain ⟨r0,r1,r2,r3,r4⟩:=D2.bx.five
 have K3:=C3.out v2 a2 c2 D2.ck (HR2.out v2 (D2.rv HB.out.2))
 have HD2:Hid _:=D2
 clear K2 D2 HD1
 go_wp2_with fail
 refine K3.mono ?_
 rintro e v3 hq
 have D3:=HD2.out.step hq
 obtain ⟨rfl,-⟩:=hq
 obtain ⟨u0,u1,u2,u3,u4⟩:=D3.bx.five
 have K4:=C4.out v3.drew D3.drew.ck (D3.drew.rv HB.out.2)
 have HD3:Hid _:=D3.drew
 clear K3 D3 HD2 hsl
 go_wp2_with fail
 go_region_with (refine K4.mono ?_;rintro e v4 hq;have D4:=(HD3.out.step hq).out;obtain ⟨rfl,-⟩:=hq)
 all_goals
  go_wp2
  go_end0
  exact D4
end Go.Proofs.YtkjbgggghigapaaGreat


namespace Go.Proofs.YtkjbgggghigapaaGreat
open Go.RowKit
theorem slice_from2 (W0:World) (a:Option Addr) (m c:Nat) (ks:F) (hm:m≤ks.len) (hc:ks.len≤c) {P:Nat→Prop}:∃a2 c2,(∀W,(Instr.sliceAt 52 (.slice a ks.len c) (some (.int .i64 (m:Nat))) none none).run Tryz.prog W= .ok (.slice a2 (ks.len - m) c2) W)∧(∀w,Rv w P a ks→Rv w P a2 (ks.drop m))∧ks.len - m≤c2:=by
 obtain ⟨a2,c2,h1,h2⟩:=slice_from a m c ks hm hc (P:=P)
 refine ⟨a2,c2,h1,h2,?_⟩
 have h:=h1 W0
 simp[go_sem,Instr.sliceAt,hm] at h
 omega
theorem gb_opn {L:Tx} {nd:Jg→Ndg} (H:GG L (nd .val)) (H8:GG L (nd (.cal (-1)))) (r:F) (s:Gs) (hw:r.wfG L=true):Gb L r.siz r.z31 s (opn nd r s):=by
 unfold opn
 by_cases h:r.len=0∨kdA r (r.len - 1)≠8
 ·rw[if_pos h];exact gb_vls H r s hw
 ·rw[if_neg h]
  obtain ⟨⟨k1,t1,n1,p1,ks1⟩,g1⟩:=r.get_some (r.len - 1) (by omega)
  have e:ndK nd (.cal (-1)) r (r.len - 1) (vls nd (r.take (r.len - 1)) s)=nd (.cal (-1)) k1 t1 n1 p1 ks1 (vls nd (r.take (r.len - 1)) s):=by unfold ndK;rw[g1];rfl
  rw[e]
  have q:=(gb_vls H (r.take (r.len - 1)) s (F.wfG_take r _ hw)).trans (H8 k1 t1 n1 p1 ks1 _ (F.wfG_get r _ hw g1))
  have z0:=F.td_siz r (r.len - 1)
  have z1:=F.get_drop r (r.len - 1) g1
  have y0:=F.td_z31 r (r.len - 1)
  have y1:=F.get_z31 r (r.len - 1) g1
  exact q.mono (by omega) (by omega)
set_option maxRecDepth 20000 in
set_option maxHeartbeats 8000000 in
theorem call_any {L:Tx} {N:Nat} {nd:Jg→Ndg} (H:GG L (nd .val)) (H8:GG L (nd (.cal (-1)))) (CE:GN 109 L N (nd .val)) (CC:GC L N fun x=>nd (.cal x)) (x:Int) (No:Nat→Prop) (b:Nat) (tx:Tx) (s:Gs) (W:World) (k:Int) (t:Tx) (n p:Int) (a:Option Addr) (c:Nat) (ks:F) (hT:Hid (tx=L)) (h:Gk No b tx s W) (hr:Rv W No a ks) (hs:ks.siz≤N) (hw:ks.wfG L=true) (h1:1≤ks.len) (hcc:ks.len≤c∧c≤maxLen) (hL:Okg L (ks.siz+1) ks.z31 s):
 Calls Tryz.prog 72 #[.pointer (some ⟨b,0,none⟩),(.agg #[.int .i64 (k),.string ⟨(t).toArray⟩,.int .i64 (n),.int .i64 (p),.slice a ks.len c]),.int .i64 x] W (GP No b tx W (calG nd x ks s)):=by
 obtain ⟨⟨k0,t0,n0,p0,ks0⟩,g0⟩:=ks.get_some 0 (by omega)
 have e0:∀s,ndK nd .val ks 0 s=nd .val k0 t0 n0 p0 ks0 s:=fun s=>by unfold ndK;rw[g0];rfl
 have z0:=F.td_siz ks 1
 have y0:=F.td_z31 ks 1
 have hok:Okg L ((ks0.siz+1)+(1+(ks.drop 1).siz)) ((one k0 t0 n0 p0 ks0).z31+(0+(ks.drop 1).z31)) s:=by
  have q0:=F.get_z31 (ks.take 1) 0 (k:=k0) (t:=t0) (n:=n0) (p:=p0) (ks:=ks0) (by cases ks<;>simp_all[F.take,F.get?])
  have q1:=F.get_drop (ks.take 1) 0 (k:=k0) (t:=t0) (n:=n0) (p:=p0) (ks:=ks0) (by cases ks<;>simp_all[F.take,F.get?])
  have q2:=F.td_siz (ks.take 1) 0
  have q3:=F.td_z31 (ks.take 1) 0
  exact hL.mono (by omega) (by omega)
 have w0:=F.wfG_get ks 0 hw g0
 have w1:=F.wfG_drop ks 1 hw
 have G0:=H k0 t0 n0 p0 ks0 s w0
 have hok1:=hok.step G0
 have G1:=gb_gad 22 0 0 0 (nd .val k0 t0 n0 p0 ks0 s) L 1 0 (by omega)
 have hok2:=hok1.step G1
 have G2:=gb_opn H H8 (ks.drop 1) (gad 22 0 0 0 (nd .val k0 t0 n0 p0 ks0 s)) w1
 have hok3:Okg L 0 0 (opn nd (ks.drop 1) (gad 22 0 0 0 (nd .val k0 t0 n0 p0 ks0 s))):=Okg.step (y:=(ks.drop 1).siz) (f:=(ks.drop 1).z31) hok2 G2
 have hs0:=F.get_siz ks 0 _ _ _ _ _ g0
 have hE:calG nd x ks s=gad 24 x 0 0 (opn nd (ks.drop 1) (gad 22 0 0 0 (nd .val k0 t0 n0 p0 ks0 s))):=by unfold calG;rw[e0]
 rw[hE]
 have l1:=hok1.code
 have l3:=hok3.code
 have hld:(ks.drop 1).len=ks.len - 1:=by cases ks<;>simp_all[F.drop,F.len]
 have hsz:ks.siz≤10000000:=by have:=hL.wt;omega
 have hlen:=ks.len_siz
 have hsd:(ks.drop 1).siz≤N:=by omega
 have B:=h.gy #[.int .i64 k,.string ⟨t.toArray⟩,.int .i64 n,.int .i64 p,.slice a ks.len c]
 obtain ⟨X,hX⟩:∃X,W.heap.size=X:=⟨_,rfl⟩
 obtain ⟨W1,hW1⟩:∃W1,W.alloc (.cells #[.int .i64 (k),.string ⟨(t).toArray⟩,.int .i64 (n),.int .i64 (p),.slice a ks.len c] 54)=W1:=⟨_,rfl⟩
 rw[hX,hW1] at B
 obtain ⟨g,o,a0,c0,rfl,hg,d0,d1,d2,d3,d4,hv0,hc0⟩:=Rv.nth ks 0 (B.rv hr) g0
 have C0:=CE (fun g=>No g∨g=X) b tx s W1 k0 t0 n0 p0 a0 c0 ks0 hT B.gk hv0 (by omega) w0 hc0 (hok.mono (by omega) (by omega))
 have x4:=B.bx.five
 have HB:Hid (Gy No b tx s W X #[.int .i64 k,.string ⟨t.toArray⟩,.int .i64 n,.int .i64 p,.slice (some ⟨g,o,none⟩) ks.len c] W1):=B
 have HR:Hid (Rv W No (some ⟨g,o,none⟩) ks):=hr
 have h1':(0:Int)<(ks.len:Int):=by omega
 have h1'':(1:Int)≤(ks.len:Int):=by omega
 simp only[Nat.zero_mul,Nat.add_zero] at d0 d1 d2 d3 d4
 obtain ⟨a2,c2,SL,HRS,hc2⟩:=slice_from2 W (some ⟨g,o,none⟩) 1 c ks h1 hcc.1 (P:=fun g=>No g∨g=X)
 have SL:∀W,(Instr.sliceAt 52 (.slice (some ⟨g,o,none⟩) ks.len c) (some (.int .i64 1)) none none).run Tryz.prog W= .ok (.slice a2 (ks.len - 1) c2) W:=SL
 have HRS':Hid (∀w,Rv w (fun g=>No g∨g=X) (some ⟨g,o,none⟩) ks→Rv w (fun g=>No g∨g=X) a2 (ks.drop 1)):=HRS
 clear HRS
 obtain ⟨x0,x1,x2,x3,x4⟩:=x4
 clear h hr B hv0 hE G0 G1 G2 z0 y0 e0 g0
 go_enter Tryz.func72,Tryz.ntmps72
 go_wp2_with fail
 refine C0.mono ?_
 rintro e w2 hq
 have D2:=HB.out.step hq
 obtain ⟨rfl,-⟩:=hq
 have C1:=D2.gk.add0 22 (by omega)
 have HD2:Hid _:=D2
 clear D2 C0
 go_wp2_with fail
 refine C1.mono ?_
 rintro e w3 ⟨rfl,hq1,hq2⟩
 have D3:=HD2.out.to hq1 hq2
 obtain ⟨x0,x1,x2,x3,x4⟩:=D3.bx.five
 have C2:=open_any H CE CC (fun g=>No g∨g=X) b tx _ w3 a2 c2 (ks.drop 1) hT D3.gk (HRS'.out _ (D3.rv HR.out)) hsd w1 (by omega) (hok2.mono (by omega) (by omega))
 rw[hld] at C2
 have HD3:Hid _:=D3
 clear D3 C1 hq1 hq2 HD2
 go_wp2_with fail
 refine C2.mono ?_
 rintro e w4 hq
 have D4:=HD3.out.step hq
 obtain ⟨rfl,-⟩:=hq
 have C3:=D4.gk.add1 24 x (by omega)
 have HD4:Hid _:=D4
 clear D4 C2 HD3
 go_wp2_with fail
 refine C3.mono ?_
 rintro e w5 ⟨rfl,hq1,hq2⟩
 have H5:Hid _:=(HD4.out.to hq1 hq2).out
 go_wp2
 go_end0
 exact ⟨rfl,H5.out.2⟩
end Go.Proofs.YtkjbgggghigapaaGreat


namespace Go.Proofs.YtkjbgggghigapaaGreat
open Go.RowKit
theorem gad_len (op a b c:Int) (s:Gs):(gad op a b c s).code.length≤s.code.length+1:=by
 unfold gad
 cases hu:s.us[s.cu]? with
 | none=>unfold Gs.put;simp[Gs.code,hu]
 | some u=>rw[Gs.code_put hu];simp
set_option maxRecDepth 20000 in
set_option maxHeartbeats 8000000 in
theorem exactly_any {L:Tx} {N:Nat} {nd:Jg→Ndg} (H:GG L (nd .val)) (H8:GG L (nd (.cal (-1)))) (CE:GN 109 L N (nd .val)) (CC:GC L N fun x=>nd (.cal x)) (n:Nat) (No:Nat→Prop) (b:Nat) (tx:Tx) (s:Gs) (W:World) (a:Option Addr) (c:Nat) (r:F) (hT:Hid (tx=L)) (h:Gk No b tx s W) (hr:Rv W No a r) (hs:r.siz≤N) (hw:r.wfG L=true) (hc:r.len≤c) (hn:n≤8000000) (hL:Okg L (r.siz+1) r.z31 s):
 Calls Tryz.prog 106 #[.pointer (some ⟨b,0,none⟩),.int .i64 (n:Nat),.slice a r.len c] W (GP No b tx W (exa nd (n:Nat) r s)):=by
 have hsz:r.siz≤10000000:=by have:=hL.wt;omega
 have hlen:=r.len_siz
 by_cases h1:r.len=n
 ·have hE:exa nd (n:Nat) r s=vls nd r s:=by unfold exa;rw[if_pos (by omega)]
  rw[hE]
  have CV:=values_any H CE No b tx s W a c r hT h hr hs hw (hL.mono (by omega) (by omega))
  have h1':(r.len:Int)=(n:Int):=by omega
  rw[h1] at CV⊢
  clear hE h hr CC CE H H8 h1 h1' hL hs hw
  go_enter Tryz.func106,Tryz.ntmps106
  go_wp2_with fail
  refine CV.mono ?_
  rintro e w2 hq
  have H5:Hid _:=hq
  obtain ⟨rfl,-⟩:=hq
  go_wp2
  go_end0
  exact ⟨rfl,H5.out.2⟩
 ·have hb1:((r.len:Int)==(n:Int))=false:=by simp;omega
  have hb1':¬(r.len:Int)=(n:Int):=by omega
  by_cases h0:r.len=0
  ·have hE:exa nd (n:Nat) r s=nils n s:=by unfold exa;rw[if_neg (by omega),if_pos h0,Int.toNat_natCast]
   rw[hE]
   have HG:Hid (Gk No b tx s W∧s.code.length≤90000000):=⟨h,hL.code⟩
   rw[h0] at hb1⊢
   have hn0:¬((0:Nat):Int)=(n:Int):=by omega
   have hbn:((0:Int)==(n:Int))=false:=by simp;omega
   clear hE h hr CC CE H H8 h1 hb1' hL hs hw
   go_enter Tryz.func106,Tryz.ntmps106
   go_wp2_with fail
   go_loopw [26] (fun iv wx=>∃(i:Nat) (s':Gs),iv= .int .i64 (i:Nat)∧i≤n∧Hid (Gk No b tx s' wx∧Kn No W wx∧nils (n - i) s'=nils n s∧s'.code.length≤90000000+i)) (fun iv _=>n - (intOf iv).toNat)
   case atStart=>exact ⟨0,s,rfl,by omega,HG.out.1,Kn.refl _ _,rfl,HG.out.2⟩
   case round=>
    obtain ⟨i,s',rfl,hi,HR⟩:=hrel
    by_cases hlt:i<n
    ·have hlt':(i:Int)<(n:Int):=by omega
     have wi:IntKind.i64.wrap ((i:Int)+1)=(i:Int)+1:=by rw[IntKind.wrap_i64];omega
     have l1:=HR.out.2.2.2
     have C1:=HR.out.1.add0 3 (by omega)
     have HS:Hid (nils (n - (i+1)) (gad 3 0 0 0 s')=nils n s∧(gad 3 0 0 0 s').code.length≤90000000+(i+1)):=by
      obtain ⟨_,_,q3,q4⟩:=HR.out
      rw[show n - i=(n - (i+1))+1 by omega] at q3
      have q5:=gad_len 3 0 0 0 s'
      exact ⟨q3,by omega⟩
     clear l1
     go_wp2_with fail
     refine C1.mono ?_
     rintro e w2 ⟨rfl,hq1,hq2⟩
     have HF:Hid (Gk No b tx (gad 3 0 0 0 s') w2∧Kn No W w2):=⟨hq1,HR.out.2.1.trans hq2⟩
     clear C1 hq1 hq2
     go_wp2
     refine ⟨⟨i+1,gad 3 0 0 0 s',by go_num,by omega,HF.out.1,HF.out.2,HS.out.1,HS.out.2⟩,?_⟩
     simp[intOf];omega
    ·have e0:i=n:=by omega
     subst e0
     have hlt':¬(i:Int)<(i:Int):=by omega
     have HE:Hid (GP No b tx W (nils i s) (.returned (.tuple #[])) wr):=by
      obtain ⟨q1,q2,q3,_⟩:=HR.out
      rw[Nat.sub_self] at q3
      rw[←q3]
      exact ⟨rfl,q1,q2⟩
     go_wp2_with fail
     go_end0
     exact HE.out
  ·have hE:exa nd (n:Nat) r s=gad 23 (n:Nat) 0 0 (opn nd r (gad 22 0 0 0 s)):=by unfold exa;rw[if_neg (by omega),if_neg h0]
   rw[hE]
   have hb0:((r.len:Int)==0)=false:=by simp;omega
   have hb0':¬(r.len:Int)=0:=by omega
   have hok:Okg L (1+r.siz) (0+r.z31) s:=hL.mono (by omega) (by omega)
   have G1:=gb_gad 22 0 0 0 s L 1 0 (by omega)
   have hok2:=hok.step G1
   have G2:=gb_opn H H8 r (gad 22 0 0 0 s) hw
   have hok3:Okg L 0 0 (opn nd r (gad 22 0 0 0 s)):=Okg.step (y:=r.siz) (f:=r.z31) hok2 G2
   have l1:=hok.code
   have l3:=hok3.code
   have C1:=h.add0 22 (by omega)
   have C2:=fun w (hg:Gk No b tx (gad 22 0 0 0 s) w) (hk:Rv w No a r)=>open_any H CE CC No b tx (gad 22 0 0 0 s) w a c r hT hg hk hs hw hc hok2
   have HR:Hid (Rv W No a r):=hr
   clear hE h hr CC CE H H8 hL hs hw hok hok2 hok3 G1 G2 h0 h1
   go_enter Tryz.func106,Tryz.ntmps106
   go_wp2_with fail
   refine C1.mono ?_
   rintro e w2 ⟨rfl,hq1,hq2⟩
   have C3:=C2 w2 hq1 (HR.out.kn hq2)
   have HK:Hid (Kn No W w2):=hq2
   clear C1 C2 hq1 hq2
   go_wp2_with fail
   refine C3.mono ?_
   rintro e w3 ⟨rfl,hq1,hq2⟩
   have C4:=hq1.add1 23 (n:Nat) (by omega)
   have HK3:Hid (Kn No W w3):=HK.out.trans hq2
   clear C3 hq1 hq2
   go_wp2_with fail
   refine C4.mono ?_
   rintro e w4 ⟨rfl,hq1,hq2⟩
   have H5:Hid (Gk No b tx _ w4∧Kn No W w4):=⟨hq1,HK3.out.trans hq2⟩
   go_wp2
   go_end0
   exact ⟨rfl,H5.out⟩
end Go.Proofs.YtkjbgggghigapaaGreat


namespace Go.Proofs.YtkjbgggghigapaaGreat
open Go.RowKit
theorem brg_code:∀(r:F) (s:Gs),(brg r s).code=s.code
 | .nil,_=>rfl
 | .cons _ _ _ _ _ r,_=>(brg_code r _).trans rfl
theorem brg_lo:∀(r:F) (s:Gs),(brg r s).lo.length=s.lo.length+r.len
 | .nil,s=>rfl
 | .cons _ t _ _ _ r,s=>by
   rw[brg,brg_lo r,F.len]
   simp
   omega
theorem gb_nils {L:Tx}:∀(n:Nat) (s:Gs),Gb L n 0 s (nils n s)
 | 0,s=>.refl _ _ _ _
 | n+1,s=>((gb_gad 3 0 0 0 s L 1 0 (by omega)).trans (gb_nils n (gad 3 0 0 0 s))).mono (by omega) (by omega)
theorem gb_exa {L:Tx} {nd:Jg→Ndg} (H:GG L (nd .val)) (H8:GG L (nd (.cal (-1)))) (n:Nat) (r:F) (s:Gs) (hw:r.wfG L=true):Gb L (r.siz+n+2) r.z31 s (exa nd (n:Nat) r s):=by
 unfold exa
 by_cases h1:(r.len:Int)=(n:Nat)
 ·rw[if_pos h1];exact (gb_vls H r s hw).mono (by omega) (by omega)
 ·rw[if_neg h1]
  by_cases h0:r.len=0
  ·rw[if_pos h0,Int.toNat_natCast];exact (gb_nils n s).mono (by omega) (by omega)
  ·rw[if_neg h0]
   exact (((gb_gad 22 0 0 0 s L 1 0 (by omega)).trans (gb_opn H H8 r _ hw)).trans (gb_gad 23 (n:Nat) 0 0 _ L 1 0 (by omega))).mono (by omega) (by omega)
theorem setL_cd:∀(c b:Nat) (s:Gs),setL (c+1) b s=setL c b (gad 7 ((b:Int)+(c:Int)+1) 0 0 s):=fun _ _ _=>rfl
set_option maxRecDepth 20000 in
set_option maxHeartbeats 8000000 in
theorem declare_any {L:Tx} {N:Nat} {nd:Jg→Ndg} (H:GG L (nd .val)) (H8:GG L (nd (.cal (-1)))) (CE:GN 109 L N (nd .val)) (CC:GC L N fun x=>nd (.cal x)) (No:Nat→Prop) (b:Nat) (tx:Tx) (s:Gs) (W:World) (k:Int) (t:Tx) (n:Nat) (p:Int) (a:Option Addr) (c:Nat) (ks:F) (hT:Hid (tx=L)) (h:Gk No b tx s W) (hr:Rv W No a ks) (hs:ks.siz≤N) (hw:ks.wfG L=true) (hn:n≤ks.len) (hcc:ks.len≤c∧c≤maxLen) (hL:Okg L (ks.siz+1) ks.z31 s):
 Calls Tryz.prog 70 #[.pointer (some ⟨b,0,none⟩),(.agg #[.int .i64 (k),.string ⟨(t).toArray⟩,.int .i64 (n:Nat),.int .i64 (p),.slice a ks.len c])] W (GP No b tx W (dcl nd (n:Nat) ks s)):=by
 have hlen:=ks.len_siz
 have z0:=F.td_siz ks n
 have y0:=F.td_z31 ks n
 have hld:(ks.drop n).len=ks.len - n:=by
  have:=F.td_siz ks n
  exact F.drop_len ks n
 have hlt:(ks.take n).len=n:=F.len_take ks n hn
 have hsz:ks.siz≤6000000:=by have:=hL.wt;omega
 have w1:=F.wfG_drop ks n hw
 have w2:=F.wfG_take ks n hw
 have tlz:=(ks.take n).len_siz
 obtain ⟨s1,hs1⟩:∃s1,exa nd (n:Nat) (ks.drop n) s=s1:=⟨_,rfl⟩
 have G1:=gb_exa H H8 n (ks.drop n) s w1
 rw[hs1] at G1
 have hwt1:s1.wt≤90000016:=by have:=G1.wt;have:=hL.wt;omega
 obtain ⟨s2,hs2⟩:∃s2,brg (ks.take n) s1=s2:=⟨_,rfl⟩
 have hlo2:s2.lo.length=s1.lo.length+n:=by rw[←hs2,brg_lo,hlt]
 have hcu1:s1.cu<s1.us.length:=by rw[G1.cu,G1.ul];exact hL.cu
 have hcd2:s2.code.length≤90000016:=by
  rw[←hs2,brg_code]
  obtain ⟨u,hu⟩:∃u,s1.us[s1.cu]?=some u:=⟨_,List.getElem?_eq_getElem hcu1⟩
  have:=cdS_le s1.us s1.cu u hu
  unfold Gs.wt at hwt1
  unfold Gs.code
  rw[hu]
  show u.cd.length≤_
  omega
 have hlo1:s1.lo.length≤90000016:=by unfold Gs.wt at hwt1;omega
 have hE:dcl nd (n:Nat) ks s=setL n s1.lo.length s2:=by
  unfold dcl dclB
  rw[Int.toNat_natCast,hs1,hs2,hlo2,Nat.add_sub_cancel_left]
 rw[hE]
 have B:=h.gy #[.int .i64 k,.string ⟨t.toArray⟩,.int .i64 (n:Nat),.int .i64 p,.slice a ks.len c]
 obtain ⟨X,hX⟩:∃X,W.heap.size=X:=⟨_,rfl⟩
 obtain ⟨W1,hW1⟩:∃W1,W.alloc (.cells #[.int .i64 (k),.string ⟨(t).toArray⟩,.int .i64 (n:Nat),.int .i64 (p),.slice a ks.len c] 54)=W1:=⟨_,rfl⟩
 rw[hX,hW1] at B
 obtain ⟨a2,c2,SL,HRS,hc2⟩:=slice_from2 W a n c ks hn hcc.1 (P:=fun g=>No g∨g=X)
 have SL2:∀W,(Instr.sliceAt 52 (.slice a ks.len c) none (some (.int .i64 (n:Nat))) none).run Tryz.prog W= .ok (.slice a n c) W:=fun W=>by
  have q1:n≤c:=by omega
  simp[go_sem,Instr.sliceAt,q1]
 have BD:=B.drew
 have C1:=exactly_any H H8 CE CC n (fun g=>No g∨g=X) b tx s W1.drew a2 c2 (ks.drop n) hT BD.gk (HRS _ (BD.rv hr)) (by omega) w1 (by omega) (by omega) (hL.mono (by omega) (by omega))
 rw[hld,hs1] at C1
 obtain ⟨x0,x1,x2,x3,x4⟩:=BD.bx.five
 have HB:Hid (Gy No b tx s W X #[.int .i64 k,.string ⟨t.toArray⟩,.int .i64 (n:Nat),.int .i64 p,.slice a ks.len c] W1.drew):=BD
 have HR:Hid (Rv W No a ks):=hr
 have HS2:Hid (brg (ks.take n) s1=s2):=hs2
 have HLT:Hid ((ks.take n).len=n):=hlt
 have HX4:Hid (W1.drew.cell? ⟨X,2,none⟩=some (.int .i64 (n:Nat))∧W1.drew.cell? ⟨X,4,none⟩=some (.slice a ks.len c)):=⟨x2,x4⟩
 clear h hr B BD hE HRS hs1 hs2 G1 hwt1 hcu1 hL hs hw CE CC H H8 hld hlt z0 y0 w1 w2 tlz
 go_enter Tryz.func70,Tryz.ntmps70
 go_wp2_with fail
 go_region_held3 (fun V=>V.cell? ⟨X,2,none⟩=some (.int .i64 (n:Nat))∧V.cell? ⟨X,4,none⟩=some (.slice a ks.len c)) (first | exact HX4.out | exact ⟨x2,x4⟩)
  (first | (go_at_call 106;refine C1.mono ?_;rintro e w2 hq;have D2:=HB.out.step hq;obtain ⟨rfl,-⟩:=hq;have HD2:Hid (Gy No b tx s1 W X #[.int .i64 k,.string ⟨t.toArray⟩,.int .i64 (n:Nat),.int .i64 p,.slice a ks.len c] w2):=D2;obtain ⟨x0,x1,x2,x3,x4⟩:=D2.bx.five;clear D2))
 obtain ⟨xg,hx⟩:=HD2.out.gk
 obtain ⟨aL,cL,hvL⟩:=row_form hx.lr
 have q2:w2.cell? ⟨b,2,none⟩=some (.slice aL s1.lo.length cL):=by
  have q:w2.cell? ⟨b,2,none⟩=some xg.vL:=hx.mx.c 2 _ rfl
  rw[hvL] at q
  exact q
 have C2:=bringG_any (fun g=>No g∨g=X) b tx s1 w2 a c (ks.take n) HD2.out.gk ((HD2.out.rv HR.out).take n) (by rw[HLT.out];omega)
 rw[HLT.out,HS2.out] at C2
 have HLO:Hid (s2.lo.length=s1.lo.length+n):=hlo2
 clear hx hvL hlo2 C1 x0 x1 x3
 go_wp2_with fail
 refine C2.mono ?_
 rintro e w3 hq
 have D3:=HD2.out.step hq
 obtain ⟨rfl,-⟩:=hq
 obtain ⟨xg3,hx3⟩:=D3.gk
 obtain ⟨aL3,cL3,hvL3⟩:=row_form hx3.lr
 have q3:w3.cell? ⟨b,2,none⟩=some (.slice aL3 (s1.lo.length+n) cL3):=by
  have q:w3.cell? ⟨b,2,none⟩=some xg3.vL:=hx3.mx.c 2 _ rfl
  rw[hvL3,HLO.out] at q
  exact q
 have HD3:Hid (Gy No b tx s2 W X #[.int .i64 k,.string ⟨t.toArray⟩,.int .i64 (n:Nat),.int .i64 p,.slice a ks.len c] w3):=D3
 generalize s1.lo.length=l1 at *
 clear D3 hx3 hvL3 C2 q2 x2 x4
 go_wp2_with fail
 go_loopw [5] (fun nv wx=>∃(i:Nat) (s':Gs),nv= .int .i64 ((l1+i:Nat):Int)∧i≤n∧Hid (Gy No b tx s' W X #[.int .i64 k,.string ⟨t.toArray⟩,.int .i64 (n:Nat),.int .i64 p,.slice a ks.len c] wx∧setL i l1 s'=setL n l1 s2∧s'.code.length+i≤90000016+n)) (fun nv _=>(intOf nv).toNat)
 case atStart=>exact ⟨n,s2,rfl,Nat.le_refl _,HD3.out,rfl,by omega⟩
 case round=>
  obtain ⟨i,s',rfl,hi,HQ⟩:=hrel
  cases i with
  | zero=>
    have h0:¬((l1+0:Nat):Int)>(l1:Int):=by omega
    have HE:Hid (GP No b tx W (setL n l1 s2) (.returned (.tuple #[])) wr):=by
     obtain ⟨q1,q2,_⟩:=HQ.out
     rw[←q2]
     exact q1.out
    go_wp2_with fail
    go_end0
    exact HE.out
  | succ j=>
    have h0:((l1+(j+1):Nat):Int)>(l1:Int):=by omega
    have wj:IntKind.i64.wrap (((l1+(j+1):Nat):Int) - 1)=((l1+j:Nat):Int):=by rw[IntKind.wrap_i64];omega
    have C3:=HQ.out.1.gk.add1 7 ((l1+(j+1):Nat):Int) (by have:=HQ.out.2.2;omega)
    have HS:Hid (setL j l1 (gad 7 ((l1+(j+1):Nat):Int) 0 0 s')=setL n l1 s2∧(gad 7 ((l1+(j+1):Nat):Int) 0 0 s').code.length+j≤90000016+n):=by
     obtain ⟨_,q2,q3⟩:=HQ.out
     have q4:=gad_len 7 ((l1+(j+1):Nat):Int) 0 0 s'
     refine ⟨?_,by omega⟩
     rw[←q2,setL_cd,show ((l1+(j+1):Nat):Int)=(l1:Int)+(j:Int)+1 by omega]
    have HYtkjbgggghigapaaGreat:Hid (((l1+(j+1):Nat):Int)=((l1+j:Nat):Int)+1):=by show _=_;omega
    generalize ((l1+(j+1):Nat):Int)=nm at *
    go_wp2_with fail
    refine C3.mono ?_
    rintro e w4 ⟨rfl,hq1,hq2⟩
    have D4:=HQ.out.1.to hq1 hq2
    have HD4:Hid _:=D4
    clear D4 C3 hq1 hq2
    go_wp2
    refine ⟨⟨j,_,by go_num,by omega,HD4.out,HS.out⟩,?_⟩
    have hnm:=HYtkjbgggghigapaaGreat.out
    simp only[intOf];omega
end Go.Proofs.YtkjbgggghigapaaGreat


namespace Go.Proofs.YtkjbgggghigapaaGreat
open Go.RowKit
theorem GK.brk0 {No:Nat→Prop} {b:Nat} {t:Tx} {x:Gx} {s:Gs} {w:World} (h:GK No b t x s w):
 GK (fun g=>No g∨x.vB.ownBlock=some g) b t {x with vB:=.slice none 0 0,lab:=fun g=>if x.vB.ownBlock=some g then 0 else x.lab g} {s with br:=[]} (w.setCell ⟨b,3,none⟩ (.slice none 0 0))∧Kn (fun g=>No g∨x.vB.ownBlock=some g) w (w.setCell ⟨b,3,none⟩ (.slice none 0 0)):=by
 have k:Tg x (fun l=>l=2) w (w.setCell ⟨b,3,none⟩ (.slice none 0 0)):=(Tg.refl _ _ w).set h.lb _
 have e:∀g l,x.lab g=l→l≠6→(if x.vB.ownBlock=some g then 0 else x.lab g)=l:=fun g l q hl=>by
  rw[if_neg (fun z=>hl (q.symm.trans (h.lB g z)))];exact q
 refine ⟨⟨h.sx' k (by decide),h.mx.put (j:=3) _,h.ur' k (by decide),h.lr' k (by decide),World.ownsRow_nil _ 0 3 1,h.mp' k (by decide),fun i _ _ hu hv=>h.cr' k (by omega) hu hv,fun i _ _ hu hv=>h.kr' k (by omega) hu hv,h.cl,h.kl,h.ub,e _ _ h.lS (by decide),e _ _ h.lb (by decide),e _ _ h.lU (by decide),e _ _ h.lm (by decide),fun g hg=>e _ _ (h.lL g hg) (by decide),fun g hg=>by simp[Value.ownBlock] at hg,fun i v g hv hg=>e _ _ (h.lc i v g hv hg) (by decide),fun i v g hv hg=>e _ _ (h.lk i v g hv hg) (by omega),fun g hg=>?_,h.cu,h.gh⟩,⟨rfl,rfl,rfl,k.size,fun g hg hn=>k.block g hg ?_⟩⟩
 ·rcases hg with hg | hg
  ·refine ⟨Nat.lt_of_lt_of_le (h.no g hg).1 k.size,?_⟩
   show (if x.vB.ownBlock=some g then 0 else x.lab g)=0
   split
   ·rfl
   ·exact (h.no g hg).2
  ·refine ⟨Nat.lt_of_lt_of_le (h.br.lt g hg).2 k.size,?_⟩
   show (if x.vB.ownBlock=some g then 0 else x.lab g)=0
   rw[if_pos hg]
 ·rcases hn with hn | hn
  ·rw[(h.no g hn).2];decide
  ·rw[h.lB g hn];decide
theorem GK.brk1 {No:Nat→Prop} {b:Nat} {t:Tx} {x:Gx} {s:Gs} {w:World} {vB:Value} {bs:List Int} (h:GK (fun g=>No g∨vB.ownBlock=some g) b t x s w) (hdis:∀g,No g→vB.ownBlock≠some g) (hr:w.ownsRow 0 3 1 vB bs.length (nts bs)):
 GK No b t {x with vB:=vB,lab:=fun g=>if vB.ownBlock=some g then 6 else x.lab g} {s with br:=bs} (w.setCell ⟨b,3,none⟩ vB)∧Kn No w (w.setCell ⟨b,3,none⟩ vB):=by
 have k:Tg x (fun l=>l=2) w (w.setCell ⟨b,3,none⟩ vB):=(Tg.refl _ _ w).set h.lb _
 have e:∀g l,x.lab g=l→l≠0→(if vB.ownBlock=some g then 6 else x.lab g)=l:=fun g l q hl=>by
  rw[if_neg (fun z=>hl (q.symm.trans (h.no g (.inr z)).2))];exact q
 refine ⟨⟨h.sx' k (by decide),h.mx.put (j:=3) _,h.ur' k (by decide),h.lr' k (by decide),own_keep hr (fun g hg=>k.block g (h.no g (.inr hg)).1 (by rw[(h.no g (.inr hg)).2];decide)),h.mp' k (by decide),fun i _ _ hu hv=>h.cr' k (by omega) hu hv,fun i _ _ hu hv=>h.kr' k (by omega) hu hv,h.cl,h.kl,h.ub,e _ _ h.lS (by decide),e _ _ h.lb (by decide),e _ _ h.lU (by decide),e _ _ h.lm (by decide),fun g hg=>e _ _ (h.lL g hg) (by decide),fun g hg=>if_pos hg,fun i v g hv hg=>e _ _ (h.lc i v g hv hg) (by decide),fun i v g hv hg=>e _ _ (h.lk i v g hv hg) (by omega),fun g hg=>?_,h.cu,h.gh⟩,⟨rfl,rfl,rfl,k.size,fun g hg hn=>k.block g hg (by rw[(h.no g (.inl hn)).2];decide)⟩⟩
 refine ⟨Nat.lt_of_lt_of_le (h.no g (.inl hg)).1 k.size,?_⟩
 show (if vB.ownBlock=some g then 6 else x.lab g)=0
 rw[if_neg (hdis g hg)]
 exact (h.no g (.inl hg)).2
end Go.Proofs.YtkjbgggghigapaaGreat
