import Derived.Test.YtkjbgggghigapaaGreatCg12
import Derived.Test.YtkjbgggghigapaaGreatCg09
import Derived.Deep.RegionHeld3
import Derived.Test.YtkjbgggghigapaaGreatCg10
namespace Go.Proofs.YtkjbgggghigapaaGreat
open Go.RowKit
theorem ndK_get (nd:Jg→Ndg) (j:Jg) {ks:F} {i:Nat} {k:Int} {t:Tx} {n p:Int} {kk:F} (h:ks.get? i=some (k,t,n,p,kk)) (s:Gs):ndK nd j ks i s=nd j k t n p kk s:=by unfold ndK;rw[h];rfl
theorem Okg.cnst {L:Tx} {z f:Nat} {s:Gs} (h:Okg L z f s):s.cnst.length≤2000000:=by
 obtain ⟨u,hu⟩:∃u,s.us[s.cu]?=some u:=⟨_,List.getElem?_eq_getElem h.cu⟩
 rw[Gs.cnst_eq hu]
 exact h.cs _ u hu
theorem Okg.los {L:Tx} {z f:Nat} {s:Gs} (h:Okg L z f s):s.lo.length≤90000000:=by have:=h.wt;unfold Gs.wt at this;omega
set_option maxRecDepth 20000 in
set_option maxHeartbeats 16000000 in
theorem value_any {L:Tx} {N:Nat} {nd:Jg→Ndg} (H:GG L (nd .val)) (H8:GG L (nd (.cal (-1)))) (CE:GN 109 L N (nd .val)) (CC:GC L N fun x=>nd (.cal x)) (No:Nat→Prop) (b:Nat) (tx:Tx) (s:Gs) (W:World) (k:Int) (t:Tx) (n p:Int) (a:Option Addr) (c:Nat) (ks:F) (hT:Hid (tx=L)) (h:Gk No b tx s W) (hr:Rv W No a ks) (hs:ks.siz≤N) (hwf:(one k t n p ks).wfG L=true) (hcc:ks.len≤c∧c≤maxLen) (hL:Okg L (ks.siz+1) (one k t n p ks).z31 s):
 Calls Tryz.prog 109 #[.pointer (some ⟨b,0,none⟩),(.agg #[.int .i64 (k),.string ⟨(t).toArray⟩,.int .i64 (n),.int .i64 (p),.slice a ks.len c])] W (GP No b tx W (valG nd k t n ks s)):=by
 obtain ⟨har,-,htl,hw⟩:=F.wfG_one hwf
 have hzk:ks.z31≤(one k t n p ks).z31:=by simp only[one,F.z31];omega
 replace hL:=hL.mono (Nat.le_refl _) hzk
 clear hzk hwf
 have hlen:=ks.len_siz
 have hcd:=hL.code
 have hcn:=hL.cnst
 have hlo:=hL.los
 have B:=h.gy #[.int .i64 k,.string ⟨t.toArray⟩,.int .i64 n,.int .i64 p,.slice a ks.len c]
 obtain ⟨X,hX⟩:∃X,W.heap.size=X:=⟨_,rfl⟩
 obtain ⟨W1,hW1⟩:∃W1,W.alloc (.cells #[.int .i64 (k),.string ⟨(t).toArray⟩,.int .i64 (n),.int .i64 (p),.slice a ks.len c] 54)=W1:=⟨_,rfl⟩
 rw[hX,hW1] at B
 have hrB:=B.rv hr
 obtain ⟨x0,x1,x2,x3,x4⟩:=B.bx.five
 have HB:Hid (Gy No b tx s W X #[.int .i64 k,.string ⟨t.toArray⟩,.int .i64 n,.int .i64 p,.slice a ks.len c] W1):=B
 clear B h
 by_cases hk1:k=1
 ·have hE:valG nd k t n ks s=gad 3 0 0 0 s:=by rw[hk1];unfold valG;simp
  rw[hE]
  clear hE
  subst hk1
  have C:=HB.out.gk.add0 3 (by omega)
  clear H H8 CE CC hr hrB hL har
  go_enter Tryz.func109,Tryz.ntmps109
  go_wp2_with fail
  refine C.mono ?_
  rintro e w2 ⟨rfl,hq1,hq2⟩
  have H5:Hid _:=(HB.out.to hq1 hq2).out
  clear C
  go_wp2
  go_end0
  exact ⟨rfl,H5.out.2⟩
 by_cases hk2:k=2
 ·have hE:valG nd k t n ks s=gad 4 0 0 0 s:=by rw[hk2];unfold valG;simp
  rw[hE]
  clear hE
  subst hk2
  have C:=HB.out.gk.add0 4 (by omega)
  clear H H8 CE CC hr hrB hL har
  go_enter Tryz.func109,Tryz.ntmps109
  go_wp2_with fail
  refine C.mono ?_
  rintro e w2 ⟨rfl,hq1,hq2⟩
  have H5:Hid _:=(HB.out.to hq1 hq2).out
  clear C
  go_wp2
  go_end0
  exact ⟨rfl,H5.out.2⟩
 by_cases hk3:k=3
 ·have hE:valG nd k t n ks s=gad 5 0 0 0 s:=by rw[hk3];unfold valG;simp
  rw[hE]
  clear hE
  subst hk3
  have C:=HB.out.gk.add0 5 (by omega)
  clear H H8 CE CC hr hrB hL har
  go_enter Tryz.func109,Tryz.ntmps109
  go_wp2_with fail
  refine C.mono ?_
  rintro e w2 ⟨rfl,hq1,hq2⟩
  have H5:Hid _:=(HB.out.to hq1 hq2).out
  clear C
  go_wp2
  go_end0
  exact ⟨rfl,H5.out.2⟩
 by_cases hk4:k=4
 ·have hE:valG nd k t n ks s=cst (2,n,[]) s:=by rw[hk4];unfold valG;simp
  rw[hE]
  clear hE
  subst hk4
  have C:=constantG_any _ b tx s W1 (2,n,[]) HB.out.gk (by omega) hcn
  clear H H8 CE CC hr hrB hL har
  go_enter Tryz.func109,Tryz.ntmps109
  go_wp2_with fail
  refine C.mono ?_
  rintro e w2 hq
  have H5:Hid _:=(HB.out.step hq).out
  obtain ⟨rfl,-⟩:=hq
  clear C
  go_wp2
  go_end0
  exact ⟨rfl,H5.out.2⟩
 by_cases hk5:k=5
 ·have hE:valG nd k t n ks s=cst (3,0,t) s:=by rw[hk5];unfold valG;simp
  rw[hE]
  clear hE
  subst hk5
  have C:=constantG_any _ b tx s W1 (3,0,t) HB.out.gk (by omega) hcn
  clear H H8 CE CC hr hrB hL har
  go_enter Tryz.func109,Tryz.ntmps109
  go_wp2_with fail
  refine C.mono ?_
  rintro e w2 hq
  have H5:Hid _:=(HB.out.step hq).out
  obtain ⟨rfl,-⟩:=hq
  clear C
  go_wp2
  go_end0
  exact ⟨rfl,H5.out.2⟩
 by_cases hk6:k=6
 ·have hE:valG nd k t n ks s=nmG t 6 8 s:=by rw[hk6];unfold valG;simp
  rw[hE]
  clear hE
  subst hk6
  have C:=g_name_any _ b tx s t 6 8 W1 HB.out.gk htl (by omega) (by omega)
  clear H H8 CE CC hr hrB hL har
  go_enter Tryz.func109,Tryz.ntmps109
  go_wp2_with fail
  refine C.mono ?_
  rintro e w2 hq
  have H5:Hid _:=(HB.out.step hq).out
  obtain ⟨rfl,-⟩:=hq
  clear C
  go_wp2
  go_end0
  exact ⟨rfl,H5.out.2⟩
 by_cases hk7:k=7
 ·have hE:valG nd k t n ks s=idxG nd ks s:=by rw[hk7];unfold valG;simp
  rw[hE]
  clear hE
  subst hk7
  have C:=g_index_any H CE _ b tx s W1 7 t n p a c ks hT HB.out.gk hrB hs hw (by simpa [arG] using har) hL
  clear H H8 CE CC hr hrB hL har
  go_enter Tryz.func109,Tryz.ntmps109
  go_wp2_with fail
  refine C.mono ?_
  rintro e w2 hq
  have H5:Hid _:=(HB.out.step hq).out
  obtain ⟨rfl,-⟩:=hq
  clear C
  go_wp2
  go_end0
  exact ⟨rfl,H5.out.2⟩
 by_cases hk8:k=8
 ·have hE:valG nd k t n ks s=calG nd 1 ks s:=by rw[hk8];unfold valG;simp
  rw[hE]
  clear hE
  subst hk8
  have C:=call_any H H8 CE CC 1 _ b tx s W1 8 t n p a c ks hT HB.out.gk hrB hs hw (by simpa [arG] using har) hcc hL
  clear H H8 CE CC hr hrB hL har
  go_enter Tryz.func109,Tryz.ntmps109
  go_wp2_with fail
  refine C.mono ?_
  rintro e w2 hq
  have H5:Hid _:=(HB.out.step hq).out
  obtain ⟨rfl,-⟩:=hq
  clear C
  go_wp2
  go_end0
  exact ⟨rfl,H5.out.2⟩
 by_cases hk9:k=9
 ·have hE:valG nd k t n ks s=ndK nd .val ks 0 s:=by rw[hk9];unfold valG;simp
  rw[hE]
  clear hE
  subst hk9
  have h1:1≤ks.len:=by simpa [arG] using har
  obtain ⟨⟨k0,t0,n0,p0,ks0⟩,g0⟩:=ks.get_some 0 (by omega)
  have w0:=F.wfG_get ks 0 hw g0
  have hs0:=F.get_siz ks 0 _ _ _ _ _ g0
  have y1:=F.get_z31 ks 0 g0
  have y0:=F.td_z31 ks 0
  obtain ⟨g,o,a0,c0,rfl,hg,d0,d1,d2,d3,d4,hv0,hc0⟩:=Rv.nth ks 0 hrB g0
  have h1':(0:Int)<(ks.len:Int):=by omega
  simp only[Nat.zero_mul,Nat.add_zero] at d0 d1 d2 d3 d4
  rw[ndK_get nd .val g0]
  have C:=CE (fun g=>No g∨g=X) b tx s W1 k0 t0 n0 p0 a0 c0 ks0 hT HB.out.gk hv0 (by omega) w0 hc0 (hL.mono (by omega) (by omega))
  clear H H8 CE CC hr hrB hL har hv0
  go_enter Tryz.func109,Tryz.ntmps109
  go_wp2_with fail
  refine C.mono ?_
  rintro e w2 hq
  have H5:Hid _:=(HB.out.step hq).out
  obtain ⟨rfl,-⟩:=hq
  clear C
  go_wp2
  go_end0
  exact ⟨rfl,H5.out.2⟩
 by_cases hk10:k=10
 ·have hE:valG nd k t n ks s=gad 16 (unN t) 0 0 (ndK nd .val ks 0 s):=by rw[hk10];unfold valG;simp
  rw[hE]
  clear hE
  subst hk10
  have h1:1≤ks.len:=by simpa [arG] using har
  obtain ⟨⟨k0,t0,n0,p0,ks0⟩,g0⟩:=ks.get_some 0 (by omega)
  have w0:=F.wfG_get ks 0 hw g0
  have hs0:=F.get_siz ks 0 _ _ _ _ _ g0
  have y1:=F.get_z31 ks 0 g0
  have y0:=F.td_z31 ks 0
  obtain ⟨g,o,a0,c0,rfl,hg,d0,d1,d2,d3,d4,hv0,hc0⟩:=Rv.nth ks 0 hrB g0
  have h1':(0:Int)<(ks.len:Int):=by omega
  simp only[Nat.zero_mul,Nat.add_zero] at d0 d1 d2 d3 d4
  rw[ndK_get nd .val g0]
  have C:=CE (fun g=>No g∨g=X) b tx s W1 k0 t0 n0 p0 a0 c0 ks0 hT HB.out.gk hv0 (by omega) w0 hc0 (hL.mono (by omega) (by omega))
  have l2:(nd .val k0 t0 n0 p0 ks0 s).code.length≤90000000:=(Okg.step (y:=ks0.siz+1) (z:=0) (f:=(one k0 t0 n0 p0 ks0).z31) (g:=0) (hL.mono (by omega) (by omega)) (H k0 t0 n0 p0 ks0 s w0)).code
  clear H H8 CE CC hr hrB hL har hv0
  go_enter Tryz.func109,Tryz.ntmps109
  go_wp2_with fail
  refine C.mono ?_
  rintro e w2 hq
  have D2:=HB.out.step hq
  obtain ⟨rfl,-⟩:=hq
  obtain ⟨x0,x1,x2,x3,x4⟩:=D2.bx.five
  have C2:=unary_any t w2
  have C3:=D2.gk.add1 16 (unN t) (by omega)
  have HD2:Hid _:=D2
  clear D2 C d0 d1 d2 d3 d4
  go_wp2_with fail
  refine C2.mono ?_
  rintro e w3 ⟨rfl,rfl⟩
  go_wp2_with fail
  refine C3.mono ?_
  rintro e w4 ⟨rfl,hq1,hq2⟩
  have H5:Hid _:=(HD2.out.to hq1 hq2).out
  clear C2 C3
  go_wp2
  go_end0
  exact ⟨rfl,H5.out.2⟩
 by_cases hk11:k=11
 ·have hE:valG nd k t n ks s=binG nd t ks s:=by rw[hk11];unfold valG;simp
  rw[hE]
  clear hE
  subst hk11
  have C:=binary_any H CE _ b tx s W1 11 t n p a c ks hT HB.out.gk hrB hs hw (by simpa [arG] using har) hL
  clear H H8 CE CC hr hrB hL har
  go_enter Tryz.func109,Tryz.ntmps109
  go_wp2_with fail
  refine C.mono ?_
  rintro e w2 hq
  have H5:Hid _:=(HB.out.step hq).out
  obtain ⟨rfl,-⟩:=hq
  clear C
  go_wp2
  go_end0
  exact ⟨rfl,H5.out.2⟩
 by_cases hk12:k=12
 ·have hE:valG nd k t n ks s=tabG nd ks s:=by rw[hk12];unfold valG;simp
  rw[hE]
  clear hE
  subst hk12
  have C:=g_table_any H H8 CE CC _ b tx s W1 12 t n p a c ks hT HB.out.gk hrB hs hw hcc hL
  clear H H8 CE CC hr hrB hL har
  go_enter Tryz.func109,Tryz.ntmps109
  go_wp2_with fail
  refine C.mono ?_
  rintro e w2 hq
  have H5:Hid _:=(HB.out.step hq).out
  obtain ⟨rfl,-⟩:=hq
  clear C
  go_wp2
  go_end0
  exact ⟨rfl,H5.out.2⟩
 have hE:valG nd k t n ks s=s:=by unfold valG;simp[hk1,hk2,hk3,hk4,hk5,hk6,hk7,hk8,hk9,hk10,hk11,hk12]
 rw[hE]
 have e1:(k==1)=false:=by simpa using hk1
 have e2:(k==2)=false:=by simpa using hk2
 have e3:(k==3)=false:=by simpa using hk3
 have e4:(k==4)=false:=by simpa using hk4
 have e5:(k==5)=false:=by simpa using hk5
 have e6:(k==6)=false:=by simpa using hk6
 have e7:(k==7)=false:=by simpa using hk7
 have e8:(k==8)=false:=by simpa using hk8
 have e9:(k==9)=false:=by simpa using hk9
 have e10:(k==10)=false:=by simpa using hk10
 have e11:(k==11)=false:=by simpa using hk11
 have e12:(k==12)=false:=by simpa using hk12
 clear hE hk1 hk2 hk3 hk4 hk5 hk6 hk7 hk8 hk9 hk10 hk11 hk12 H H8 CE CC hr hrB hL har
 have H5:Hid _:=HB.out.out
 go_enter Tryz.func109,Tryz.ntmps109
 go_wp2_with fail
 go_end0
 exact ⟨rfl,H5.out.2⟩
end Go.Proofs.YtkjbgggghigapaaGreat


namespace Go.Proofs.YtkjbgggghigapaaGreat
open Go.RowKit
theorem tgs_cons (nd:Jg→Ndg) (k:Int) (t:Tx) (n p:Int) (ks r:F) (b:Int) (s:Gs):tgs nd (.cons k t n p ks r) b s=if k=7 then tgs nd r (b+2) (vls nd ks s) else tgs nd r b s:=rfl
theorem tg2_cons (N:Int) (k:Int) (t:Tx) (n p:Int) (ks r:F) (i d:Int) (s:Gs):tg2 N (.cons k t n p ks r) i d s=if k=7 then tg2 N r (i+1) (d - 2) (gad 13 (d - 2) (N - 1 - i) 0 s) else tg2 N r (i+1) d (nmG t 7 9 (gad 14 (N - 1 - i) 0 0 s)):=rfl
theorem Gy.with {No:Nat→Prop} {b:Nat} {t:Tx} {s:Gs} {W w:World} {X:Nat} {cur:Array Value} (h:Gy No b t s W X cur w) (o:Obj):Gk (fun g=>(No g∨g=X)∨g=w.heap.size) b t s (w.alloc o):=
 (h.gk.grow (b1 w o)).less fun g e=>e.elim .inl fun e=>.inr ⟨by omega,by simp;omega⟩
theorem nmG_len (t:Tx) (x y:Int) (s:Gs):(nmG t x y s).code.length≤s.code.length+1:=by unfold nmG;split<;>exact gad_len _ _ _ _ _
theorem nmG_lo (t:Tx) (x y:Int) (s:Gs):(nmG t x y s).lo=s.lo:=by unfold nmG;split<;>exact put_lo _ _
set_option maxRecDepth 20000 in
set_option maxHeartbeats 16000000 in
theorem g_assign_any {L:Tx} {N:Nat} {nd:Jg→Ndg} (H:GG L (nd .val)) (H8:GG L (nd (.cal (-1)))) (CE:GN 109 L N (nd .val)) (CC:GC L N fun x=>nd (.cal x)) (No:Nat→Prop) (b:Nat) (tx:Tx) (s:Gs) (W:World) (k:Int) (t:Tx) (n:Nat) (p:Int) (a:Option Addr) (c:Nat) (ks:F) (hT:Hid (tx=L)) (h:Gk No b tx s W) (hr:Rv W No a ks) (hs:ks.siz≤N) (hw:ks.wfG L=true) (hn:n≤ks.len) (hcc:ks.len≤c∧c≤maxLen) (hL:Okg L (ks.siz+1) ks.z31 s):
 Calls Tryz.prog 71 #[.pointer (some ⟨b,0,none⟩),(.agg #[.int .i64 (k),.string ⟨(t).toArray⟩,.int .i64 (n:Nat),.int .i64 (p),.slice a ks.len c])] W (GP No b tx W (asg nd (n:Nat) ks s)):=by
 have hlen:=ks.len_siz
 have z0:=F.td_siz ks n
 have y0:=F.td_z31 ks n
 have hld:(ks.drop n).len=ks.len - n:=F.drop_len ks n
 have hlt:(ks.take n).len=n:=F.len_take ks n hn
 have hsz:ks.siz≤6000000:=by have:=hL.wt;omega
 have w1:=F.wfG_drop ks n hw
 have wq:=F.wfG_take ks n hw
 have tlz:=(ks.take n).len_siz
 obtain ⟨TG,hTG⟩:∃TG,tgs nd (ks.take n) 0 s=TG:=⟨_,rfl⟩
 have hE:asg nd (n:Nat) ks s=asgB nd (n:Nat) ks TG:=by unfold asg;rw[Int.toNat_natCast,hTG]
 rw[hE]
 have B:=h.gy #[.int .i64 k,.string ⟨t.toArray⟩,.int .i64 (n:Nat),.int .i64 p,.slice a ks.len c]
 obtain ⟨X,hX⟩:∃X,W.heap.size=X:=⟨_,rfl⟩
 obtain ⟨W1,hW1⟩:∃W1,W.alloc (.cells #[.int .i64 (k),.string ⟨(t).toArray⟩,.int .i64 (n:Nat),.int .i64 (p),.slice a ks.len c] 54)=W1:=⟨_,rfl⟩
 rw[hX,hW1] at B
 have SL2:∀W,(Instr.sliceAt 52 (.slice a ks.len c) none (some (.int .i64 (n:Nat))) none).run Tryz.prog W= .ok (.slice a n c) W:=fun W=>by
  have q1:n≤c:=by omega
  simp[go_sem,Instr.sliceAt,q1]
 obtain ⟨a2,c2,SL,HRS,hc2⟩:=slice_from2 W a n c ks hn hcc.1 (P:=fun g=>No g∨g=X)
 obtain ⟨x0,x1,x2,x3,x4⟩:=B.bx.five
 have hrB:=(B.rv hr).take n
 have HA:Hid (n=0∨∃g o,a=some ⟨g,o,none⟩):=by
  cases ks with
  | nil=>exact .inl (by simp only[F.len] at hn;omega)
  | cons k t n p ks' r'=>obtain ⟨g,o,_,_,e,_⟩:=hr.cons;exact .inr ⟨g,o,e⟩
 have HR:Hid (Rv W No a ks):=hr
 obtain ⟨r,hrr⟩:∃r,ks.take n=r:=⟨_,rfl⟩
 rw[hrr] at z0 y0 hlt wq tlz hTG hrB
 have HB:Hid (Gy No b tx s W X #[.int .i64 k,.string ⟨t.toArray⟩,.int .i64 (n:Nat),.int .i64 p,.slice a ks.len c] W1∧Rv W1 (fun g=>No g∨g=X) a r∧Okg L (r.siz+((ks.drop n).siz+1)) (r.z31+(ks.drop n).z31) s∧tgs nd r 0 s=TG):=⟨B,hrB,hL.mono (by omega) (by omega),hTG⟩
 clear h hr B hE hrB hTG hL
 go_enter Tryz.func71,Tryz.ntmps71
 go_wp2_with fail
 go_loopw [5,7,19] (fun bv _ iv wx=>∃(i:Nat) (q:F) (s':Gs) (z:Int),iv= .int .i64 (i:Nat)∧bv= .int .i64 z∧i+q.len=n∧0≤z∧z≤2 * (i:Int)∧Hid (Gy No b tx s' W X #[.int .i64 k,.string ⟨t.toArray⟩,.int .i64 (n:Nat),.int .i64 p,.slice a ks.len c] wx∧(∀g o,a=some ⟨g,o,none⟩→Rv wx (fun g=>No g∨g=X) (some ⟨g,o+i * 5,none⟩) q)∧Okg L (q.siz+(i+((ks.drop n).siz+1))) (q.z31+(ks.drop n).z31) s'∧tgs nd q z s'=TG∧q.siz≤r.siz∧q.wfG L=true)) (fun _ _ iv _=>n - (intOf iv).toNat)
 case atStart=>exact ⟨0,r,s,0,rfl,rfl,by omega,by omega,by omega,HB.out.1,fun g o e=>by have:=HB.out.2.1;rw[e] at this;simpa using this,HB.out.2.2.1.mono (by omega) (by omega),HB.out.2.2.2,Nat.le_refl _,wq⟩
 case round=>
  clear HB x0 x1 x2 x3 x4
  obtain ⟨i,q,s',z,rfl,rfl,hi,hz0,hz1,HQ⟩:=hrel
  cases q with
  | nil=>
    simp only[F.len] at hi
    obtain rfl:n=i:=by omega
    have h1:¬(n:Int)<(n:Int):=by omega
    obtain ⟨D,-,qO,qE,-,-⟩:=HQ.out
    obtain ⟨x0,x1,x2,x3,x4⟩:=D.bx.five
    have DD:=D.drew
    have C1:=exactly_any H H8 CE CC n (fun g=>No g∨g=X) b tx s' wr.drew a2 c2 (ks.drop n) hT DD.gk (HRS _ (DD.rv HR.out)) (by omega) w1 (by omega) (by omega) (qO.mono (by omega) (by omega))
    obtain ⟨s2,hs2⟩:∃s2,exa nd (n:Nat) (ks.drop n) s'=s2:=⟨_,rfl⟩
    have G2:=gw_exa H H8 n (ks.drop n) s' w1
    rw[hs2] at C1 G2
    rw[hld] at C1
    have hwt2:s2.wt+2 * n≤90000000:=by have:=G2.wt;have:=qO.wt;omega
    have hcd2:s2.code.length≤s2.wt:=code_wt (by rw[G2.cu,G2.ul];exact qO.cu)
    have hlo2:s2.lo.length≤90000000:=by have :s2.lo.length≤s2.wt:=by {unfold Gs.wt;omega}
                                        omega
    have hE2:asgB nd (n:Nat) ks TG=gad 15 ((n:Nat)+z) 0 0 (tg2 (n:Nat) r 0 ((n:Nat)+z) s2):=by rw[←qE];unfold asgB tgs;simp only[Int.toNat_natCast];rw[hrr,hs2]
    have HE2:Hid (asgB nd (n:Nat) ks TG=gad 15 ((n:Nat)+z) 0 0 (tg2 (n:Nat) r 0 ((n:Nat)+z) s2)):=hE2
    obtain ⟨x0,x1,x2,x3,x4⟩:=DD.bx.five
    have HD:Hid (Gy No b tx s' W X #[.int .i64 k,.string ⟨t.toArray⟩,.int .i64 (n:Nat),.int .i64 p,.slice a ks.len c] wr.drew):=DD
    have HX4:Hid (wr.drew.cell? ⟨X,2,none⟩=some (.int .i64 (n:Nat))∧wr.drew.cell? ⟨X,4,none⟩=some (.slice a ks.len c)):=⟨x2,x4⟩
    obtain ⟨y0,y1,y2,y3,y4⟩:=D.bx.five
    clear HQ D DD qO qE hE2 HRS G2 hs2
    go_wp2_with fail
    go_region_held3 (fun V=>V.cell? ⟨X,2,none⟩=some (.int .i64 (n:Nat))∧V.cell? ⟨X,4,none⟩=some (.slice a ks.len c)) (first | exact HX4.out | exact ⟨x2,x4⟩)
     (first | (go_at_call 106;refine C1.mono ?_;rintro e w2 hq;have D2:=HD.out.step hq;obtain ⟨rfl,-⟩:=hq;have HD2:Hid (Gy No b tx s2 W X #[.int .i64 k,.string ⟨t.toArray⟩,.int .i64 (n:Nat),.int .i64 p,.slice a ks.len c] w2):=D2;obtain ⟨x0,x1,x2,x3,x4⟩:=D2.bx.five;clear D2))
    have wz:IntKind.i64.wrap ((n:Int)+z)=(n:Int)+z:=by rw[IntKind.wrap_i64];omega
    go_wp2_with fail
    have HV2:Hid (Rv w2 (fun g=>No g∨g=X) a r):=by have q:=(HD2.out.rv HR.out).take n;rw[hrr] at q;exact q
    have HLT:Hid (r.len=n):=hlt
    clear hlt
    go_loopw [8,9,10,11,48] (fun dv _ _ _ iv wx=>∃(i:Nat) (q:F) (s':Gs) (d:Int),iv= .int .i64 (i:Nat)∧dv= .int .i64 d∧i+q.len=n∧ -20000000≤d - 2 * (q.len:Int)∧d≤20000000∧Hid (Gy No b tx s' W X #[.int .i64 k,.string ⟨t.toArray⟩,.int .i64 (n:Nat),.int .i64 p,.slice a ks.len c] wx∧(∀g o,a=some ⟨g,o,none⟩→Rv wx (fun g=>No g∨g=X) (some ⟨g,o+i * 5,none⟩) q)∧s'.code.length+2 * q.len≤90000000∧s'.lo.length≤90000000∧tg2 (n:Nat) q (i:Nat) d s'=tg2 (n:Nat) r 0 ((n:Nat)+z) s2∧q.wfG L=true)) (fun _ _ _ _ iv _=>n - (intOf iv).toNat)
    case atStart=>exact ⟨0,r,s2,(n:Int)+z,rfl,rfl,by have:=HLT.out;omega,by have:=HLT.out;omega,by omega,HD2.out,fun g o e=>by have:=HV2.out;rw[e] at this;simpa using this,by have:=HLT.out;omega,hlo2,rfl,wq⟩
    case round=>
     clear HD2 HV2 HX4 C1 hwt2 hcd2 hlo2 x0 x1 x2 x3 x4 y0 y1 y2 y3 y4
     obtain ⟨i,q,s',d,rfl,rfl,hi,hd0,hd1,HQ⟩:=hrel
     cases q with
     | nil=>
       simp only[F.len] at hi
       obtain rfl:n=i:=by omega
       have h1:¬(n:Int)<(n:Int):=by omega
       obtain ⟨D,-,qL,-,qE,-⟩:=HQ.out
       simp only[F.len] at qL
       obtain ⟨x0,x1,x2,x3,x4⟩:=D.bx.five
       have C3:=D.gk.add1 15 ((n:Nat)+z) (by omega)
       have HF:Hid (asgB nd (n:Nat) ks TG=gad 15 ((n:Nat)+z) 0 0 s'):=by
        show _=_
        rw[HE2.out,←qE];rfl
       have HD3:Hid _:=D
       clear D qE qL HQ HE2
       go_wp2_with fail
       refine C3.mono ?_
       rintro e w4 ⟨rfl,hq1,hq2⟩
       have H5:=(HD3.out.to hq1 hq2).out
       have H6:Hid (GP No b tx W (asgB nd (n:Nat) ks TG) (.returned (.tuple #[])) w4):=by
        show GP _ _ _ _ _ _ _
        rw[HF.out];exact H5
       clear C3 hq1 hq2 H5 HF HD3
       go_wp2_with fail
       go_end0
       exact H6.out
     | cons kk t' n' p' ks' q'=>
       simp only[F.len] at hi hd0
       obtain ⟨D,qA,qL,qlo,qE,qW⟩:=HQ.out
       simp only[F.len] at qL
       obtain ⟨g,o,rfl⟩:∃g o,a=some ⟨g,o,none⟩:=HA.out.resolve_left fun e=>by omega
       obtain ⟨g',o',a',c',e1,hg,d0,d1,d2,d3,d4,hKs,hNx,hcc'⟩:=(qA g o rfl).cons
       injection e1 with e1
       injection e1 with e1 e2
       subst e1 e2
       obtain ⟨hf1,hf2⟩:=F.wfG_cons qW
       have htl:=(F.wfG_one hf1).2.2.1
       have h1:(i:Int)<(n:Int):=by omega
       have wi:IntKind.i64.wrap ((i:Int)+1)=(i:Int)+1:=by rw[IntKind.wrap_i64];omega
       have wn:IntKind.i64.wrap ((n:Int) - 1)=(n:Int) - 1:=by rw[IntKind.wrap_i64];omega
       have wv:IntKind.i64.wrap ((n:Int) - 1 - (i:Int))=(n:Int) - 1 - (i:Int):=by rw[IntKind.wrap_i64];omega
       have wd:IntKind.i64.wrap (d - 2)=d - 2:=by rw[IntKind.wrap_i64];omega
       have GA:=D.with (.cells #[.int .i64 kk,.string ⟨t'.toArray⟩,.int .i64 n',.int .i64 p',.slice a' ks'.len c'] 54)
       have DA:=D.alloc (.cells #[.int .i64 kk,.string ⟨t'.toArray⟩,.int .i64 n',.int .i64 p',.slice a' ks'.len c'] 54)
       have XA:=Bx.new wr 54 #[.int .i64 kk,.string ⟨t'.toArray⟩,.int .i64 n',.int .i64 p',.slice a' ks'.len c']
       have NA:=hNx.kn ((Kn.refl (fun g=>No g∨g=X) wr).alloc (.cells #[.int .i64 kk,.string ⟨t'.toArray⟩,.int .i64 n',.int .i64 p',.slice a' ks'.len c'] 54))
       obtain ⟨Y,hY⟩:∃Y,wr.heap.size=Y:=⟨_,rfl⟩
       obtain ⟨wa,hwa⟩:∃wa,wr.alloc (.cells #[.int .i64 kk,.string ⟨t'.toArray⟩,.int .i64 n',.int .i64 p',.slice a' ks'.len c'] 54)=wa:=⟨_,rfl⟩
       rw[hwa] at GA DA XA NA
       rw[hY] at GA XA
       obtain ⟨x0,x1,x2,x3,x4⟩:=DA.bx.five
       obtain ⟨v0,v1,v2,v3,v4⟩:=XA.five
       have HN:Hid (∀wc s'' d',Kn (fun g=>No g∨g=X) wa wc→Gy No b tx s'' W X #[.int .i64 k,.string ⟨t.toArray⟩,.int .i64 (n:Nat),.int .i64 p,.slice (some ⟨g,o,none⟩) ks.len c] wc→s''.code.length+2 * q'.len≤90000000→s''.lo=s'.lo→tg2 (n:Nat) q' ((i:Nat)+1) d' s''=tg2 (n:Nat) r 0 ((n:Nat)+z) s2→(Gy No b tx s'' W X #[.int .i64 k,.string ⟨t.toArray⟩,.int .i64 (n:Nat),.int .i64 p,.slice (some ⟨g,o,none⟩) ks.len c] wc∧(∀g' o',some (⟨g,o,none⟩:Addr)=some ⟨g',o',none⟩→Rv wc (fun g=>No g∨g=X) (some ⟨g',o'+(i+1) * 5,none⟩) q')∧s''.code.length+2 * q'.len≤90000000∧s''.lo.length≤90000000∧tg2 (n:Nat) q' (((i+1:Nat):Nat):Int) d' s''=tg2 (n:Nat) r 0 ((n:Nat)+z) s2∧q'.wfG L=true)):=fun wc s'' d' hk hD hc hlo hE=>⟨hD,fun g' o' e=>by
        injection e with e
        injection e with e1 e2
        subst e1 e2
        rw[show o+(i+1) * 5=o+i * 5+5 by omega]
        exact NA.kn hk,hc,by rw[hlo];exact qlo,hE,hf2⟩
       have HDA:Hid _:=DA
       have HGA:Hid (Gk (fun g=>(No g∨g=X)∨g=Y) b tx s' wa):=GA
       have HXA:Hid _:=XA
       have HEq:Hid (tg2 (n:Nat) (F.cons kk t' n' p' ks' q') (i:Nat) d s'=tg2 (n:Nat) r 0 ((n:Nat)+z) s2):=qE
       have HlO:Hid (s'.lo.length≤90000000):=qlo
       clear D qA qE qW HQ hKs hNx GA DA XA NA HE2 hf1 hf2 qlo
       by_cases h7:kk=7
       ·have C3:=HDA.out.gk.add2 13 (d - 2) ((n:Int) - 1 - (i:Int)) (by omega)
        have HE3:Hid (tg2 (n:Nat) q' ((i:Nat)+1) (d - 2) (gad 13 (d - 2) ((n:Nat) - 1 - (i:Nat)) 0 s')=tg2 (n:Nat) r 0 ((n:Nat)+z) s2):=by have q:=HEq.out;rw[tg2_cons,if_pos h7] at q;exact q
        have hgl:=gad_len 13 (d - 2) ((n:Int) - 1 - (i:Int)) 0 s'
        subst h7
        clear HEq
        go_wp2_with fail
        refine C3.mono ?_
        rintro e wc ⟨rfl,hq1,hq2⟩
        have HF:=HN.out wc _ (d - 2) hq2 (HDA.out.to hq1 hq2) (by omega) (put_lo _ _) HE3.out
        have HF2:Hid _:=HF
        clear C3 hq1 hq2 HF HN HE3 HDA HGA HXA
        go_wp2
        refine ⟨⟨i+1,q',_,_,by go_num,by go_num,by omega,by omega,by omega,HF2.out⟩,?_⟩
        simp[intOf];omega
       ·have e7:(kk==7)=false:=by simpa using h7
        have C3:=HGA.out.add1 14 ((n:Int) - 1 - (i:Int)) (by omega)
        have HE3:Hid (tg2 (n:Nat) q' ((i:Nat)+1) d (nmG t' 7 9 (gad 14 ((n:Nat) - 1 - (i:Nat)) 0 0 s'))=tg2 (n:Nat) r 0 ((n:Nat)+z) s2):=by have q:=HEq.out;rw[tg2_cons,if_neg h7] at q;exact q
        have hgl:=gad_len 14 ((n:Int) - 1 - (i:Int)) 0 0 s'
        have hnl:=nmG_len t' 7 9 (gad 14 ((n:Int) - 1 - (i:Int)) 0 0 s')
        clear HEq
        go_wp2_with fail
        refine C3.mono ?_
        rintro e wc ⟨rfl,hq1,hq2⟩
        have D4:=HDA.out.to (hq1.less fun _ e=>.inl e) (hq2.mono fun _ _ e=>.inl e)
        obtain ⟨v0,v1,v2,v3,v4⟩:=(HXA.out.kn hq2 (.inr rfl)).five
        have C4:=g_name_any (fun g=>No g∨g=X) b tx _ t' 7 9 wc D4.gk htl (by rw[show (gad 14 ((n:Int) - 1 - (i:Int)) 0 0 s').lo=s'.lo from put_lo _ _];have:=HlO.out;omega) (by omega)
        have HK4:Hid (Kn (fun g=>No g∨g=X) wa wc):=hq2.mono fun _ _ e=>.inl e
        have HD4:Hid _:=D4
        clear C3 hq1 hq2 D4 HDA HGA HXA
        go_wp2_with fail
        refine C4.mono ?_
        rintro e we ⟨rfl,hq1,hq2⟩
        have HF:=HN.out we _ d (HK4.out.trans hq2) (HD4.out.to hq1 hq2) (by omega) ((nmG_lo _ _ _ _).trans (put_lo _ _)) HE3.out
        have HF2:Hid _:=HF
        clear C4 hq1 hq2 HF HN HE3 HD4 HK4
        go_wp2
        refine ⟨⟨i+1,q',_,_,by go_num,rfl,by omega,by omega,by omega,HF2.out⟩,?_⟩
        simp[intOf];omega
  | cons kk t' n' p' ks' q'=>
    simp only[F.len] at hi
    obtain ⟨D,qA,qO,qE,qS,qW⟩:=HQ.out
    rw[z31_cons] at qO
    simp only[F.siz] at qO qS
    obtain ⟨g,o,rfl⟩:∃g o,a=some ⟨g,o,none⟩:=HA.out.resolve_left fun e=>by omega
    obtain ⟨g',o',a',c',e1,hg,d0,d1,d2,d3,d4,hKs,hNx,hcc'⟩:=(qA g o rfl).cons
    injection e1 with e1
    injection e1 with e1 e2
    subst e1 e2
    obtain ⟨hf1,hf2⟩:=F.wfG_cons qW
    have wfk:=(F.wfG_one hf1).2.2.2
    have yk:ks'.z31≤(one kk t' n' p' ks').z31:=by simp only[one,F.z31];omega
    have h1:(i:Int)<(n:Int):=by omega
    have wi:IntKind.i64.wrap ((i:Int)+1)=(i:Int)+1:=by rw[IntKind.wrap_i64];omega
    have wz:IntKind.i64.wrap (z+2)=z+2:=by rw[IntKind.wrap_i64];omega
    have DA:=D.alloc (.cells #[.int .i64 kk,.string ⟨t'.toArray⟩,.int .i64 n',.int .i64 p',.slice a' ks'.len c'] 54)
    have XA:=Bx.new wr 54 #[.int .i64 kk,.string ⟨t'.toArray⟩,.int .i64 n',.int .i64 p',.slice a' ks'.len c']
    have NA:=hNx.kn ((Kn.refl (fun g=>No g∨g=X) wr).alloc (.cells #[.int .i64 kk,.string ⟨t'.toArray⟩,.int .i64 n',.int .i64 p',.slice a' ks'.len c'] 54))
    have KA:=hKs.kn ((Kn.refl (fun g=>No g∨g=X) wr).alloc (.cells #[.int .i64 kk,.string ⟨t'.toArray⟩,.int .i64 n',.int .i64 p',.slice a' ks'.len c'] 54))
    obtain ⟨Y,hY⟩:∃Y,wr.heap.size=Y:=⟨_,rfl⟩
    obtain ⟨wa,hwa⟩:∃wa,wr.alloc (.cells #[.int .i64 kk,.string ⟨t'.toArray⟩,.int .i64 n',.int .i64 p',.slice a' ks'.len c'] 54)=wa:=⟨_,rfl⟩
    rw[hwa] at DA XA NA KA
    rw[hY] at XA
    obtain ⟨v0,v1,v2,v3,v4⟩:=XA.five
    have HN:Hid (∀wc s'' z',Kn (fun g=>No g∨g=X) wa wc→Gy No b tx s'' W X #[.int .i64 k,.string ⟨t.toArray⟩,.int .i64 (n:Nat),.int .i64 p,.slice (some ⟨g,o,none⟩) ks.len c] wc→Okg L (q'.siz+((i+1)+((ks.drop n).siz+1))) (q'.z31+(ks.drop n).z31) s''→tgs nd q' z' s''=TG→(Gy No b tx s'' W X #[.int .i64 k,.string ⟨t.toArray⟩,.int .i64 (n:Nat),.int .i64 p,.slice (some ⟨g,o,none⟩) ks.len c] wc∧(∀g' o',some (⟨g,o,none⟩:Addr)=some ⟨g',o',none⟩→Rv wc (fun g=>No g∨g=X) (some ⟨g',o'+(i+1) * 5,none⟩) q')∧Okg L (q'.siz+((i+1)+((ks.drop n).siz+1))) (q'.z31+(ks.drop n).z31) s''∧tgs nd q' z' s''=TG∧q'.siz≤r.siz∧q'.wfG L=true)):=fun wc s'' z' hk hD hO hE=>⟨hD,fun g' o' e=>by
     injection e with e
     injection e with e1 e2
     subst e1 e2
     rw[show o+(i+1) * 5=o+i * 5+5 by omega]
     exact NA.kn hk,hO,hE,by omega,hf2⟩
    have HDA:Hid _:=DA
    have HEq:Hid (tgs nd (F.cons kk t' n' p' ks' q') z s'=TG):=qE
    by_cases h7:kk=7
    ·have C3:=values_any H CE (fun g=>No g∨g=X) b tx s' wa a' c' ks' hT DA.gk KA (by omega) wfk (qO.mono (by omega) (by omega))
     have OV:Okg L (q'.siz+((i+1)+((ks.drop n).siz+1))) (q'.z31+(ks.drop n).z31) (vls nd ks' s'):=(qO.mono (y:=ks'.siz+(q'.siz+((i+1)+((ks.drop n).siz+1)))) (f:=ks'.z31+(q'.z31+(ks.drop n).z31)) (by omega) (by omega)).step (gb_vls H ks' s' wfk)
     have HO:Hid (Okg L (q'.siz+((i+1)+((ks.drop n).siz+1))) (q'.z31+(ks.drop n).z31) (vls nd ks' s')):=OV
     have HE3:Hid (tgs nd q' (z+2) (vls nd ks' s')=TG):=by have q:=HEq.out;rw[tgs_cons,if_pos h7] at q;exact q
     subst h7
     clear HEq D qA qO qE qW HQ hKs hNx DA XA NA KA OV hf1 hf2
     go_wp2_with fail
     refine C3.mono ?_
     rintro e wc ⟨rfl,hq1,hq2⟩
     have HF:=HN.out wc _ (z+2) hq2 (HDA.out.to hq1 hq2) HO.out HE3.out
     have HF2:Hid _:=HF
     clear C3 hq1 hq2 HF HN HE3 HDA HO
     go_wp2
     refine ⟨⟨i+1,q',_,_,by go_num,by go_num,by omega,by omega,by omega,HF2.out⟩,?_⟩
     simp[intOf];omega
    ·have e7:(kk==7)=false:=by simpa using h7
     have HE3:Hid (tgs nd q' z s'=TG):=by have q:=HEq.out;rw[tgs_cons,if_neg h7] at q;exact q
     have HF:=HN.out wa _ z (Kn.refl _ _) HDA.out (qO.mono (by omega) (by omega)) HE3.out
     have HF2:Hid _:=HF
     clear HEq D qA qO qE qW HQ hKs hNx DA XA NA KA hf1 hf2 HF HN HE3 HDA
     go_wp2
     refine ⟨⟨i+1,q',_,_,by go_num,rfl,by omega,by omega,by omega,HF2.out⟩,?_⟩
     simp[intOf];omega
end Go.Proofs.YtkjbgggghigapaaGreat


namespace Go.Proofs.YtkjbgggghigapaaGreat
open Go.RowKit
def cdl (s:Gs) (i:Nat):Nat:=(s.us[i]?).elim 0 fun u=>u.cd.length
structure Mo (s s':Gs):Prop where
 cu:s'.cu=s.cu
 ul:s'.us.length=s.us.length
 cd:∀i,cdl s i≤cdl s' i
 lo:s.lo.length≤s'.lo.length
 bo:s.cu<s.us.length→BrO s→BrO s'
 gh:s'.gS=s.gS∧s'.gU=s.gU
theorem cdl_cu (s:Gs):cdl s s.cu=s.code.length:=by unfold cdl Gs.code;cases s.us[s.cu]?<;>rfl
theorem Mo.refl (s:Gs):Mo s s:=⟨rfl,rfl,fun _=>Nat.le_refl _,Nat.le_refl _,fun _ h=>h,rfl,rfl⟩
theorem Mo.trans {a b c:Gs} (h:Mo a b) (k:Mo b c):Mo a c:=
 ⟨k.cu.trans h.cu,k.ul.trans h.ul,fun i=>Nat.le_trans (h.cd i) (k.cd i),Nat.le_trans h.lo k.lo,fun q r=>k.bo (by rw[h.cu,h.ul];exact q) (h.bo q r),k.gh.1.trans h.gh.1,k.gh.2.trans h.gh.2⟩
theorem Mo.code {s s':Gs} (h:Mo s s'):s.code.length≤s'.code.length:=by
 have q:=h.cd s.cu
 rw[cdl_cu,←h.cu,cdl_cu] at q
 exact q
theorem put_us (c:List In) (s:Gs):(s.put c).cu=s.cu∧(s.put c).lo=s.lo∧(s.put c).br=s.br:=by unfold Gs.put;cases s.us[s.cu]?<;>exact ⟨rfl,rfl,rfl⟩
theorem mo_put (c:List In) (s:Gs) (h:s.code.length≤c.length):Mo s (s.put c):=by
 cases hu:s.us[s.cu]? with
 | none=>have e:s.put c=s:=by unfold Gs.put;rw[hu];rfl
         rw[e];exact .refl s
 | some u=>
   have hl:=(List.getElem?_eq_some_iff.1 hu).1
   have e:s.put c={s with us:=s.us.set s.cu {u with cd:=c}}:=by unfold Gs.put;rw[hu];rfl
   have hc:s.code=u.cd:=by unfold Gs.code;rw[hu];rfl
   rw[hc] at h
   have hp:(s.put c).code.length=c.length:=by rw[Gs.code_put hu]
   refine ⟨by rw[e],by rw[e];simp,fun i=>?_,by rw[e];exact Nat.le_refl _,fun _ hb j hj=>?_,by rw[e];exact ⟨rfl,rfl⟩⟩
   ·rw[e]
    unfold cdl
    by_cases q:s.cu=i
    ·subst q
     simp only[List.getElem?_set_self hl,hu,Option.elim_some]
     exact h
    ·simp only[List.getElem?_set_ne q]
     exact Nat.le_refl _
   ·rw[(put_us c s).2.2] at hj
    have:=hb j hj
    rw[hc] at this
    omega
theorem mo_ite {c:Prop} {i:Decidable c} {s a b:Gs} (h1:Mo s a) (h2:Mo s b):Mo s (@ite _ c i a b):=by split<;>assumption
theorem mo_gad (op a b c:Int) (s:Gs):Mo s (gad op a b c s):=mo_put _ _ (by simp)
theorem mo_lnd (j:Int) (s:Gs):Mo s (lnd j s):=mo_put _ _ (by simp)
theorem mo_lea (j:Int) (s:Gs):Mo s (lea j s):=mo_put _ _ (by simp)
theorem mo_lnds:∀(l:List Int) (s:Gs),Mo s (lnds l s)
 | [],s=>.refl s
 | j::l,s=>(mo_lnd j s).trans (mo_lnds l _)
theorem mo_nils:∀(n:Nat) (s:Gs),Mo s (nils n s)
 | 0,s=>.refl s
 | n+1,s=>(mo_gad 3 0 0 0 s).trans (mo_nils n _)
theorem mo_lo (s:Gs) (l:List Tx) (h:s.lo.length≤l.length):Mo s {s with lo:=l}:=⟨rfl,rfl,fun _=>Nat.le_refl _,h,fun _ hb=>hb,rfl,rfl⟩
theorem mo_brg:∀(r:F) (s:Gs),Mo s (brg r s)
 | .nil,s=>.refl s
 | .cons _ t _ _ _ r,s=>(mo_lo s (s.lo++[t]) (by simp)).trans (mo_brg r _)
theorem mo_brL (r:F) (s:Gs):Mo s (brL r s):=(mo_lo s (s.lo++[[],[],[]]) (by simp)).trans (mo_brg r _)
theorem mo_cut {s s':Gs} (h:Mo s s'):Mo s {s' with lo:=s'.lo.take s.lo.length}:=
 ⟨h.cu,h.ul,h.cd,by have:=h.lo;simp;omega,fun q r=>h.bo q r,h.gh⟩
theorem mo_brk {s s':Gs} (h:Mo {s with br:=[]} s'):Mo s {s' with br:=s.br}:=
 ⟨h.cu,h.ul,h.cd,h.lo,fun _ hb j hj=>by
  have:=hb j hj
  have q:s.code.length≤s'.code.length:=h.code
  have e:({s' with br:=s.br}:Gs).code=s'.code:=rfl
  rw[e];omega,h.gh⟩
theorem mo_unit {s s':Gs} {c e:Nat} (h:Mo {s with cu:=c,be:=e,lo:=[],br:=[]} s'):Mo s {s' with cu:=s.cu,lo:=s.lo,br:=s.br}:=
 ⟨rfl,h.ul,h.cd,Nat.le_refl _,fun _ hb j hj=>by
  have:=hb j hj
  have q:cdl s s.cu≤cdl s' s.cu:=h.cd s.cu
  rw[cdl_cu] at q
  have e:({s' with cu:=s.cu,lo:=s.lo,br:=s.br}:Gs).code.length=cdl s' s.cu:=(cdl_cu {s' with cu:=s.cu,lo:=s.lo,br:=s.br}).symm
  rw[e];omega,h.gh⟩
theorem mo_setL:∀(c b:Nat) (s:Gs),Mo s (setL c b s)
 | 0,_,s=>.refl s
 | c+1,b,s=>(mo_gad _ _ _ _ s).trans (mo_setL c b _)
theorem mo_lin (lf:Int→Int→Int) (p:Int) (s:Gs):Mo s (lin lf p s):=⟨rfl,rfl,fun _=>Nat.le_refl _,Nat.le_refl _,fun _ hb=>hb,rfl,rfl⟩
theorem mo_nm (t:Tx) (a b:Int) (s:Gs):Mo s (nmG t a b s):=by unfold nmG;split<;>exact mo_gad _ _ _ _ s
theorem mo_bat (x:Gs×Int×Int):Mo x.1 (bat x).1:=by unfold bat;simp only;split<;>first | exact mo_gad _ _ _ _ _ | exact .refl _
section
variable {nd:Jg→Ndg} (M:∀j k t n p ks s,Mo s (nd j k t n p ks s))
include M
theorem mo_ndK (j:Jg) (ks:F) (i:Nat) (s:Gs):Mo s (ndK nd j ks i s):=by
 unfold ndK
 cases ks.get? i with
 | none=>exact .refl s
 | some x=>exact M _ _ _ _ _ _ s
theorem mo_vls:∀(r:F) (s:Gs),Mo s (vls nd r s)
 | .nil,s=>.refl s
 | .cons k t n p ks r,s=>(M .val k t n p ks s).trans (mo_vls r _)
theorem mo_opn (ks:F) (s:Gs):Mo s (opn nd ks s):=by
 unfold opn
 split
 ·exact mo_vls M _ _
 ·exact (mo_vls M _ _).trans (mo_ndK M _ _ _ _)
theorem mo_exa (n:Int) (ks:F) (s:Gs):Mo s (exa nd n ks s):=by
 unfold exa
 split
 ·exact mo_vls M _ _
 ·split
  ·exact mo_nils _ _
  ·exact ((mo_gad _ _ _ _ s).trans (mo_opn M _ _)).trans (mo_gad _ _ _ _ _)
theorem mo_idx (ks:F) (s:Gs):Mo s (idxG nd ks s):=by
 unfold idxG
 split
 ·exact mo_gad _ _ _ _ _
 ·exact (mo_vls M _ _).trans (mo_gad _ _ _ _ _)
theorem mo_cal (r:Int) (ks:F) (s:Gs):Mo s (calG nd r ks s):=(((mo_ndK M _ _ _ s).trans (mo_gad _ _ _ _ _)).trans (mo_opn M _ _)).trans (mo_gad _ _ _ _ _)
theorem mo_eit (op:Int) (ks:F) (s:Gs):Mo s (eit nd op ks s):=(((mo_ndK M _ _ _ s).trans (mo_gad _ _ _ _ _)).trans (mo_ndK M _ _ _ _)).trans (mo_lnd _ _)
theorem mo_bin (t:Tx) (ks:F) (s:Gs):Mo s (binG nd t ks s):=by
 unfold binG
 split
 ·exact mo_eit M _ _ _
 ·split
  ·exact mo_eit M _ _ _
  ·exact (mo_vls M _ _).trans (mo_gad _ _ _ _ _)
theorem mo_flds:∀(r:F) (w k:Int) (s:Gs),Mo s (flds nd r w k s).1
 | .nil,_,_,s=>.refl s
 | .cons kk _ _ _ ks r,w,k,s=>by
   unfold flds
   split
   ·exact ((mo_vls M _ _).trans (mo_gad _ _ _ _ _)).trans (mo_flds r _ _ _)
   ·split
    ·exact ((mo_vls M _ _).trans (mo_gad _ _ _ _ _)).trans (mo_flds r _ _ _)
    ·exact (mo_vls M _ _).trans (mo_flds r _ _ _)
theorem mo_tabR (ks:F) (x:Gs×Int):Mo x.1 (tabR nd ks x):=by
 unfold tabR
 split
 ·exact .refl _
 ·exact ((mo_gad _ _ _ _ _).trans (mo_opn M _ _)).trans (mo_gad _ _ _ _ _)
theorem mo_tab (ks:F) (s:Gs):Mo s (tabG nd ks s):=(((mo_gad _ _ _ _ s).trans (mo_flds M _ _ _ _)).trans (mo_bat _)).trans (mo_tabR M _ _)
set_option maxHeartbeats 4000000 in
theorem mo_val (k:Int) (t:Tx) (n:Int) (ks:F) (s:Gs):Mo s (valG nd k t n ks s):=by
 unfold valG
 repeat' split
 next h=>exact mo_gad _ _ _ _ _
 next h=>exact mo_gad _ _ _ _ _
 next h=>exact mo_gad _ _ _ _ _
 next h=>exact mo_gad _ _ _ _ _
 next h=>exact mo_gad _ _ _ _ _
 next h=>exact mo_nm _ _ _ _
 next h=>exact mo_idx M _ _
 next h=>exact mo_cal M _ _ _
 next h=>exact mo_ndK M _ _ _ _
 next h=>exact (mo_ndK M _ _ _ _).trans (mo_gad _ _ _ _ _)
 next h=>exact mo_bin M _ _ _
 next h=>exact mo_tab M _ _
 next h=>exact .refl _
theorem mo_sts (lf:Int→Int→Int):∀(r:F) (s:Gs),Mo s (sts nd lf r s)
 | .nil,s=>.refl s
 | .cons k t n p ks r,s=>(((mo_lin lf p s).trans (mo_gad _ _ _ _ _)).trans (M .sta k t n p ks _)).trans (mo_sts lf r _)
theorem mo_blk (lf:Int→Int→Int) (ks:F) (s:Gs):Mo s (blkG nd lf ks s):=mo_cut (mo_sts M lf ks s)
theorem mo_dcl (n:Int) (ks:F) (s:Gs):Mo s (dcl nd n ks s):=((mo_exa M _ _ s).trans (mo_brg _ _)).trans (mo_setL _ _ _)
theorem mo_tgs:∀(r:F) (b:Int) (s:Gs),Mo s (tgs nd r b s).1
 | .nil,_,s=>.refl s
 | .cons k _ _ _ ks r,b,s=>by
   unfold tgs
   split
   ·exact (mo_vls M _ _).trans (mo_tgs r _ _)
   ·exact mo_tgs r _ _
omit M in
theorem mo_tg2 (N:Int):∀(r:F) (i d:Int) (s:Gs),Mo s (tg2 N r i d s)
 | .nil,_,_,s=>.refl s
 | .cons k t _ _ _ r,i,d,s=>by
   unfold tg2
   split
   ·exact (mo_gad _ _ _ _ _).trans (mo_tg2 N r _ _ _)
   ·exact ((mo_gad _ _ _ _ _).trans (mo_nm _ _ _ _)).trans (mo_tg2 N r _ _ _)
theorem mo_asg (n:Int) (ks:F) (s:Gs):Mo s (asg nd n ks s):=(((mo_tgs M _ _ s).trans (mo_exa M _ _ _)).trans (mo_tg2 _ _ _ _ _)).trans (mo_gad _ _ _ _ _)
theorem mo_chc:∀(r:F) (es:List Int) (s:Gs),Mo s (chc nd r es s)
 | .nil,es,s=>mo_lnds es s
 | .cons k t n p ks .nil,es,s=>(M .blk k t n p ks s).trans (mo_lnds es _)
 | .cons k t n p ks (.cons k2 t2 n2 p2 ks2 r),es,s=>by
   unfold chc
   simp only
   have h3:=((M .val k t n p ks s).trans (mo_gad 19 0 0 0 _)).trans (M .blk k2 t2 n2 p2 ks2 _)
   split
   ·exact (h3.trans (mo_lnd _ _)).trans (mo_chc r _ _)
   ·exact ((h3.trans (mo_gad _ _ _ _ _)).trans (mo_lnd _ _)).trans (mo_chc r _ _)
theorem mo_trn (ks:F) (i:Nat) (op a b:Int) (s:Gs):Mo s (trn nd ks i op a b s):=mo_brk (((mo_ndK M .blk ks i {s with br:=[]}).trans (mo_gad _ _ _ _ _)).trans (mo_lnds _ _))
theorem mo_whl (ks:F) (s:Gs):Mo s (whl nd ks s):=((((mo_ndK M _ _ _ s).trans (mo_gad _ _ _ _ _)).trans (mo_gad _ _ _ _ _)).trans (mo_trn M _ _ _ _ _ _)).trans (mo_lnd _ _)
theorem mo_lpN (ks:F) (s:Gs):Mo s (lpN nd ks s):=by
 unfold lpN
 simp only
 exact mo_cut (((((mo_vls M _ s).trans (mo_gad _ _ _ _ _)).trans (mo_brL _ _)).trans (mo_trn M _ _ _ _ _ _)).trans (mo_lea _ _))
omit M in
theorem mo_lpH (f n:Int) (s:Gs):Mo s (lpH f n s):=((((mo_gad _ _ _ _ s).trans (mo_gad _ _ _ _ _)).trans (mo_gad _ _ _ _ _)).trans (mo_gad _ _ _ _ _)).trans (mo_gad _ _ _ _ _)
theorem mo_lpL (n:Int) (ks:F) (s:Gs):Mo s (lpL nd n ks s):=by
 unfold lpL
 simp only
 exact mo_cut (((((((mo_exa M _ _ s).trans (mo_gad _ _ _ _ _)).trans (mo_lpH _ _ _)).trans (mo_gad _ _ _ _ _)).trans (mo_brL _ _)).trans (mo_trn M _ _ _ _ _ _)).trans (mo_lea _ _))
theorem mo_mkU (pr ks:F) (i:Nat) (s:Gs):Mo s (mkU nd pr ks i s):=by
 unfold mkU
 simp only
 exact mo_unit ((((mo_brg pr _).trans (mo_ndK M _ _ _ _)).trans (mo_gad _ _ _ _ _)).trans (mo_gad _ _ _ _ _))
set_option maxHeartbeats 4000000 in
theorem mo_sta (k:Int) (t:Tx) (n:Int) (ks:F) (s:Gs):Mo s (staG nd k t n ks s):=by
 unfold staG
 refine mo_ite (mo_dcl M _ _ _) (mo_ite (mo_asg M _ _ _) (mo_ite (mo_ndK M _ _ _ _) (mo_ite (mo_chc M _ _ _) (mo_ite (mo_whl M _ _) (mo_ite (mo_lpN M _ _) (mo_ite (mo_lpL M _ _ _) (mo_ite (mo_ndK M _ _ _ _) (mo_ite ?_ (mo_ite (((mo_gad _ _ _ _ _).trans (mo_opn M _ _)).trans (mo_gad _ _ _ _ _)) (mo_ite (((mo_gad _ _ _ _ _).trans (mo_gad _ _ _ _ _)).trans (mo_mkU M _ _ _ _)) (.refl _)))))))))))
 have h:=mo_gad 18 0 0 0 s
 refine ⟨h.cu,h.ul,h.cd,h.lo,fun hc hb j hj=>?_,h.gh⟩
 have q:=h.bo hc hb
 rcases List.mem_append.1 hj with hj | hj
 ·exact q j (by rw[show (gad 18 0 0 0 s).br=s.br from (put_us _ s).2.2];exact hj)
 ·have e:j=(s.code.length:Int):=by simpa [Gs.nx] using hj
  have e2:(gad 18 0 0 0 s).code.length=s.code.length+1:=by
   obtain ⟨u,hu⟩:∃u,s.us[s.cu]?=some u:=⟨_,List.getElem?_eq_getElem hc⟩
   unfold gad;rw[Gs.code_put hu];simp
  show 0≤j∧j<((gad 18 0 0 0 s).code.length:Int)
  rw[e,e2];omega
end
theorem mo_gn (lf:Int→Int→Int):∀(N:Nat) (j:Jg) (k:Int) (t:Tx) (n p:Int) (ks:F) (s:Gs),Mo s (gn lf N j k t n p ks s)
 | 0,_,_,_,_,_,_,s=>.refl s
 | N+1,.val,_,_,_,_,_,s=>mo_val (mo_gn lf N) _ _ _ _ s
 | N+1,.cal _,_,_,_,_,_,s=>mo_cal (mo_gn lf N) _ _ s
 | N+1,.blk,_,_,_,_,_,s=>mo_blk (mo_gn lf N) lf _ s
 | N+1,.sta,_,_,_,_,_,s=>mo_sta (mo_gn lf N) _ _ _ _ s
end Go.Proofs.YtkjbgggghigapaaGreat
