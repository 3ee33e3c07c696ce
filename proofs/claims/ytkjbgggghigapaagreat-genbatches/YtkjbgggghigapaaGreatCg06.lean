import Derived.Test.YtkjbgggghigapaaGreatCg05
import Derived.Test.YtkjbgggghigapaaGreatCg04
import Derived.Deep.DeepCutAuto
import Derived.Laws.CopyOwn
namespace Go.Proofs.YtkjbgggghigapaaGreat
open Go.RowKit
def CN (f:FuncId) (N:Nat) (nd:Ndc):Prop:=∀(No:Nat→Prop) (b:Nat) (s:Cs) (W:World) (k:Int) (t:Tx) (n p:Int) (a:Option Addr) (c:Nat) (ks:F),Ck No b s W→Rv W No a ks→ks.siz<N→(one k t n p ks).wfC=true→(ks.len≤c∧c≤maxLen)→s.wt+4 * (ks.siz+1)≤1000000→0≤s.lp→s.lp+((ks.siz:Nat):Int)+1≤1000000→
 Calls Tryz.prog f #[.pointer (some ⟨b,0,none⟩),(.agg #[.int .i64 (k),.string ⟨(t).toArray⟩,.int .i64 (n),.int .i64 (p),.slice a ks.len c])] W (CP No b W (nd k t n p ks s))
set_option maxRecDepth 20000 in
set_option maxHeartbeats 4000000 in
theorem nodes_any {N:Nat} {nd:Ndc} (H:∀k t n p ks s,Gd (ks.siz+1) s (nd k t n p ks s)) (CE:CN 23 N nd) (No:Nat→Prop) (b:Nat) (s:Cs) (W:World) (a:Option Addr) (c:Nat) (r:F) (h:Ck No b s W) (hr:Rv W No a r) (hs:r.siz≤N) (hw:r.wfC=true) (hL:s.wt+4 * r.siz≤1000000) (hp0:0≤s.lp) (hp:s.lp+((r.siz:Nat):Int)≤1000000):
 Calls Tryz.prog 38 #[.pointer (some ⟨b,0,none⟩),.slice a r.len c] W (CP No b W (ckN nd r s)):=by
 have hlen:=r.len_siz
 have HA:Hid (r= .nil∨∃g o,a=some ⟨g,o,none⟩):=by
  cases r with
  | nil=>exact .inl rfl
  | cons k t n p ks r'=>obtain ⟨g,o,_,_,e,_⟩:=hr.cons;exact .inr ⟨g,o,e⟩
 have H0:Hid (Ck No b s W∧Rv W No a r):=⟨h,hr⟩
 clear h hr
 go_enter Tryz.func38,Tryz.ntmps38
 go_wp2_with fail
 go_loopw [5,8] (fun _ iv wx=>∃(i:Nat) (q:F) (s':Cs),iv= .int .i64 (i:Nat)∧i+q.len=r.len∧Hid (Ck No b s' wx∧Kn No W wx∧(∀g o,a=some ⟨g,o,none⟩→Rv wx No (some ⟨g,o+i * 5,none⟩) q)∧ckN nd q s'=ckN nd r s∧q.siz≤r.siz∧q.wfC=true∧s'.wt+4 * q.siz≤1000000∧s'.lp=s.lp)) (fun _ iv _=>r.len - (intOf iv).toNat)
 case atStart=>exact ⟨0,r,s,rfl,by omega,H0.out.1,Kn.refl _ _,fun g o e=>by have:=H0.out.2;rw[e] at this;simpa using this,rfl,Nat.le_refl _,hw,hL,rfl⟩
 case round=>
  clear H0
  obtain ⟨i,q,s',rfl,hi,HR⟩:=hrel
  cases q with
  | nil=>
    have h1:¬(i:Int)<(r.len:Int):=by simp only[F.len] at hi;omega
    have HE:Hid (CP No b W (ckN nd r s) (.returned (.tuple #[])) wr):=by
     obtain ⟨q1,q2,_,q3,_⟩:=HR.out
     rw[←q3]
     exact ⟨rfl,q1,q2⟩
    go_wp2
    go_end0
    exact HE.out
  | cons k t n p ks q'=>
    simp only[F.len] at hi
    obtain ⟨hC,hK,hRv,hE,hz,hwf,hwt,hlp⟩:=HR.out
    obtain ⟨g,o,rfl⟩:∃g o,a=some ⟨g,o,none⟩:=HA.out.resolve_left fun e=>by rw[e] at hi;simp only[F.len] at hi;omega
    have hRv:=hRv g o rfl
    obtain ⟨g',o',a',c',e1,hg,c0,c1,c2,c3,c4,hKs,hNx,hcc⟩:=hRv.cons
    injection e1 with e1
    injection e1 with e1 e2
    subst e1 e2
    simp only[F.siz] at hz hwt
    obtain ⟨hw1,hw2⟩:=F.wfC_cons hwf
    have h1:(i:Int)<(r.len:Int):=by omega
    have wi:IntKind.i64.wrap ((i:Int)+1)=(i:Int)+1:=by rw[IntKind.wrap_i64];omega
    have X:=Bx.new wr 54 #[.int .i64 k,.string ⟨t.toArray⟩,.int .i64 n,.int .i64 p,.slice a' ks.len c']
    have C:=CE No b s' (wr.alloc (.cells #[.int .i64 (k),.string ⟨(t).toArray⟩,.int .i64 (n),.int .i64 (p),.slice a' ks.len c'] 54)) k t n p a' c' ks (hC.alloc _) (hKs.kn ((Kn.refl _ _).alloc _)) (by omega) hw1 hcc (by omega) (by omega) (by omega)
    have HK:Hid (Kn No W (wr.alloc (.cells #[.int .i64 (k),.string ⟨(t).toArray⟩,.int .i64 (n),.int .i64 (p),.slice a' ks.len c'] 54))∧Rv (wr.alloc (.cells #[.int .i64 (k),.string ⟨(t).toArray⟩,.int .i64 (n),.int .i64 (p),.slice a' ks.len c'] 54)) No (some ⟨g,o+i * 5+5,none⟩) q'∧ckN nd q' (nd k t n p ks s')=ckN nd r s):=⟨hK.alloc _,hNx.kn ((Kn.refl _ _).alloc _),hE⟩
    obtain ⟨W1,hW1⟩:∃W1,wr.alloc (.cells #[.int .i64 (k),.string ⟨(t).toArray⟩,.int .i64 (n),.int .i64 (p),.slice a' ks.len c'] 54)=W1:=⟨_,rfl⟩
    rw[hW1] at X C HK
    obtain ⟨p0,p1,p2,p3,p4⟩:=X.five
    have HG:=H k t n p ks s'
    have hgw:=HG.wt
    have hgl:=HG.lp
    have HS:Hid ((nd k t n p ks s').wt+4 * q'.siz≤1000000∧(nd k t n p ks s').lp=s.lp∧q'.siz≤r.siz):=⟨by omega,by omega,by omega⟩
    clear hC hK hRv hE HR hKs hNx X HG hgw hgl hlp
    go_wp2_with fail
    refine C.mono ?_;rintro e w2 ⟨rfl,hc1,hc2⟩
    have HF:Hid (Ck No b (nd k t n p ks s') w2∧Kn No W w2∧(∀g' o',some (⟨g,o,none⟩:Addr)=some ⟨g',o',none⟩→Rv w2 No (some ⟨g',o'+(i+1) * 5,none⟩) q')):=⟨hc1,HK.out.1.trans hc2,fun g' o' e=>by
     injection e with e
     injection e with e1 e2
     subst e1 e2
     have:=HK.out.2.1.kn hc2
     rw[show o+(i+1) * 5=o+i * 5+5 by omega]
     exact this⟩
    clear C hc1 hc2
    go_wp2
    refine ⟨⟨i+1,q',nd k t n p ks s',by go_num,by omega,HF.out.1,HF.out.2.1,HF.out.2.2,HK.out.2.2,HS.out.2.2,hw2,HS.out.1,HS.out.2.1⟩,?_⟩
    simp[intOf];omega
theorem CK.appL {No:Nat→Prop} {b:Nat} {x:Cx} {s:Cs} {w w3:World} {ys:List Tx} {g' cc:Nat} {o:Obj} (h:CK No b x s w) (hown:w3.ownsRow 0 9 1 (.slice (some ⟨g',0,none⟩) (s.lo.length+ys.length) cc) (s.lo.length+ys.length) (strs s.lo++strs ys))
 (hg3:(w.alloc o).grownBy w3 x.vL.ownBlock) (hat:x.vL.ownBlock=some g'∨g'=(w.alloc o).heap.size):Ck No b {s with lo:=s.lo++ys} (w3.setCell ⟨b,4,none⟩ (.slice (some ⟨g',0,none⟩) (s.lo.length+ys.length) cc))∧Kn No w (w3.setCell ⟨b,4,none⟩ (.slice (some ⟨g',0,none⟩) (s.lo.length+ys.length) cc)):=by
 have s3:=hg3.size
 have z1:(w.alloc o).heap.size=w.heap.size+1:=by simp
 have h1:=h.at h.lL (g':=g') (hat.imp id fun e=>by omega)
 generalize hlab:(fun g=>if g=g' then 4 else x.lab g)=lab' at h1
 have hl':lab' g'=4:=by rw[←hlab];exact if_pos rfl
 have hbg:g'≠b:=fun e=>by have:=h1.lb;rw[←e] at this;simp only at this;omega
 have k0:Tr {x with lab:=lab'} (fun l=>l=1∨l=4) w w3:=((Tr.refl _ _ w).alloc o).trans (Tr.app hg3 h1.lL (.inr rfl))
 have k:Tr {x with lab:=lab'} (fun l=>l=1∨l=4) w (w3.setCell ⟨b,4,none⟩ (.slice (some ⟨g',0,none⟩) (s.lo.length+ys.length) cc)):=k0.set (.inl h1.lb) _
 have hb3:Bx b 76 (ccl x s) w3:=⟨(hg3.block b (by have:=h.lt;omega) (fun e=>by have:=h1.lL b e.symm;have:=h1.lb;simp only at *;omega)).trans (h.bx.alloc o).blk⟩
 refine ⟨⟨{x with vL:= .slice (some ⟨g',0,none⟩) (s.lo.length+ys.length) cc,lab:=lab'},?_⟩,?_⟩
 ·refine ⟨hb3.put (j:=4) _,h1.fr' k (by simp),h1.gr' k (by simp),?_,h1.ar' k (by simp),h1.mp' k (by simp),fun i _ _ hf hv=>h1.cs' k (by omega) hf hv,h.vl,h1.lb,h1.lF,h1.lG,fun g hg=>?_,h.lA,h1.lm,h1.lc,h1.no' k.size,h.nu⟩
  ·have e1:strs (s.lo++ys)=strs s.lo++strs ys:=by simp[strs]
   rw[List.length_append,e1]
   exact own_set hown (fun g hg=>by have e2:g'=g:=by simpa [Value.ownBlock] using hg
                                    omega) _
  ·have e2:g'=g:=by simpa [Value.ownBlock] using hg
   rw[←e2];exact hl'
 ·refine ⟨hg3.os,hg3.tape,hg3.output,k.size,fun g hg hn=>k.block g hg ?_⟩
  rw[(h1.no g hn).2];simp
end Go.Proofs.YtkjbgggghigapaaGreat


namespace Go.Proofs.YtkjbgggghigapaaGreat
open Go.RowKit
theorem b1 (w:World) (o:Obj):Below w.heap.size w (w.alloc o):=(Below.refl _ w).alloc (Nat.le_refl _) o
theorem b2 (w:World) (o o':Obj):Below w.heap.size w ((w.alloc o).alloc o'):=(b1 w o).alloc (by simp) o'
theorem Ck.drew {No:Nat→Prop} {b:Nat} {s:Cs} {w:World} (h:Ck No b s w):Ck No b s w.drew:=by obtain ⟨x,h⟩:=h;exact ⟨x,h.drew⟩
theorem Cy.drew {No:Nat→Prop} {b:Nat} {s:Cs} {W w:World} {X:Nat} {cur:Array Value} (h:Cy No b s W X cur w):Cy No b s W X cur w.drew:=⟨h.ck.drew,h.kn.drew,h.bx.drew,h.xl⟩
theorem CK.fnAt {No:Nat→Prop} {b:Nat} {x:Cx} {s:Cs} {w:World} (h:CK No b x s w):∃f v g c,s.fs[s.nu]?=some f∧x.vs[s.nu]?=some v∧x.vF= .slice (some ⟨g,0,none⟩) s.fs.length c∧x.lab g=2∧g<w.heap.size∧w.cell? ⟨g,s.nu * 5+3,none⟩=some (.int .i64 f.sl)∧w.cell? ⟨g,s.nu * 5+4,none⟩=some v∧(∀j,w.frozen? ⟨g,j,none⟩=false)∧
 w.ownsRow 0 79 3 v f.cs.length (vcl f.cs):=by
 have hn:=h.nu
 obtain ⟨f,hf⟩:∃f,s.fs[s.nu]?=some f:=⟨_,List.getElem?_eq_getElem hn⟩
 obtain ⟨v,hv⟩:∃v,x.vs[s.nu]?=some v:=⟨_,List.getElem?_eq_getElem (by rw[h.vl];exact hn)⟩
 obtain ⟨-,-,-,q3,q4⟩:=fcl_at s.fs x.vs s.nu f v hf hv
 obtain ⟨g,e1,r3⟩:=own_at h.fr _ _ q3
 obtain ⟨g2,e2,r4⟩:=own_at h.fr _ _ q4
 have e3:g2=g:=by rw[e2] at e1;simpa using e1
 rw[e3] at r4
 have hF:=h.fr
 rcases h.fr.2 with ⟨_,e⟩ | ⟨g',cap,cur,e,_⟩
 ·omega
 ·have e4:g'=g:=by rw[e] at e1;simpa [Value.ownBlock] using e1
  rw[e4] at e
  rw[e] at hF
  exact ⟨f,v,g,cap,hf,hv,e,h.lF g e1,(h.fr.lt g e1).2,r3,r4,fun j=>hF.frozenAt j,h.cs _ _ _ hf hv⟩
theorem CK.slots {No:Nat→Prop} {b:Nat} {x:Cx} {s:Cs} {w:World} {f:Fn} {g c:Nat} (h:CK No b x s w) (hf:s.fs[s.nu]?=some f) (hv:x.vF= .slice (some ⟨g,0,none⟩) s.fs.length c) (hl:x.lab g=2):
 Ck No b (slo s) (w.setCell ⟨g,s.nu * 5+3,none⟩ (.int .i64 (max f.sl (s.lo.length:Int))))∧Kn No w (w.setCell ⟨g,s.nu * 5+3,none⟩ (.int .i64 (max f.sl (s.lo.length:Int)))):=by
 have k:Tr x (fun l=>l=2) w (w.setCell ⟨g,s.nu * 5+3,none⟩ (.int .i64 (max f.sl (s.lo.length:Int)))):=(Tr.refl _ _ w).set hl _
 have hs:slo s={s with fs:=s.fs.set s.nu {f with sl:=max f.sl (s.lo.length:Int)}}:=by unfold slo;rw[hf];rfl
 rw[hs]
 refine ⟨⟨x,h.bx' k (by decide),?_,h.gr' k (by decide),h.lr' k (by decide),h.ar' k (by decide),h.mp' k (by decide),fun i f' v hf' hv'=>?_,by simpa using h.vl,h.lb,h.lF,h.lG,h.lL,h.lA,h.lm,h.lc,h.no' k.size,by simpa using h.nu⟩,⟨rfl,rfl,rfl,k.size,fun g hg hn=>k.block g hg (by rw[(h.no g hn).2];decide)⟩⟩
 ·have q:=h.fr
  rw[hv] at q
  have q2:=q.stored (s.nu * 5+3) (.int .i64 (max f.sl (s.lo.length:Int)))
  rw[fcl_sl s.fs x.vs s.nu f _ hf h.vl] at q2
  rw[List.length_set,hv]
  exact q2.1
 ·by_cases e:i=s.nu
  ·subst e
   simp only[List.getElem?_set_self h.nu,Option.some.injEq] at hf'
   subst hf'
   have q:=h.cs' k (i:=s.nu) (by omega) hf hv'
   exact q
  ·simp only at hf'
   rw[List.getElem?_set_ne (fun q=>e q.symm)] at hf'
   exact h.cs' k (by omega) hf' hv'
set_option maxRecDepth 20000 in
set_option maxHeartbeats 8000000 in
theorem bring_any (No:Nat→Prop) (b:Nat) (s:Cs) (W:World) (k:Int) (t:Tx) (n p:Int) (v:Value) (a:Option Addr) (c:Nat) (r:F) (h:Ck No b s W) (hr:Rv W No a r) (hL:s.wt+4 * r.siz≤1000000):
 Calls Tryz.prog 81 #[.pointer (some ⟨b,0,none⟩),(.agg #[.int .i64 (k),.string ⟨(t).toArray⟩,.int .i64 (n),.int .i64 (p),v]),.slice a r.len c] W (CP No b W (bri p r s)):=by
 obtain ⟨i0,hi0,hz0,hz1,hz2⟩:=info_parts info9
 have hlen:=r.len_siz
 have hlo:s.lo.length≤s.wt:=by unfold Cs.wt;omega
 have hblo:=brN_lo r s
 have HA:Hid (r= .nil∨∃g o,a=some ⟨g,o,none⟩):=by
  cases r with
  | nil=>exact .inl rfl
  | cons k t n p ks r'=>obtain ⟨g,o,_,_,e,_⟩:=hr.cons;exact .inr ⟨g,o,e⟩
 have B:=h.cy #[.int .i64 k,.string ⟨t.toArray⟩,.int .i64 n,.int .i64 p,v]
 have hr1:=hr.kn B.kn
 obtain ⟨X,hX⟩:∃X,W.heap.size=X:=⟨_,rfl⟩
 obtain ⟨W1,hW1⟩:∃W1,W.alloc (.cells #[.int .i64 (k),.string ⟨(t).toArray⟩,.int .i64 (n),.int .i64 (p),v] 54)=W1:=⟨_,rfl⟩
 rw[hX,hW1] at B
 rw[hW1] at hr1
 have H0:Hid (Cy No b s W X #[.int .i64 k,.string ⟨t.toArray⟩,.int .i64 n,.int .i64 p,v] W1∧Rv W1 No a r):=⟨B,hr1⟩
 clear h hr B hr1
 go_enter Tryz.func81,Tryz.ntmps81
 go_wp2_with fail
 go_loopw [7,12] (fun _ iv wx=>∃(i:Nat) (q:F) (s':Cs),iv= .int .i64 (i:Nat)∧i+q.len=r.len∧Hid (Cy No b s' W X #[.int .i64 k,.string ⟨t.toArray⟩,.int .i64 n,.int .i64 p,v] wx∧(∀g o,a=some ⟨g,o,none⟩→Rv wx No (some ⟨g,o+i * 5,none⟩) q)∧brN q s'=brN r s∧s'.lo.length+q.len=s.lo.length+r.len)) (fun _ iv _=>r.len - (intOf iv).toNat)
 case atStart=>exact ⟨0,r,s,rfl,by omega,H0.out.1,fun g o e=>by have:=H0.out.2;rw[e] at this;simpa using this,rfl,rfl⟩
 case round=>
  clear H0
  obtain ⟨i,q,s',rfl,hi,HR⟩:=hrel
  cases q with
  | nil=>
    have h1:¬(i:Int)<(r.len:Int):=by simp only[F.len] at hi;omega
    obtain ⟨D,-,hE,-⟩:=HR.out
    have hE:s'=brN r s:=hE
    obtain ⟨x,hx⟩:=D.ck
    obtain ⟨aL,cL,eL⟩:=slice_shape hx.lr
    have c4:wr.cell? ⟨b,4,none⟩=some x.vL:=hx.bx.c 4 _ rfl
    rw[eL] at c4
    obtain ⟨p0,p1,p2,p3,p4⟩:=D.bx.five
    have C:=limit_any D.ck k t n p v (s'.lo.length:Int) 60
    have HD:Hid (Cy No b s' W X #[.int .i64 k,.string ⟨t.toArray⟩,.int .i64 n,.int .i64 p,v] wr):=D
    have HS:Hid (bri p r s=slo (lim p (s'.lo.length:Int) 60 s')):=by rw[hE];rfl
    clear D hE hx HR eL
    go_wp2_with fail
    refine C.mono ?_
    rintro e w2 hq
    have D2:=HD.out.step hq
    obtain ⟨rfl,-⟩:=hq
    obtain ⟨x2,hx2⟩:=D2.ck
    obtain ⟨f,vc,g,cF,hf,hv,eF,lF,gF,d3,d4,dz,-⟩:=hx2.fnAt
    have b0:w2.cell? ⟨b,0,none⟩=some x2.vF:=hx2.bx.c 0 _ rfl
    have b3:w2.cell? ⟨b,3,none⟩=some (.int .i64 ((lim p (s'.lo.length:Int) 60 s').nu:Nat)):=hx2.bx.c 3 _ rfl
    have hnu:=hx2.nu
    have HE:Hid _:=hx2.slots hf eF lF
    rw[eF] at b0
    rw[lo_lim] at HE
    have dz3:=dz ((lim p (s'.lo.length:Int) 60 s').nu * 5+3)
    generalize (lim p (s'.lo.length:Int) 60 s').nu=m at *
    generalize (lim p (s'.lo.length:Int) 60 s').fs.length=nf at *
    have HD2:Hid _:=D2
    clear hx2 D2 hf hv eF lF d4 dz C
    go_wp2_with fail
    go_region
    go_wp2
    go_end0
    rw[HS.out]
    exact ((HD2.out.step (e:=.returned (.tuple #[])) ⟨rfl,HE.out.1,HE.out.2⟩).drew).out
  | cons k2 t2 n2 p2 ks2 q'=>
    simp only[F.len] at hi
    obtain ⟨D,hRv,hE,hle⟩:=HR.out
    simp only[F.len] at hle
    obtain ⟨g,o,rfl⟩:∃g o,a=some ⟨g,o,none⟩:=HA.out.resolve_left fun e=>by rw[e] at hi;simp only[F.len] at hi;omega
    have hRv:=hRv g o rfl
    obtain ⟨g',o',a',c',e1,hg,c0,c1,c2,c3,c4,hKs,hNx,hcc⟩:=hRv.cons
    injection e1 with e1
    injection e1 with e1 e2
    subst e1 e2
    have h1:(i:Int)<(r.len:Int):=by omega
    have wi:IntKind.i64.wrap ((i:Int)+1)=(i:Int)+1:=by rw[IntKind.wrap_i64];omega
    have B2:=D.ck.cy #[.int .i64 k2,.string ⟨t2.toArray⟩,.int .i64 n2,.int .i64 p2,.slice a' ks2.len c']
    obtain ⟨Y,hY⟩:∃Y,wr.heap.size=Y:=⟨_,rfl⟩
    obtain ⟨V1,hV1⟩:∃V1,wr.alloc (.cells #[.int .i64 (k2),.string ⟨(t2).toArray⟩,.int .i64 (n2),.int .i64 (p2),.slice a' ks2.len c'] 54)=V1:=⟨_,rfl⟩
    rw[hY,hV1] at B2
    have C:=unkept_any B2.ck k2 t2 n2 p2 (.slice a' ks2.len c')
    obtain ⟨r0,r1,r2,r3,r4⟩:=B2.bx.five
    have HD:Hid (Cy No b s' W X #[.int .i64 k,.string ⟨t.toArray⟩,.int .i64 n,.int .i64 p,v] wr∧Cy (fun g=>No g∨g=X) b s' wr Y #[.int .i64 k2,.string ⟨t2.toArray⟩,.int .i64 n2,.int .i64 p2,.slice a' ks2.len c'] V1∧Rv wr No (some ⟨g,o+i * 5+5,none⟩) q'):=⟨D,B2,hNx⟩
    have HS:Hid (brN q' {unk t2 p2 s' with lo:=s'.lo++[t2]}=brN r s∧s'.lo.length≤2000000∧s'.lo.length+1+q'.len=s.lo.length+r.len):=⟨hE,by omega,by omega⟩
    clear D hRv hE HR hKs hNx B2 hle
    go_wp2_with fail
    refine C.mono ?_
    rintro e w2 hq
    have D2:=HD.out.2.1.step hq
    obtain ⟨rfl,-⟩:=hq
    obtain ⟨x2,hx2⟩:=D2.ck
    have q4:w2.cell? ⟨b,4,none⟩=some x2.vL:=hx2.bx.c 4 _ rfl
    obtain ⟨d0,d1,d2,d3,d4⟩:=D2.bx.five
    have hD:=hx2.drew
    have q4A:∀o,(w2.alloc o).cell? ⟨b,4,none⟩=some x2.vL:=fun o=>(hx2.alloc o).bx.c 4 _ rfl
    have HF:Hid (∀o w3,(w2.drew.alloc o).grownBy w3 x2.vL.ownBlock→w3.frozen? ⟨b,4,none⟩=false∧w3.cell? ⟨b,4,none⟩=some x2.vL):=fun o w3 hg3=>by
     have hb3:Bx b 76 (ccl x2 (unk t2 p2 s')) w3:=⟨(hg3.block b (Nat.lt_of_lt_of_le hD.lt (by simp)) (fun e=>by have:=hx2.lL b e.symm;have:=hx2.lb;omega)).trans (hD.bx.alloc o).blk⟩
     exact ⟨hb3.f 4,hb3.c 4 _ rfl⟩
    have hlu:(unk t2 p2 s').lo.length≤2000000:=by rw[lo_unk];exact HS.out.2.1
    have HX:Hid _:=hD
    have HD2:Hid _:=D2
    have hlr:=hD.lr
    clear hD hx2 D2 C
    go_wp2_with fail
    go_region_law (refine step_append_lies _ (by rfl) _ _ 23 (by rfl) 0 9 i0 _ 1 16 Tryz.underlying23 hi0 hz0 hz1 hz2 rfl (by omega) x2.vL (unk t2 p2 s').lo.length (strs (unk t2 p2 s').lo) (by rfl) (hlr.alloc _) ⟨w2.drew.heap.size,0,none⟩ 1 1 [.string ⟨t2.toArray⟩] (by rfl) rfl (World.news_of_block (cs:=#[.string ⟨t2.toArray⟩]) (t:=9) (fr:=(0,0)) (Bx.new w2.drew 9 #[.string ⟨t2.toArray⟩]).blk) (by simp[Value.oneCell']) (by omega) (by unfold maxLen;omega) (by omega) (by omega) _ rfl ?_;intro gg cc w3 hown3 hg3 hat3 hlt3;obtain ⟨fz4,fc4⟩:=HF.out _ w3 hg3)
    all_goals
     have hA:=HX.out.appL (ys:=[t2]) (o:=.cells #[.string ⟨t2.toArray⟩] 9) hown3 hg3 hat3
     have D3:=(HD2.out.drew.step (e:=.returned (.tuple #[])) ⟨rfl,hA.1,hA.2⟩).out
     have D4:=HD.out.1.step D3
     rw[lo_unk] at D4
     have HN:Hid (Cy No b {unk t2 p2 s' with lo:=s'.lo++[t2]} W X #[.int .i64 k,.string ⟨t.toArray⟩,.int .i64 n,.int .i64 p,v] _∧_):=⟨D4,HD.out.2.2.kn (D3.2.2.mono fun _ _ e=>.inl e)⟩
     clear hA D3 D4 hown3 hg3 hat3 hlt3 fz4 fc4
     rw[lo_unk] at HN⊢
     go_wp2
     refine ⟨⟨i+1,q',{unk t2 p2 s' with lo:=s'.lo++[t2]},by go_num,by omega,HN.out.1,fun g' o' e=>?_,HS.out.1,by simp only[List.length_append,List.length_singleton];exact HS.out.2.2⟩,?_⟩
     ·injection e with e
      injection e with e1 e2
      subst e1 e2
      rw[show o+(i+1) * 5=o+i * 5+5 by omega]
      exact HN.out.2
     ·simp[intOf];omega
end Go.Proofs.YtkjbgggghigapaaGreat


namespace Go.Proofs.YtkjbgggghigapaaGreat
open Go.RowKit
def ic1 (i:In):List Value:=[.int .i64 i.1,.int .i64 i.2.1,.int .i64 i.2.2.1,.int .i64 i.2.2.2]
def icl (l:List In):List Value:=l.flatMap ic1
def nts (l:List Int):List Value:=l.map fun i=>.int .i64 i
def ucl:List Gu→List Value→List Value→List Value
 | u::us,c::cs,k::ks=>.string ⟨u.nm.toArray⟩:: .int .i64 u.pa:: .int .i64 u.sl::c::k::ucl us cs ks
 | _,_,_=>[]
theorem ucl_at:∀(us:List Gu) (cs ks:List Value) (i:Nat) (u:Gu) (c k:Value),us[i]?=some u→cs[i]?=some c→ks[i]?=some k→
 (ucl us cs ks)[i * 5]?=some (.string ⟨u.nm.toArray⟩)∧(ucl us cs ks)[i * 5+1]?=some (.int .i64 u.pa)∧(ucl us cs ks)[i * 5+2]?=some (.int .i64 u.sl)∧(ucl us cs ks)[i * 5+3]?=some c∧(ucl us cs ks)[i * 5+4]?=some k
 | [],_,_,i,u,c,k,h,_,_=>by simp at h
 | _::_,[],_,i,u,c,k,_,h,_=>by simp at h
 | _::_,_::_,[],i,u,c,k,_,_,h=>by simp at h
 | _::us,_::cs,_::ks,0,u,c,k,h,h2,h3=>by simp at h h2 h3;subst h h2 h3;exact ⟨rfl,rfl,rfl,rfl,rfl⟩
 | _::us,_::cs,_::ks,i+1,u,c,k,h,h2,h3=>by
   have:=ucl_at us cs ks i u c k (by simpa using h) (by simpa using h2) (by simpa using h3)
   simpa only[show (i+1) * 5=i * 5+5 by omega,show i * 5+5+1=i * 5+1+5 by omega,show i * 5+5+2=i * 5+2+5 by omega,show i * 5+5+3=i * 5+3+5 by omega,show i * 5+5+4=i * 5+4+5 by omega,ucl,List.getElem?_cons_succ] using this
theorem ucl_cd:∀(us:List Gu) (cs ks:List Value) (i:Nat) (u:Gu) (l:List In) (v:Value),us[i]?=some u→cs.length=us.length→ks.length=us.length→
 (ucl us cs ks).set (i * 5+4) v=ucl (us.set i {u with cd:=l}) cs (ks.set i v)
 | [],_,_,i,u,l,v,h,_,_=>by simp at h
 | _::_,[],_,i,u,l,v,_,h,_=>by simp at h
 | _::_,_::_,[],i,u,l,v,_,_,h=>by simp at h
 | _::us,_::cs,_::ks,0,u,l,v,h,_,_=>by simp at h;subst h;rfl
 | _::us,_::cs,_::ks,i+1,u,l,v,h,h2,h3=>by
   have:=ucl_cd us cs ks i u l v (by simpa using h) (by simpa using h2) (by simpa using h3)
   rw[show (i+1) * 5+4=i * 5+4+5 by omega]
   simp only[ucl,List.set_cons_succ,this]
structure Mi (w:World) (m:Nat) (l:List Tx):Prop where
 ex:∃(D:DataW Unit) (n:Nat),w.ownsMap Tryz.prog 9 (plainElem Tryz.prog 3) m n D∧∀t:Tx,D.atKey (.string t) (.lit (.int .i64 0))= .lit (.int .i64 (lst t 0 l))
theorem Mi.keep {w w':World} {m:Nat} {l:List Tx} (h:Mi w m l) (hb:w'.heap[m]?=w.heap[m]?):Mi w' m l:=by
 obtain ⟨D,n,⟨es,clock,h1,h2⟩,h3⟩:=h.ex
 exact ⟨D,n,⟨es,clock,hb.trans h1,h2⟩,h3⟩
theorem Mi.lt {w:World} {m:Nat} {l:List Tx} (h:Mi w m l):m<w.heap.size:=by
 obtain ⟨D,n,h1,_⟩:=h.ex
 exact h1.lt
structure Gx where
 S:Nat
 U:Nat
 m:Nat
 vU:Value
 vL:Value
 vB:Value
 vc:List Value
 vk:List Value
 lab:Nat→Nat
def scl (x:Gx) (t:Tx) (s:Gs):Array Value:=#[.string ⟨t.toArray⟩,x.vU,.int .i64 (s.be:Nat),.map (some x.m),.int .i64 s.pl,.int .i64 s.ln]
def mcl (x:Gx) (s:Gs):Array Value:=#[.pointer (some ⟨x.S,0,none⟩),.pointer (some ⟨x.U,s.cu * 5,none⟩),x.vL,x.vB]
structure GK (No:Nat→Prop) (b:Nat) (t:Tx) (x:Gx) (s:Gs) (w:World):Prop where
 sx:Bx x.S 71 (scl x t s) w
 mx:Bx b 101 (mcl x s) w
 ur:w.ownsRow 0 41 5 x.vU s.us.length (ucl s.us x.vc x.vk)
 lr:w.ownsRow 0 9 1 x.vL s.lo.length (strs s.lo)
 br:w.ownsRow 0 3 1 x.vB s.br.length (nts s.br)
 mp:Mi w x.m s.gl
 cr:∀(i:Nat) (u:Gu) (v:Value),s.us[i]?=some u→x.vc[i]?=some v→w.ownsRow 0 79 3 v u.cs.length (vcl u.cs)
 kr:∀(i:Nat) (u:Gu) (v:Value),s.us[i]?=some u→x.vk[i]?=some v→w.ownsRow 0 48 4 v u.cd.length (icl u.cd)
 cl:x.vc.length=s.us.length
 kl:x.vk.length=s.us.length
 ub:x.vU.ownBlock=some x.U
 lS:x.lab x.S=1
 lb:x.lab b=2
 lU:x.lab x.U=3
 lm:x.lab x.m=4
 lL:∀g,x.vL.ownBlock=some g→x.lab g=5
 lB:∀g,x.vB.ownBlock=some g→x.lab g=6
 lc:∀(i:Nat) (v:Value) (g:Nat),x.vc[i]?=some v→v.ownBlock=some g→x.lab g=7
 lk:∀(i:Nat) (v:Value) (g:Nat),x.vk[i]?=some v→v.ownBlock=some g→x.lab g=8+i
 no:∀g,No g→g<w.heap.size∧x.lab g=0
 cu:s.cu<s.us.length
 gh:x.S=s.gS∧x.U=s.gU
structure Tg (x:Gx) (T:Nat→Prop) (w w':World):Prop where
 size:w.heap.size≤w'.heap.size
 block:∀g,g<w.heap.size→¬T (x.lab g)→w'.heap[g]?=w.heap[g]?
section
variable {No:Nat→Prop} {b:Nat} {t:Tx} {x:Gx} {s:Gs} {w w' w'':World} {T T':Nat→Prop}
theorem Tg.refl (x:Gx) (T:Nat→Prop) (w:World):Tg x T w w:=⟨Nat.le_refl _,fun _ _ _=>rfl⟩
theorem Tg.trans (h:Tg x T w w') (k:Tg x T w' w''):Tg x T w w'':=⟨Nat.le_trans h.size k.size,fun g hg hT=>(k.block g (Nat.lt_of_lt_of_le hg h.size) hT).trans (h.block g hg hT)⟩
theorem Tg.mono (h:Tg x T w w') (hs:∀l,T l→T' l):Tg x T' w w':=⟨h.size,fun g hg hT=>h.block g hg fun e=>hT (hs _ e)⟩
theorem Tg.below (h:Tg x T w w') (k:Below w'.heap.size w' w''):Tg x T w w'':=h.trans ⟨k.size,fun g hg _=>k.block g hg⟩
theorem Tg.set (h:Tg x T w w') {g o:Nat} (hg:T (x.lab g)) (u:Value):Tg x T w (w'.setCell ⟨g,o,none⟩ u):=
 h.trans ⟨by simp,fun k _ hT=>Below.heap_setCell w' _ u k fun e=>hT (by have e:k=g:=e;rw[e];exact hg)⟩
theorem Tg.app {v:Value} {l:Nat} (h:w.grownBy w' v.ownBlock) (hv:∀g,v.ownBlock=some g→x.lab g=l) (hl:T l):Tg x T w w':=⟨h.size,fun g hg hT=>h.block g hg fun e=>hT (by rw[hv g e.symm];exact hl)⟩
theorem GK.lt (h:GK No b t x s w):b<w.heap.size:=h.mx.lt
theorem GK.sx' (h:GK No b t x s w) (k:Tg x T w w') (hT:¬T 1):Bx x.S 71 (scl x t s) w':=⟨(k.block _ h.sx.lt (by rw[h.lS];exact hT)).trans h.sx.blk⟩
theorem GK.mx' (h:GK No b t x s w) (k:Tg x T w w') (hT:¬T 2):Bx b 101 (mcl x s) w':=⟨(k.block _ h.mx.lt (by rw[h.lb];exact hT)).trans h.mx.blk⟩
theorem GK.ur' (h:GK No b t x s w) (k:Tg x T w w') (hT:¬T 3):w'.ownsRow 0 41 5 x.vU s.us.length (ucl s.us x.vc x.vk):=
 own_keep h.ur fun g hg=>k.block g (h.ur.lt g hg).2 (by rw[show g=x.U by rw[h.ub] at hg;simpa using hg.symm,h.lU];exact hT)
theorem GK.lr' (h:GK No b t x s w) (k:Tg x T w w') (hT:¬T 5):w'.ownsRow 0 9 1 x.vL s.lo.length (strs s.lo):=own_keep h.lr fun g hg=>k.block g (h.lr.lt g hg).2 (by rw[h.lL g hg];exact hT)
theorem GK.br' (h:GK No b t x s w) (k:Tg x T w w') (hT:¬T 6):w'.ownsRow 0 3 1 x.vB s.br.length (nts s.br):=own_keep h.br fun g hg=>k.block g (h.br.lt g hg).2 (by rw[h.lB g hg];exact hT)
theorem GK.mp' (h:GK No b t x s w) (k:Tg x T w w') (hT:¬T 4):Mi w' x.m s.gl:=h.mp.keep (k.block _ h.mp.lt (by rw[h.lm];exact hT))
theorem GK.cr' (h:GK No b t x s w) (k:Tg x T w w') (hT:¬T 7) {i:Nat} {u:Gu} {v:Value} (hu:s.us[i]?=some u) (hv:x.vc[i]?=some v):w'.ownsRow 0 79 3 v u.cs.length (vcl u.cs):=
 own_keep (h.cr i u v hu hv) fun g hg=>k.block g ((h.cr i u v hu hv).lt g hg).2 (by rw[h.lc i v g hv hg];exact hT)
theorem GK.kr' (h:GK No b t x s w) (k:Tg x T w w') {i:Nat} (hT:¬T (8+i)) {u:Gu} {v:Value} (hu:s.us[i]?=some u) (hv:x.vk[i]?=some v):w'.ownsRow 0 48 4 v u.cd.length (icl u.cd):=
 own_keep (h.kr i u v hu hv) fun g hg=>k.block g ((h.kr i u v hu hv).lt g hg).2 (by rw[h.lk i v g hv hg];exact hT)
theorem GK.no' (h:GK No b t x s w) (k:w.heap.size≤w'.heap.size):∀g,No g→g<w'.heap.size∧x.lab g=0:=fun g hg=>⟨Nat.lt_of_lt_of_le (h.no g hg).1 k,(h.no g hg).2⟩
theorem GK.tr (h:GK No b t x s w) (k:Tg x (fun _=>False) w w'):GK No b t x s w':=
 ⟨h.sx' k id,h.mx' k id,h.ur' k id,h.lr' k id,h.br' k id,h.mp' k id,fun _ _ _ hu hv=>h.cr' k id hu hv,fun _ _ _ hu hv=>h.kr' k id hu hv,h.cl,h.kl,h.ub,h.lS,h.lb,h.lU,h.lm,h.lL,h.lB,h.lc,h.lk,h.no' k.size,h.cu,h.gh⟩
theorem GK.below (h:GK No b t x s w) (k:Below w.heap.size w w'):GK No b t x s w':=h.tr ⟨k.size,fun g hg _=>k.block g hg⟩
theorem GK.alloc (h:GK No b t x s w) (o:Obj):GK No b t x s (w.alloc o):=h.below ((Below.refl _ w).alloc (Nat.le_refl _) o)
theorem GK.drew (h:GK No b t x s w):GK No b t x s w.drew:=h.tr ⟨Nat.le_refl _,fun _ _ _=>rfl⟩
theorem GK.less {No':Nat→Prop} (h:GK No b t x s w) (hs:∀g,No' g→No g):GK No' b t x s w:=
 ⟨h.sx,h.mx,h.ur,h.lr,h.br,h.mp,h.cr,h.kr,h.cl,h.kl,h.ub,h.lS,h.lb,h.lU,h.lm,h.lL,h.lB,h.lc,h.lk,fun g hg=>h.no g (hs g hg),h.cu,h.gh⟩
theorem GK.vcAt (h:GK No b t x s w) {i:Nat} {v:Value} (hv:x.vc[i]?=some v):∃u,s.us[i]?=some u:=by
 have:=(List.getElem?_eq_some_iff.1 hv).1
 rw[h.cl] at this
 exact ⟨_,List.getElem?_eq_getElem this⟩
theorem GK.vkAt (h:GK No b t x s w) {i:Nat} {v:Value} (hv:x.vk[i]?=some v):∃u,s.us[i]?=some u:=by
 have:=(List.getElem?_eq_some_iff.1 hv).1
 rw[h.kl] at this
 exact ⟨_,List.getElem?_eq_getElem this⟩
theorem GK.ltU (h:GK No b t x s w):x.U<w.heap.size:=(h.ur.lt _ h.ub).2
theorem GK.relab (h:GK No b t x s w) (lab':Nat→Nat) (e:∀g,g<w.heap.size→lab' g=x.lab g):GK No b t {x with lab:=lab'} s w:=
 ⟨h.sx,h.mx,h.ur,h.lr,h.br,h.mp,h.cr,h.kr,h.cl,h.kl,h.ub,(e _ h.sx.lt).trans h.lS,(e _ h.lt).trans h.lb,(e _ h.ltU).trans h.lU,(e _ h.mp.lt).trans h.lm,fun g hg=>(e g (h.lr.lt g hg).2).trans (h.lL g hg),fun g hg=>(e g (h.br.lt g hg).2).trans (h.lB g hg),
  fun i v g hv hg=>by obtain ⟨u,hu⟩:=h.vcAt hv;exact (e g ((h.cr i u v hu hv).lt g hg).2).trans (h.lc i v g hv hg),
  fun i v g hv hg=>by obtain ⟨u,hu⟩:=h.vkAt hv;exact (e g ((h.kr i u v hu hv).lt g hg).2).trans (h.lk i v g hv hg),
  fun g hg=>⟨(h.no g hg).1,(e g (h.no g hg).1).trans (h.no g hg).2⟩,h.cu,h.gh⟩
theorem GK.at (h:GK No b t x s w) {v:Value} {l g':Nat} (hv:∀g,v.ownBlock=some g→x.lab g=l) (hat:v.ownBlock=some g'∨w.heap.size≤g'):GK No b t {x with lab:=fun g=>if g=g' then l else x.lab g} s w:=
 h.relab _ fun g hg=>by
  by_cases e:g=g'
  ·rw[if_pos e]
   rcases hat with q | q
   ·rw[e];exact (hv g' q).symm
   ·omega
  ·rw[if_neg e]
theorem GK.more (h:GK No b t x s w) {X:Nat} (hX:w.heap.size≤X) (h2:X<w'.heap.size) (k:Below w.heap.size w w'):GK (fun g=>No g∨g=X) b t {x with lab:=fun g=>if g=X then 0 else x.lab g} s w':=by
 have h1:=(h.relab (fun g=>if g=X then 0 else x.lab g) fun g hg=>if_neg (by omega)).below k
 exact ⟨h1.sx,h1.mx,h1.ur,h1.lr,h1.br,h1.mp,h1.cr,h1.kr,h1.cl,h1.kl,h1.ub,h1.lS,h1.lb,h1.lU,h1.lm,h1.lL,h1.lB,h1.lc,h1.lk,fun g hg=>hg.elim (fun hg=>h1.no g hg) (fun hg=>by subst hg;exact ⟨h2,if_pos rfl⟩),h1.cu,h1.gh⟩
end
def Gk (No:Nat→Prop) (b:Nat) (t:Tx) (s:Gs) (w:World):Prop:=∃x,GK No b t x s w
def GP (No:Nat→Prop) (b:Nat) (t:Tx) (W:World) (s:Gs) (e:Ending) (w':World):Prop:=e= .returned (.tuple #[])∧Gk No b t s w'∧Kn No W w'
theorem GK.here {No:Nat→Prop} {b:Nat} {t:Tx} {x:Gx} {s:Gs} {w:World} (h:GK No b t x s w):∃u c k n,s.us[s.cu]?=some u∧x.vc[s.cu]?=some c∧x.vk[s.cu]?=some k∧x.vU= .slice (some ⟨x.U,0,none⟩) s.us.length n∧
 w.cell? ⟨x.U,s.cu * 5+3,none⟩=some c∧w.cell? ⟨x.U,s.cu * 5+4,none⟩=some k∧w.ownsRow 0 79 3 c u.cs.length (vcl u.cs)∧w.ownsRow 0 48 4 k u.cd.length (icl u.cd):=by
 have hn:=h.cu
 obtain ⟨u,hu⟩:∃u,s.us[s.cu]?=some u:=⟨_,List.getElem?_eq_getElem hn⟩
 obtain ⟨c,hc⟩:∃c,x.vc[s.cu]?=some c:=⟨_,List.getElem?_eq_getElem (by rw[h.cl];exact hn)⟩
 obtain ⟨k,hk⟩:∃k,x.vk[s.cu]?=some k:=⟨_,List.getElem?_eq_getElem (by rw[h.kl];exact hn)⟩
 obtain ⟨-,-,-,q3,q4⟩:=ucl_at s.us x.vc x.vk s.cu u c k hu hc hk
 obtain ⟨g,e1,r3⟩:=own_at h.ur _ _ q3
 obtain ⟨g2,e2,r4⟩:=own_at h.ur _ _ q4
 rw[h.ub] at e1 e2
 have e3:g=x.U:=by simpa using e1.symm
 have e4:g2=x.U:=by simpa using e2.symm
 subst e3 e4
 have e:∃n,x.vU= .slice (some ⟨x.U,0,none⟩) s.us.length n:=by
  rcases h.ur.2 with ⟨e,_⟩ | ⟨g',cap,cur,e,_⟩
  ·have:=h.ub;rw[e] at this;simp[Value.ownBlock] at this
  ·have q:=h.ub
   rw[e] at q
   have e4:g'=x.U:=by simpa [Value.ownBlock] using q
   exact ⟨cap,by rw[e,e4]⟩
 obtain ⟨n,e⟩:=e
 exact ⟨u,c,k,n,hu,hc,hk,e,r3,r4,h.cr _ _ _ hu hc,h.kr _ _ _ hu hk⟩
theorem icl_app (l:List In) (i:In):icl (l++[i])=icl l++ic1 i:=by simp[icl]
def Sam (x y:Gx):Prop:=y.S=x.S∧y.U=x.U∧y.m=x.m∧y.vL=x.vL∧y.vB=x.vB
theorem GK.appK2 {No:Nat→Prop} {b:Nat} {t:Tx} {x:Gx} {s:Gs} {w w1 w3:World} {u:Gu} {v:Value} {i:In} {c g' cc:Nat} (h:GK No b t x s w) (hu:s.us[s.cu]?=some u) (hv:x.vk[s.cu]?=some v) (hU:x.vU= .slice (some ⟨x.U,0,none⟩) s.us.length c)
 (hb:Below w.heap.size w w1) (hown:w3.ownsRow 0 48 4 (.slice (some ⟨g',0,none⟩) (u.cd.length+1) cc) (u.cd.length+1) (icl u.cd++ic1 i)) (hg3:w1.grownBy w3 v.ownBlock) (hat:v.ownBlock=some g'∨g'=w1.heap.size):
 (∃y,GK No b t y (s.put (u.cd++[i])) (w3.setCell ⟨x.U,s.cu * 5+4,none⟩ (.slice (some ⟨g',0,none⟩) (u.cd.length+1) cc))∧Sam x y)∧Kn No w (w3.setCell ⟨x.U,s.cu * 5+4,none⟩ (.slice (some ⟨g',0,none⟩) (u.cd.length+1) cc)):=by
 have s1:=hb.size
 have s3:=hg3.size
 have h1:=h.at (fun g hg=>h.lk s.cu v g hv hg) (g':=g') (hat.imp id fun e=>by omega)
 generalize hlab:(fun g=>if g=g' then 8+s.cu else x.lab g)=lab' at h1
 have hl':lab' g'=8+s.cu:=by rw[←hlab];exact if_pos rfl
 have hl2:lab' x.U=3:=h1.lU
 have hgg:g'≠x.U:=fun e=>by rw[e] at hl';omega
 have hlv:∀g,v.ownBlock=some g→lab' g=8+s.cu:=fun g hg=>h1.lk s.cu v g hv hg
 have k0:Tg {x with lab:=lab'} (fun l=>l=8+s.cu) w w3:=((Tg.refl _ _ w).below hb).trans (Tg.app hg3 hlv rfl)
 have k:Tg {x with lab:=lab'} (fun l=>l=3∨l=8+s.cu) w (w3.setCell ⟨x.U,s.cu * 5+4,none⟩ (.slice (some ⟨g',0,none⟩) (u.cd.length+1) cc)):=(k0.mono fun _ e=>.inr e).set (.inl hl2) _
 have hs:s.put (u.cd++[i])={s with us:=s.us.set s.cu {u with cd:=u.cd++[i]}}:=by unfold Gs.put;rw[hu];rfl
 rw[hs]
 refine ⟨⟨{x with vk:=x.vk.set s.cu (.slice (some ⟨g',0,none⟩) (u.cd.length+1) cc),lab:=lab'},⟨h1.sx' k (by omega),h1.mx' k (by omega),?_,h1.lr' k (by omega),h1.br' k (by omega),h1.mp' k (by omega),fun i u' v' hu' hv'=>?_,fun i u' v' hu' hv'=>?_,by simpa using h.cl,by simpa using h.kl,h1.ub,h1.lS,h1.lb,h1.lU,h1.lm,h1.lL,h1.lB,h1.lc,fun i v' g2 hv' hg2=>?_,h1.no' k.size,by simpa using h.cu,h.gh⟩,rfl,rfl,rfl,rfl,rfl⟩,⟨hg3.os.trans hb.os,hg3.tape.trans hb.tape,hg3.output.trans hb.output,k.size,fun g hg hn=>k.block g hg (by rw[(h1.no g hn).2];omega)⟩⟩
 ·have q:=h1.ur' k0 (by omega)
  simp only at q
  rw[hU] at q
  have q2:=(q.stored (s.cu * 5+4) (.slice (some ⟨g',0,none⟩) (u.cd.length+1) cc)).1
  rw[ucl_cd s.us x.vc x.vk s.cu u (u.cd++[i]) _ hu h.cl h.kl] at q2
  simp only
  rw[List.length_set,hU]
  exact q2
 ·by_cases e:i=s.cu
  ·subst e
   simp only[List.getElem?_set_self h.cu,Option.some.injEq] at hu'
   subst hu'
   have q:=h1.cr' k (by omega) hu hv'
   exact q
  ·simp only at hu'
   rw[List.getElem?_set_ne (fun q=>e q.symm)] at hu'
   exact h1.cr' k (by omega) hu' hv'
 ·by_cases e:i=s.cu
  ·subst e
   simp only[List.getElem?_set_self h.cu,Option.some.injEq] at hu'
   simp only[List.getElem?_set_self (show s.cu<x.vk.length by rw[h.kl];exact h.cu),Option.some.injEq] at hv'
   subst hu' hv'
   simp only[List.length_append,List.length_singleton,icl_app]
   exact own_keep hown fun g2 hg2=>Below.heap_setCell w3 _ _ g2 (by have e2:g'=g2:=by simpa [Value.ownBlock] using hg2
                                                                    show g2≠x.U
                                                                    omega)
  ·simp only at hu' hv'
   rw[List.getElem?_set_ne (fun q=>e q.symm)] at hu' hv'
   exact h1.kr' k (by omega) hu' hv'
 ·by_cases e:i=s.cu
  ·subst e
   simp only[List.getElem?_set_self (show s.cu<x.vk.length by rw[h.kl];exact h.cu),Option.some.injEq] at hv'
   subst hv'
   have e2:g'=g2:=by simpa [Value.ownBlock] using hg2
   rw[←e2];exact hl'
  ·simp only at hv'
   rw[List.getElem?_set_ne (fun q=>e q.symm)] at hv'
   exact h1.lk i v' g2 hv' hg2
end Go.Proofs.YtkjbgggghigapaaGreat


namespace Go.Proofs.YtkjbgggghigapaaGreat
open Go.RowKit
theorem info54:(Tryz.prog.info? 79).map (fun i=>(i.zero,i.size,i.bytes))=some (some (.agg #[.int .i64 0,.int .i64 0,.string ⟨#[]⟩]),3,32):=by kernel_rfl
theorem CK.appC {No:Nat→Prop} {b:Nat} {x:Cx} {s:Cs} {w w3:World} {f:Fn} {v:Value} {t:Vl} {g c g' cc:Nat} {o:Obj} (h:CK No b x s w) (hf:s.fs[s.nu]?=some f) (hv:x.vs[s.nu]?=some v) (hF:x.vF= .slice (some ⟨g,0,none⟩) s.fs.length c) (_hl:x.lab g=2)
 (hown:w3.ownsRow 0 79 3 (.slice (some ⟨g',0,none⟩) (f.cs.length+1) cc) (f.cs.length+1) (vcl f.cs++[.int .i64 t.1,.int .i64 t.2.1,.string ⟨t.2.2.toArray⟩])) (hg3:(w.alloc o).grownBy w3 v.ownBlock) (hat:v.ownBlock=some g'∨g'=(w.alloc o).heap.size):
 Ck No b {s with fs:=s.fs.set s.nu {f with cs:=f.cs++[t]}} (w3.setCell ⟨g,s.nu * 5+4,none⟩ (.slice (some ⟨g',0,none⟩) (f.cs.length+1) cc))∧Kn No w (w3.setCell ⟨g,s.nu * 5+4,none⟩ (.slice (some ⟨g',0,none⟩) (f.cs.length+1) cc)):=by
 have s3:=hg3.size
 have z1:(w.alloc o).heap.size=w.heap.size+1:=by simp
 have hgF:x.vF.ownBlock=some g:=by rw[hF];rfl
 have h1:=h.at (fun g hg=>h.lc s.nu v g hv hg) (g':=g') (hat.imp id fun e=>by omega)
 generalize hlab:(fun g=>if g=g' then 6+s.nu else x.lab g)=lab' at h1
 have hl':lab' g'=6+s.nu:=by rw[←hlab];exact if_pos rfl
 have hl2:lab' g=2:=h1.lF g hgF
 have hgg:g'≠g:=fun e=>by rw[e] at hl';omega
 have hlv:∀g,v.ownBlock=some g→lab' g=6+s.nu:=fun g hg=>h1.lc s.nu v g hv hg
 have k0:Tr {x with lab:=lab'} (fun l=>l=6+s.nu) w w3:=((Tr.refl _ _ w).alloc o).trans (Tr.app hg3 hlv rfl)
 have k:Tr {x with lab:=lab'} (fun l=>l=2∨l=6+s.nu) w (w3.setCell ⟨g,s.nu * 5+4,none⟩ (.slice (some ⟨g',0,none⟩) (f.cs.length+1) cc)):=(k0.mono fun _ e=>.inr e).set (.inl hl2) _
 refine ⟨⟨{x with vs:=x.vs.set s.nu (.slice (some ⟨g',0,none⟩) (f.cs.length+1) cc),lab:=lab'},h1.bx' k (by omega),?_,h1.gr' k (by omega),h1.lr' k (by omega),h1.ar' k (by omega),h1.mp' k (by omega),fun i f' v' hf' hv'=>?_,by simpa using h.vl,h1.lb,h1.lF,h1.lG,h1.lL,h.lA,h1.lm,fun i v' g2 hv' hg2=>?_,h1.no' k.size,by simpa using h.nu⟩,⟨hg3.os,hg3.tape,hg3.output,k.size,fun g hg hn=>k.block g hg (by rw[(h1.no g hn).2];omega)⟩⟩
 ·have q:=h1.fr' k0 (by omega)
  simp only at q
  rw[hF] at q
  have q2:=(q.stored (s.nu * 5+4) (.slice (some ⟨g',0,none⟩) (f.cs.length+1) cc)).1
  rw[fcl_cs s.fs x.vs s.nu f (f.cs++[t]) _ hf h.vl] at q2
  simp only
  rw[List.length_set,hF]
  exact q2
 ·by_cases e:i=s.nu
  ·subst e
   simp only[List.getElem?_set_self h.nu,Option.some.injEq] at hf'
   simp only[List.getElem?_set_self (show s.nu<x.vs.length by rw[h.vl];exact h.nu),Option.some.injEq] at hv'
   subst hf' hv'
   have e1:vcl (f.cs++[t])=vcl f.cs++[.int .i64 t.1,.int .i64 t.2.1,.string ⟨t.2.2.toArray⟩]:=by simp[vcl]
   simp only[List.length_append,List.length_singleton,e1]
   exact own_set hown (fun g2 hg2=>by have e2:g'=g2:=by simpa [Value.ownBlock] using hg2
                                      omega) _
  ·simp only at hf' hv'
   rw[List.getElem?_set_ne (fun q=>e q.symm)] at hf' hv'
   exact h1.cs' k (by omega) hf' hv'
 ·by_cases e:i=s.nu
  ·subst e
   simp only[List.getElem?_set_self (show s.nu<x.vs.length by rw[h.vl];exact h.nu),Option.some.injEq] at hv'
   subst hv'
   have e2:g'=g2:=by simpa [Value.ownBlock] using hg2
   rw[←e2];exact hl'
  ·simp only at hv'
   rw[List.getElem?_set_ne (fun q=>e q.symm)] at hv'
   exact h1.lc i v' g2 hv' hg2
theorem csS_le:∀(l:List Fn) (i:Nat) (f:Fn),l[i]?=some f→f.cs.length≤csS l
 | [],i,f,h=>by simp at h
 | x::l,0,f,h=>by simp at h;subst h;simp[csS]
 | x::l,i+1,f,h=>by have:=csS_le l i f (by simpa using h);simp[csS] at this⊢;omega
set_option maxRecDepth 20000 in
set_option maxHeartbeats 8000000 in
theorem constant_any (No:Nat→Prop) (b:Nat) (s:Cs) (W:World) (k:Int) (t:Tx) (n p:Int) (v:Value) (u:Vl) (h:Ck No b s W) (hL:s.wt≤1000000):
 Calls Tryz.prog 34 #[.pointer (some ⟨b,0,none⟩),(.agg #[.int .i64 (k),.string ⟨(t).toArray⟩,.int .i64 (n),.int .i64 (p),v]),.agg #[.int .i64 u.1,.int .i64 u.2.1,.string ⟨u.2.2.toArray⟩]] W (CP No b W (con u p s)):=by
 obtain ⟨i0,hi0,hz0,hz1,hz2⟩:=info_parts info54
 have B:=(h.cy #[.int .i64 k,.string ⟨t.toArray⟩,.int .i64 n,.int .i64 p,v]).alloc (.cells #[.int .i64 u.1,.int .i64 u.2.1,.string ⟨u.2.2.toArray⟩] 79)
 have Y0:=Bx.new (W.alloc (.cells #[.int .i64 (k),.string ⟨(t).toArray⟩,.int .i64 (n),.int .i64 (p),v] 54)) 79 #[.int .i64 u.1,.int .i64 u.2.1,.string ⟨u.2.2.toArray⟩]
 obtain ⟨X,hX⟩:∃X,W.heap.size=X:=⟨_,rfl⟩
 have hY:(W.alloc (.cells #[.int .i64 (k),.string ⟨(t).toArray⟩,.int .i64 (n),.int .i64 (p),v] 54)).heap.size=X+1:=by rw[←hX];simp
 rw[hY] at Y0
 obtain ⟨W1,hW1⟩:∃W1,(W.alloc (.cells #[.int .i64 (k),.string ⟨(t).toArray⟩,.int .i64 (n),.int .i64 (p),v] 54)).alloc (.cells #[.int .i64 u.1,.int .i64 u.2.1,.string ⟨u.2.2.toArray⟩] 79)=W1:=⟨_,rfl⟩
 rw[hX,hW1] at B
 rw[hW1] at Y0
 clear h hY
 obtain ⟨x,hx⟩:=B.ck
 obtain ⟨f,vc,g,cF,hf,hv,eF,lF,gF,d3,d4,dz,hrow⟩:=hx.fnAt
 have hlen:f.cs.length≤1000000:=by have:=csS_le s.fs s.nu f hf;unfold Cs.wt at hL;omega
 have b0:W1.cell? ⟨b,0,none⟩=some x.vF:=hx.bx.c 0 _ rfl
 have b3:W1.cell? ⟨b,3,none⟩=some (.int .i64 (s.nu:Nat)):=hx.bx.c 3 _ rfl
 have hnu:=hx.nu
 rw[eF] at b0
 have y0:=Y0.c 0 _ rfl
 have y1:=Y0.c 1 _ rfl
 have y2:=Y0.c 2 _ rfl
 have C:=fun V=>containsV_any f.cs u vc V
 have hcon:con u p s=conF f u p s:=by unfold con;rw[hf];rfl
 rw[hcon]
 have HB:Hid (Cy No b s W X #[.int .i64 k,.string ⟨t.toArray⟩,.int .i64 n,.int .i64 p,v] W1∧Bx (X+1) 79 #[.int .i64 u.1,.int .i64 u.2.1,.string ⟨u.2.2.toArray⟩] W1):=⟨B,Y0⟩
 have HX:Hid (CK (fun g=>No g∨g=X) b x s W1):=hx
 have dz4:=dz (s.nu * 5+4)
 unfold conF
 by_cases hc:f.cs.contains u=true
 ·rw[if_pos hc]
  rw[hc] at C
  clear B Y0 hx hf hv eF lF dz hcon hc d3
  go_enter Tryz.func34,Tryz.ntmps34
  go_wp2_with fail
  go_region
  go_wp2_with fail
  go_region_with (refine (C _ (by exact hrow) (by omega)).mono ?_;rintro e w2 ⟨rfl,k2⟩;have D2:Cy No b s W X #[.int .i64 k,.string ⟨t.toArray⟩,.int .i64 n,.int .i64 p,v] w2:=(by first | exact HB.out.1.drew.drew.below k2 | exact HB.out.1.drew.below k2 | exact HB.out.1.below k2))
  all_goals
   go_wp2
   go_end0
   exact D2.out
 ·rw[if_neg hc]
  rw[Bool.eq_false_iff.2 hc] at C
  have HC:Hid (∀w2,Below W1.heap.size W1 w2→Cy No b s W X #[.int .i64 k,.string ⟨t.toArray⟩,.int .i64 n,.int .i64 p,v] w2∧Bx (X+1) 79 #[.int .i64 u.1,.int .i64 u.2.1,.string ⟨u.2.2.toArray⟩] w2∧CK (fun g=>No g∨g=X) b x s w2∧w2.cell? ⟨g,s.nu * 5+4,none⟩=some vc∧w2.frozen? ⟨g,s.nu * 5+4,none⟩=false∧w2.ownsRow 0 79 3 vc f.cs.length (vcl f.cs)∧(∀o,(w2.alloc o).cell? ⟨g,s.nu * 5+4,none⟩=some vc)∧
   (∀o w3,(w2.drew.alloc o).grownBy w3 vc.ownBlock→w3.cell? ⟨g,s.nu * 5+4,none⟩=some vc∧w3.frozen? ⟨g,s.nu * 5+4,none⟩=false)):=fun w2 hk=>by
   have hx2:=hx.below hk
   have hc2:=(hk.cell (p:=⟨g,s.nu * 5+4,none⟩) (by exact gF)).trans d4
   have hb2:w2.heap[g]?=W1.heap[g]?:=hk.block g gF
   have gF2:g<w2.heap.size:=Nat.lt_of_lt_of_le gF hk.size
   refine ⟨B.below hk,Y0.below hk,hx2,hc2,(World.frozen?_of_block (a:=⟨g,s.nu * 5+4,none⟩) hb2).trans dz4,hx2.cs _ _ _ hf hv,fun o=>(((Below.refl _ w2).alloc (Nat.le_refl _) o).cell (p:=⟨g,s.nu * 5+4,none⟩) (by exact gF2)).trans hc2,fun o w3 hg3=>?_⟩
   have hb3:w3.heap[g]?=w2.heap[g]?:=(hg3.block g (Nat.lt_of_lt_of_le gF2 (by simp)) (fun e=>by have:=hx.lc _ _ _ hv e.symm;omega)).trans ((World.grownBy_alloc w2.drew o none).block g gF2 (by simp))
   exact ⟨(World.cell?_of_block (a:=⟨g,s.nu * 5+4,none⟩) hb3).trans hc2,(World.frozen?_of_block (a:=⟨g,s.nu * 5+4,none⟩) hb3).trans ((World.frozen?_of_block (a:=⟨g,s.nu * 5+4,none⟩) hb2).trans dz4)⟩
  have HQ:Hid (s.fs[s.nu]?=some f∧x.vs[s.nu]?=some vc∧x.vF= .slice (some ⟨g,0,none⟩) s.fs.length cF∧x.lab g=2):=⟨hf,hv,eF,lF⟩
  clear B Y0 hx hf hv eF lF dz hcon hc d3 HB HX
  go_enter Tryz.func34,Tryz.ntmps34
  go_wp2_with fail
  go_region
  go_wp2_with fail
  go_cut [23] (fun bv wx=>bv= .bool false∧Below W1.heap.size W1 wx)
  case first=>
   go_region_with (refine (C _ (by exact hrow) (by omega)).mono ?_;rintro e w2 ⟨rfl,k2⟩;have k3:Below W1.heap.size W1 w2:=(by exact ⟨k2.os,k2.tape,k2.output,k2.size,k2.block⟩))
   all_goals
    go_wp2_with fail
    go_meet
    exact ⟨rfl,k3⟩
  case rest=>
   obtain ⟨rfl,hk⟩:=hcut
   obtain ⟨D,Y1,hx1,m4,mz4,mrow,m4A,HM0⟩:=HC.out wc hk
   have y0:=Y1.c 0 _ rfl
   have y1:=Y1.c 1 _ rfl
   have y2:=Y1.c 2 _ rfl
   have HM:Hid (∀o w3,(wc.drew.alloc o).grownBy w3 vc.ownBlock→w3.cell? ⟨g,s.nu * 5+4,none⟩=some vc∧w3.frozen? ⟨g,s.nu * 5+4,none⟩=false):=HM0
   have HD:Hid (Cy No b s W X #[.int .i64 k,.string ⟨t.toArray⟩,.int .i64 n,.int .i64 p,v] wc∧CK (fun g=>No g∨g=X) b x s wc):=⟨D,hx1⟩
   clear HC C D Y1 hx1 HM0 hk b0 b3 d4 gF hrow dz4
   go_wp2_with fail
   go_cut [] (fun wx=>∃gg cc,Cy No b {s with fs:=s.fs.set s.nu {f with cs:=f.cs++[u]}} W X #[.int .i64 k,.string ⟨t.toArray⟩,.int .i64 n,.int .i64 p,v] wx∧wx.cell? ⟨g,s.nu * 5+4,none⟩=some (.slice (some ⟨gg,0,none⟩) (f.cs.length+1) cc))
   case first=>
    go_region_law (refine step_append_lies _ (by rfl) _ _ 38 (by rfl) 0 79 i0 _ 3 32 Tryz.underlying38 hi0 hz0 hz1 hz2 rfl (by omega) vc f.cs.length (vcl f.cs) (by rfl) (mrow.alloc _) ⟨wc.drew.heap.size,0,none⟩ 1 1 [.int .i64 u.1,.int .i64 u.2.1,.string ⟨u.2.2.toArray⟩] (by rfl) rfl (World.news_of_block (cs:=#[.int .i64 u.1,.int .i64 u.2.1,.string ⟨u.2.2.toArray⟩]) (t:=79) (fr:=(0,0)) (Bx.new wc.drew 79 #[.int .i64 u.1,.int .i64 u.2.1,.string ⟨u.2.2.toArray⟩]).blk) (by simp[Value.oneCell']) (by omega) (by unfold maxLen;omega) (by omega) (by omega) _ rfl ?_;intro gg cc w3 hown3 hg3 hat3 hlt3;obtain ⟨fc4,fz4⟩:=HM.out _ w3 hg3)
    all_goals
     have hA:=HD.out.2.drew.appC (t:=u) (o:=.cells #[.int .i64 u.1,.int .i64 u.2.1,.string ⟨u.2.2.toArray⟩] 79) HQ.out.1 HQ.out.2.1 HQ.out.2.2.1 HQ.out.2.2.2 hown3 hg3 hat3
     have D3:=HD.out.1.drew.step (e:=.returned (.tuple #[])) ⟨rfl,hA.1,hA.2⟩
     have fc5:=World.cell?_setCell_same w3 ⟨g,s.nu * 5+4,none⟩ (.slice (some ⟨gg,0,none⟩) (f.cs.length+1) cc) fc4
     have HZ:Hid _:=And.intro D3 fc5
     clear hA D3 fc5 hown3 hg3 hat3 hlt3 fc4 fz4
     go_wp2_with fail
     go_meet
     exact ⟨gg,cc,HZ.out⟩
   case rest=>
    obtain ⟨gg,cc,D,m5⟩:=hcut
    have CL:=limit_any D.drew.ck k t n p v ((f.cs.length:Int)+1) 250
    obtain ⟨p0,p1,p2,p3,p4⟩:=D.bx.five
    have HD5:Hid _:=D.drew
    clear D HD HM HQ mrow m4 mz4 m4A y0 y1 y2
    go_wp2_with fail
    go_region_with (refine CL.mono ?_;rintro e w2 hq;have D6:=(HD5.out.step hq).out;obtain ⟨rfl,-⟩:=hq)
    all_goals
     go_wp2
     go_end0
     exact D6
end Go.Proofs.YtkjbgggghigapaaGreat


namespace Go.Proofs.YtkjbgggghigapaaGreat
open Go.RowKit
theorem Gs.code_eq {s:Gs} {u:Gu} (h:s.us[s.cu]?=some u):s.code=u.cd:=by unfold Gs.code;rw[h];rfl
theorem Gs.code_put {s:Gs} {u:Gu} (h:s.us[s.cu]?=some u) (c:List In):(s.put c).code=c:=by
 have hl:=(List.getElem?_eq_some_iff.1 h).1
 unfold Gs.put Gs.code;rw[h];simp[hl]
theorem row_form {w:World} {e:TypeId} {z:Nat} {v:Value} {n:Nat} {xs:List Value} (h:w.ownsRow 0 e z v n xs):∃a c,v= .slice a n c:=by
 rcases h.2 with ⟨e,hn⟩ | ⟨g,cap,cur,e,_⟩
 ·exact ⟨none,0,by rw[e,hn]⟩
 ·exact ⟨_,_,e⟩
section
variable {No:Nat→Prop} {b:Nat} {t:Tx} {x:Gx} {s:Gs} {w:World}
set_option maxRecDepth 20000 in
set_option maxHeartbeats 2000000 in
theorem next_any (h:GK No b t x s w):Calls Tryz.prog 48 #[.pointer (some ⟨b,0,none⟩)] w fun e w'=>e= .returned (.int .i64 s.nx)∧w'=w:=by
 obtain ⟨u,c,k,n,hu,hc,hk,hU,d3,d4,hcr,hkr⟩:=h.here
 obtain ⟨a,cp,rfl⟩:=row_form hkr
 have c1:w.cell? ⟨b,1,none⟩=some (.pointer (some ⟨x.U,s.cu * 5,none⟩)):=h.mx.c 1 _ rfl
 have hn:s.nx=(u.cd.length:Int):=by unfold Gs.nx;rw[Gs.code_eq hu]
 rw[hn]
 clear h hcr hkr hU d3 hn hu hc hk
 go_enter Tryz.func48,Tryz.ntmps48
 go_wp2
 go_ret
 exact ⟨rfl,rfl⟩
end
def Opd (w:World) (v:Value) (l:List Int):Prop:=∃sp sc,v= .slice sp l.length sc∧(0<l.length→∃g o,sp=some ⟨g,o,none⟩∧g<w.heap.size∧∀j i,l[j]?=some i→w.cell? ⟨g,o+j,none⟩=some (.int .i64 i))
theorem g_opd_nil (w:World):Opd w (.slice none 0 0) []:=⟨none,0,rfl,fun h=>absurd h (by simp)⟩
def opn3 (l:List Int) (j:Nat):Int:=(l[j]?).getD 0
theorem splice3 (l:List Int) (h:l.length≤3):splice [Value.int .i64 0,.int .i64 0,.int .i64 0] 0 (nts l)=[.int .i64 (opn3 l 0),.int .i64 (opn3 l 1),.int .i64 (opn3 l 2)]:=by
 match l,h with
 | [],_=>rfl
 | [_],_=>rfl
 | [_,_],_=>rfl
 | [_,_,_],_=>rfl
 | _::_::_::_::_,h=>simp at h
theorem g_info48:(Tryz.prog.info? 48).map (fun i=>(i.zero,i.size,i.bytes))=some (some (.agg #[.int .i64 0,.int .i64 0,.int .i64 0,.int .i64 0]),4,32):=by kernel_rfl
theorem Opd.form {w:World} {v:Value} {l:List Int} (h:Opd w v l):∃sp sc,v= .slice sp l.length sc:=by obtain ⟨sp,sc,e,_⟩:=h;exact ⟨sp,sc,e⟩
theorem wpList_copy3 {W:World} {X:Nat} {l:List Int} {sp:Option Addr} {sc:Nat} (hX:W.heap.size=X) (h3:l.length≤3) (hv:Opd W (.slice sp l.length sc) l) {ops:Array Oper} {rest:List Oper} {o:Oper} {a:Act} {Q:Exit→Act→World→Prop} (hgd:o.guard=none) (d s:Operand)
 (ho:o.op= .call {callee:=.builtin .copy,args:=#[d,s],argTypes:=#[82,82]}) (hd:a.eval d= .slice (some ⟨X,0,none⟩) 3 3) (hs:a.eval s= .slice sp l.length sc)
 (h:∀w',Hid (Bx X 121 #[.int .i64 (opn3 l 0),.int .i64 (opn3 l 1),.int .i64 (opn3 l 2)] w'∧Below X W w')→wpList Tryz.prog ops Q rest (a.put o.dst (goInt l.length)) w'):
 wpList Tryz.prog ops Q (o::rest) a (W.alloc (.cells #[.int .i64 0,.int .i64 0,.int .i64 0] 121)):=by
 obtain ⟨sp',sc',e,hsp⟩:=hv
 injection e with e1 _ e3
 subst e1 e3
 have N0:=Bx.new W 121 #[.int .i64 0,.int .i64 0,.int .i64 0]
 have hb:=b1 W (.cells #[.int .i64 0,.int .i64 0,.int .i64 0] 121)
 rw[hX] at N0 hb
 have hn:(nts l).length=l.length:=by simp[nts]
 refine wpList_copy_splice hgd d s 82 82 ho 3 Tryz.underlying82 (by kernel_rfl) _ _ 3 3 l.length sc hd hs X 0 [.int .i64 0,.int .i64 0,.int .i64 0] 121 N0.blk (nts l) (by rw[hn];exact (Nat.min_eq_left h3).symm) (fun hp=>⟨rfl,?_⟩) (by rw[hn];exact (by simpa using h3)) (by simp[nts,Value.oneCell']) X W hb (Nat.le_refl _) ?_
 ·obtain ⟨g,p,e,hlt,hq⟩:=hsp (by rw[←hn];exact hp)
  refine ⟨⟨g,p,none⟩,e,fun j v hj=>?_⟩
  obtain ⟨i,hi,rfl⟩:∃i,l[j]?=some i∧.int .i64 i=v:=by simpa [nts] using hj
  have e2:(⟨g,p,none⟩:Addr).add j=⟨g,p+j,none⟩:=by unfold Addr.add;split<;>simp_all
  rw[e2]
  exact ((b1 W _).cell (p:=⟨g,p+j,none⟩) (by exact hlt)).trans (hq j i hi)
 ·intro w' h1 h2
  have q:w'.heap[X]?=_:=h1.out
  rw[splice3 l h3] at q
  rw[hn]
  exact h w' ⟨⟨q⟩,h2⟩
theorem icl_set1 (v:Int):∀(l:List In) (j:Nat),(icl l).set (j * 4+1) (.int .i64 v)=icl (l.modify j (insA v))
 | [],j=>by simp[icl]
 | i::l,0=>by simp[icl,ic1,insA,List.modify]
 | i::l,j+1=>by
   have:=icl_set1 v l j
   rw[show (j+1) * 4+1=j * 4+1+4 by omega]
   simp only[icl,List.flatMap_cons,ic1,List.cons_append,List.nil_append,List.set_cons_succ,List.modify_succ_cons] at this⊢
   rw[this]
theorem icl_set2 (v:Int):∀(l:List In) (j:Nat),(icl l).set (j * 4+2) (.int .i64 v)=icl (l.modify j (insB v))
 | [],j=>by simp[icl]
 | i::l,0=>by simp[icl,ic1,insB,List.modify]
 | i::l,j+1=>by
   have:=icl_set2 v l j
   rw[show (j+1) * 4+2=j * 4+2+4 by omega]
   simp only[icl,List.flatMap_cons,ic1,List.cons_append,List.nil_append,List.set_cons_succ,List.modify_succ_cons] at this⊢
   rw[this]
theorem icl_at:∀(l:List In) (j:Nat),j<l.length→∃i:In,(icl l)[j * 4+1]?=some (.int .i64 i.2.1)∧(icl l)[j * 4+2]?=some (.int .i64 i.2.2.1)
 | [],j,h=>by simp at h
 | i::l,0,_=>⟨i,rfl,rfl⟩
 | i::l,j+1,h=>by
   obtain ⟨i',h1,h2⟩:=icl_at l j (by simpa using h)
   refine ⟨i',?_,?_⟩
   ·rw[show (j+1) * 4+1=j * 4+1+4 by omega];simpa only[icl,List.flatMap_cons,ic1,List.cons_append,List.nil_append,List.getElem?_cons_succ] using h1
   ·rw[show (j+1) * 4+2=j * 4+2+4 by omega];simpa only[icl,List.flatMap_cons,ic1,List.cons_append,List.nil_append,List.getElem?_cons_succ] using h2
theorem GK.stK {No:Nat→Prop} {b:Nat} {t:Tx} {x:Gx} {s:Gs} {w:World} {u:Gu} {g cp:Nat} (h:GK No b t x s w) (hu:s.us[s.cu]?=some u) (hv:x.vk[s.cu]?=some (.slice (some ⟨g,0,none⟩) u.cd.length cp)) {o:Nat} {z:Value} {c':List In} (hs:(icl u.cd).set o z=icl c') (hl:c'.length=u.cd.length):
 GK No b t x (s.put c') (w.setCell ⟨g,o,none⟩ z)∧Kn No w (w.setCell ⟨g,o,none⟩ z):=by
 have hlg:x.lab g=8+s.cu:=h.lk s.cu _ g hv rfl
 have k:Tg x (fun l=>l=8+s.cu) w (w.setCell ⟨g,o,none⟩ z):=(Tg.refl _ _ w).set hlg _
 have hp:s.put c'={s with us:=s.us.set s.cu {u with cd:=c'}}:=by unfold Gs.put;rw[hu];rfl
 have hU:ucl (s.us.set s.cu {u with cd:=c'}) x.vc x.vk=ucl s.us x.vc x.vk:=by
  have q:=ucl_cd s.us x.vc x.vk s.cu u c' (.slice (some ⟨g,0,none⟩) u.cd.length cp) hu h.cl h.kl
  have e:x.vk.set s.cu (.slice (some ⟨g,0,none⟩) u.cd.length cp)=x.vk:=by
   apply List.ext_getElem?
   intro i
   by_cases e:s.cu=i
   ·subst e;rw[List.getElem?_set_self (List.getElem?_eq_some_iff.1 hv).1,hv]
   ·rw[List.getElem?_set_ne e]
  rw[e] at q
  rw[←q]
  obtain ⟨c,hc⟩:∃c,x.vc[s.cu]?=some c:=⟨_,List.getElem?_eq_getElem (by rw[h.cl];exact h.cu)⟩
  apply List.ext_getElem?
  intro i
  by_cases e:s.cu * 5+4=i
  ·subst e
   have q4:=(ucl_at s.us x.vc x.vk s.cu u c _ hu hc hv).2.2.2.2
   rw[List.getElem?_set_self (List.getElem?_eq_some_iff.1 q4).1,q4]
  ·rw[List.getElem?_set_ne e]
 rw[hp]
 refine ⟨⟨h.sx' k (by omega),h.mx' k (by omega),?_,h.lr' k (by omega),h.br' k (by omega),h.mp' k (by omega),fun i u' v' hu' hv'=>?_,fun i u' v' hu' hv'=>?_,by simpa using h.cl,by simpa using h.kl,h.ub,h.lS,h.lb,h.lU,h.lm,h.lL,h.lB,h.lc,h.lk,h.no' k.size,by simpa using h.cu,h.gh⟩,⟨rfl,rfl,rfl,k.size,fun g hg hn=>k.block g hg (by rw[(h.no g hn).2];omega)⟩⟩
 ·simp only
  rw[List.length_set,hU]
  exact h.ur' k (by omega)
 ·by_cases e:i=s.cu
  ·subst e
   simp only[List.getElem?_set_self h.cu,Option.some.injEq] at hu'
   subst hu'
   have q:=h.cr' k (by omega) hu hv'
   exact q
  ·simp only at hu'
   rw[List.getElem?_set_ne (fun q=>e q.symm)] at hu'
   exact h.cr' k (by omega) hu' hv'
 ·by_cases e:i=s.cu
  ·subst e
   simp only[List.getElem?_set_self h.cu,Option.some.injEq] at hu'
   rw[hv] at hv'
   injection hv' with hv'
   subst hu' hv'
   have q:=((h.kr _ _ _ hu hv).stored o z).1
   simp only
   rw[hl,←hs]
   exact q
  ·simp only at hu'
   rw[List.getElem?_set_ne (fun q=>e q.symm)] at hu'
   exact h.kr' k (by omega) hu' hv'
theorem GK.kAt {No:Nat→Prop} {b:Nat} {t:Tx} {x:Gx} {s:Gs} {w:World} {u:Gu} {k:Value} (h:GK No b t x s w) (hu:s.us[s.cu]?=some u) (hk:x.vk[s.cu]?=some k) (hn:u.cd.length≠0):∃g cp,k= .slice (some ⟨g,0,none⟩) u.cd.length cp∧g<w.heap.size∧u.cd.length≤cp:=by
 rcases (h.kr _ _ _ hu hk).2 with ⟨_,e⟩ | ⟨g,cp,cur,e,_,hb,hc,_⟩
 ·exact absurd e hn
 ·exact ⟨g,cp,e,(Array.getElem?_eq_some_iff.1 hb).1,hc⟩
set_option maxRecDepth 20000 in
set_option maxHeartbeats 8000000 in
theorem leave_any (No:Nat→Prop) (b:Nat) (t:Tx) (s:Gs) (W:World) (j:Nat) (h:Gk No b t s W) (hj:j<s.code.length) (_hL:s.code.length≤100000000):
 Calls Tryz.prog 113 #[.pointer (some ⟨b,0,none⟩),.int .i64 (j:Nat)] W (GP No b t W (lea (j:Nat) s)):=by
 obtain ⟨x,h⟩:=h
 obtain ⟨u,c,k,n,hu,hc,hk,hU,d3,d4,hcr,hkr⟩:=h.here
 rw[Gs.code_eq hu] at hj
 obtain ⟨g,cp,rfl,hg,hcp⟩:=h.kAt hu hk (by omega)
 have c1:W.cell? ⟨b,1,none⟩=some (.pointer (some ⟨x.U,s.cu * 5,none⟩)):=h.mx.c 1 _ rfl
 have C:=next_any h.drew
 have hz:=hkr.frozenAt (j * 4+2)
 obtain ⟨i5,-,q5⟩:=icl_at u.cd j hj
 obtain ⟨g5,e5,z5⟩:=own_at hkr _ _ q5
 have e6:g=g5:=by simpa [Value.ownBlock] using e5
 subst e6
 have HE:Hid (GP No b t W (lea (j:Nat) s) (.returned (.tuple #[])) (W.drew.setCell ⟨g,j * 4+2,none⟩ (.int .i64 s.nx))):=by
  have q:=h.drew.stK hu hk (o:=j * 4+2) (icl_set2 s.nx u.cd j) (by simp)
  have e:lea (j:Nat) s=s.put (u.cd.modify j (insB s.nx)):=by unfold lea;rw[Gs.code_eq hu];rfl
  rw[e]
  exact ⟨rfl,⟨x,q.1⟩,⟨q.2.os,q.2.tape,q.2.output,q.2.size,q.2.block⟩⟩
 have hi:(j:Int)<(u.cd.length:Int):=by omega
 clear h hu hc hk hU d3 hcr hkr q5 e5
 go_enter Tryz.func113,Tryz.ntmps113
 go_wp2_with fail
 go_region_with (refine C.mono ?_;rintro e w2 ⟨rfl,rfl⟩)
 all_goals
  go_wp2
  go_end0
  exact HE.out
end Go.Proofs.YtkjbgggghigapaaGreat
