import Derived.Test.YtkjbgggghigapaaGreatCg09
import Derived.BigQuiet
namespace Go.Proofs.YtkjbgggghigapaaGreat
open Go.RowKit
theorem opd_row {w:World} {v:Value} {l:List Int} (h:w.ownsRow 0 3 1 v l.length (nts l)):Opd w v l:=by
 obtain ⟨a,c,rfl⟩:=row_form h
 refine ⟨a,c,rfl,fun hp=>?_⟩
 obtain ⟨g,c',e,h1,h2⟩:=h.form hp
 injection e with e
 subst e
 refine ⟨g,0,rfl,h2,fun j i hj=>?_⟩
 have hl:j<l.length:=(List.getElem?_eq_some_iff.1 hj).1
 rw[Nat.zero_add,h.cellAt j (by rw[Nat.mul_one];exact hl)]
 unfold nts
 rw[List.getElem?_map,hj]
 rfl
theorem Opd.keep {w w':World} {Y sc:Nat} {l:List Int} (h:Opd w (.slice (some ⟨Y,0,none⟩) l.length sc) l) (hs:w.heap.size≤w'.heap.size) (hb:Y<w.heap.size→w'.heap[Y]?=w.heap[Y]?):Opd w' (.slice (some ⟨Y,0,none⟩) l.length sc) l:=by
 obtain ⟨sp,sc',e,hq⟩:=h
 injection e with e1 _ e3
 subst e1 e3
 refine ⟨_,_,rfl,fun hp=>?_⟩
 obtain ⟨g,o,e,h2,h3⟩:=hq hp
 injection e with e
 injection e with e1 e2
 subst e1 e2
 exact ⟨_,_,rfl,Nat.lt_of_lt_of_le h2 hs,fun j i hj=>(World.cell?_of_block (a:=⟨Y,0+j,none⟩) (hb h2)).trans (h3 j i hj)⟩
def trnS (op:Int) (l:List Int) (s0 s2:Gs):Gs:={lnds (gad op (opn3 l 0) (opn3 l 1) (opn3 l 2) s2).br (gad op (opn3 l 0) (opn3 l 1) (opn3 l 2) s2) with br:=s0.br}
set_option maxRecDepth 20000 in
set_option maxHeartbeats 8000000 in
theorem turn_any {L:Tx} {N:Nat} {nd:Jg→Ndg} (CB:GN 32 L N (nd .blk)) (op:Int) (l:List Int) (Y sc:Nat) (No:Nat→Prop) (b:Nat) (tx:Tx) (s:Gs) (W:World) (k:Int) (t:Tx) (n p:Int) (a:Option Addr) (c:Nat) (ks:F) (hT:Hid (tx=L)) (h:Gk No b tx s W) (hr:Rv W No a ks) (hs:ks.siz<N) (hw:(one k t n p ks).wfG L=true) (hcc:ks.len≤c∧c≤maxLen) (hL:Okg L (ks.siz+1) (one k t n p ks).z31 {s with br:=[]})
 (hv:Opd W (.slice (some ⟨Y,0,none⟩) l.length sc) l) (hl3:l.length≤3) (hY:No Y) (s2:Gs) (hs2:nd .blk k t n p ks {s with br:=[]}=s2) (hc2:s2.code.length≤90000000) (hbl:s2.br.length≤100000000) (hbr:∀j∈s2.br,0≤j∧j<(s2.code.length:Int)) (hcu:s2.cu<s2.us.length):
 Calls Tryz.prog 111 #[.pointer (some ⟨b,0,none⟩),(.agg #[.int .i64 (k),.string ⟨(t).toArray⟩,.int .i64 (n),.int .i64 (p),.slice a ks.len c]),.int .i64 op,.slice (some ⟨Y,0,none⟩) l.length sc] W (GP No b tx W (trnS op l s s2)):=by
 have hYl:Y<W.heap.size:=by obtain ⟨x,hx⟩:=h;exact (hx.no Y hY).1
 have B:=h.gy #[.int .i64 k,.string ⟨t.toArray⟩,.int .i64 n,.int .i64 p,.slice a ks.len c]
 have hbX:b<W.heap.size:=by obtain ⟨x,hx⟩:=h;exact hx.lt
 obtain ⟨X,hX⟩:∃X,W.heap.size=X:=⟨_,rfl⟩
 obtain ⟨W1,hW1⟩:∃W1,W.alloc (.cells #[.int .i64 (k),.string ⟨(t).toArray⟩,.int .i64 (n),.int .i64 (p),.slice a ks.len c] 54)=W1:=⟨_,rfl⟩
 rw[hX,hW1] at B
 rw[hX] at hYl hbX
 obtain ⟨x,hx⟩:=B.gk
 obtain ⟨aB,cB,hvB⟩:=row_form hx.br
 have q3:W1.cell? ⟨b,3,none⟩=some (.slice aB s.br.length cB):=by
  have q:W1.cell? ⟨b,3,none⟩=some x.vB:=hx.mx.c 3 _ rfl
  rw[hvB] at q
  exact q
 have f3:=hx.mx.f 3
 have K0:=hx.brk0
 obtain ⟨W2,hW2⟩:∃W2,W1.setCell ⟨b,3,none⟩ (.slice none 0 0)=W2:=⟨_,rfl⟩
 rw[hW2] at K0
 have X2:Bx X 54 #[.int .i64 k,.string ⟨t.toArray⟩,.int .i64 n,.int .i64 p,.slice a ks.len c] W2:=by rw[←hW2];exact B.bx.set (by omega) _
 obtain ⟨x0,x1,x2,x3,x4⟩:=X2.five
 have R2:Rv W2 (fun g=>(No g∨g=X)∨x.vB.ownBlock=some g) a ks:=((B.rv hr).mono fun _ e=>.inl e).kn K0.2
 have C1:=CB (fun g=>(No g∨g=X)∨x.vB.ownBlock=some g) b tx {s with br:=[]} W2 k t n p a c ks hT ⟨_,K0.1⟩ R2 hs hw hcc hL
 rw[hs2] at C1
 have HH:Hid (GK (fun g=>No g∨g=X) b tx x s W1∧Kn No W W1∧Kn (fun g=>(No g∨g=X)∨x.vB.ownBlock=some g) W1 W2):=⟨hx,B.kn,K0.2⟩
 have HV:Hid (Opd W (.slice (some ⟨Y,0,none⟩) l.length sc) l):=hv
 have HVB:Hid (x.vB= .slice aB s.br.length cB):=hvB
 clear h hr B hx K0 X2 R2 hv hvB hL hw hcc hs2
 go_enter Tryz.func111,Tryz.ntmps111
 go_wp2_with fail
 refine C1.mono ?_
 rintro e w3 ⟨rfl,hq1,hq2⟩
 have HK3:Hid (Kn (fun g=>(No g∨g=X)∨x.vB.ownBlock=some g) W1 w3):=HH.out.2.2.trans hq2
 have O3:Opd w3 (.slice (some ⟨Y,0,none⟩) l.length sc) l:=HV.out.keep (Nat.le_trans HH.out.2.1.size HK3.out.size) fun hl=>(HK3.out.block Y (Nat.lt_of_lt_of_le hl HH.out.2.1.size) (.inl (.inl hY))).trans (HH.out.2.1.block Y hl hY)
 have C2:=addG_any (fun g=>(No g∨g=X)∨x.vB.ownBlock=some g) b tx s2 w3 op _ l hq1 O3 hl3 (by omega)
 clear C1 hq1 hq2 O3 x0 x1 x2 x3 x4
 go_wp2_with fail
 refine C2.mono ?_
 rintro e w4 ⟨rfl,hq1,hq2⟩
 have HK4:Hid (Kn (fun g=>(No g∨g=X)∨x.vB.ownBlock=some g) W1 w4):=HK3.out.trans hq2
 obtain ⟨s3,hs3⟩:∃s3,gad op (opn3 l 0) (opn3 l 1) (opn3 l 2) s2=s3:=⟨_,rfl⟩
 have hgl:s3.code.length≤s2.code.length+1:=by rw[←hs3];exact gad_len _ _ _ _ _
 have hgb:s3.br=s2.br:=by rw[←hs3];unfold gad Gs.put;cases s2.us[s2.cu]?<;>rfl
 have hgc:s2.code.length≤s3.code.length:=by
  obtain ⟨u,hu⟩:∃u,s2.us[s2.cu]?=some u:=⟨_,List.getElem?_eq_getElem hcu⟩
  rw[←hs3]
  unfold gad
  rw[Gs.code_put hu]
  simp
 have HE:Hid (trnS op l s s2={lnds s3.br s3 with br:=s.br}):=by show trnS op l s s2=_;unfold trnS;rw[hs3]
 rw[hs3] at hq1
 obtain ⟨y,hy⟩:=hq1
 obtain ⟨a4,c4,hv4⟩:=row_form hy.br
 have q4:w4.cell? ⟨b,3,none⟩=some (.slice a4 s3.br.length c4):=by
  have q:w4.cell? ⟨b,3,none⟩=some y.vB:=hy.mx.c 3 _ rfl
  rw[hv4] at q
  exact q
 have O4:Opd w4 (.slice a4 s3.br.length c4) s3.br:=by
  have q:=opd_row hy.br
  rwa [hv4] at q
 have C3:=land_any (fun g=>(No g∨g=X)∨x.vB.ownBlock=some g) b tx y s3 w4 a4 c4 s3.br hy O4 (fun g o e=>?hsep) (fun j hj=>?hrg) (by rw[hgb];exact hbl) (by omega)
 case hsep=>
  have:=hy.lB g (by rw[hv4,e];simp[Value.ownBlock])
  omega
 case hrg=>
  rw[hgb] at hj
  have:=hbr j hj
  omega
 have HS4:Hid (s3.us[s3.cu]?=s3.us[s3.cu]?):=rfl
 clear C2 hq2 O4 hy hv4 hgl hgb hgc hc2 hbl hbr hcu HS4
 go_wp2_with fail
 refine C3.mono ?_
 rintro e w5 ⟨rfl,hq1,hq2,-⟩
 have HK5:Hid (Kn (fun g=>(No g∨g=X)∨x.vB.ownBlock=some g) W1 w5):=HK4.out.trans hq2
 have hrow:w5.ownsRow 0 3 1 x.vB s.br.length (nts s.br):=own_keep HH.out.1.br fun g hg=>HK5.out.block g (HH.out.1.br.lt g hg).2 (.inr hg)
 have hdis:∀g,(No g∨g=X)→x.vB.ownBlock≠some g:=fun g hg e=>by
  have z1:=(HH.out.1.no g hg).2
  have z2:=HH.out.1.lB g e
  omega
 have K6:=hq1.brk1 hdis hrow
 have q5:w5.cell? ⟨b,3,none⟩=some y.vB:=hq1.mx.c 3 _ rfl
 have f5:=hq1.mx.f 3
 rw[HVB.out] at K6
 have H5:Hid (Gk No b tx (trnS op l s s2) (w5.setCell ⟨b,3,none⟩ (.slice aB s.br.length cB))∧Kn No W (w5.setCell ⟨b,3,none⟩ (.slice aB s.br.length cB))):=by
  rw[HE.out]
  exact ⟨⟨_,K6.1.less fun _ e=>.inl e⟩,(HH.out.2.1.trans (HK5.out.mono fun _ _ e=>.inl (.inl e))).trans (K6.2.mono fun _ _ e=>.inl e)⟩
 clear C3 hq1 hq2 K6 hrow hdis
 go_wp2_with fail
 go_end0
 exact ⟨rfl,H5.out⟩
end Go.Proofs.YtkjbgggghigapaaGreat


namespace Go.Proofs.YtkjbgggghigapaaGreat
open Go.RowKit
def BrO (s:Gs):Prop:=∀j∈s.br,0≤j∧j<(s.code.length:Int)
def BR (nd:Ndg):Prop:=∀k t n p ks s,s.cu<s.us.length→BrO s→BrO (nd k t n p ks s)
theorem wt_gad (op a b c:Int) (s:Gs):(gad op a b c s).wt≤s.wt+1:=by
 unfold gad Gs.put
 cases hu:s.us[s.cu]? with
 | none=>show s.wt≤_;omega
 | some u=>
   show cdS (s.us.set s.cu {u with cd:=s.code++[(op,a,b,c)]})+s.lo.length+s.br.length≤_
   have q:=cdS_set s.us s.cu u {u with cd:=s.code++[(op,a,b,c)]} hu
   have e:s.code=u.cd:=by unfold Gs.code;rw[hu];rfl
   rw[e] at q⊢
   simp only[List.length_append,List.length_singleton] at q
   unfold Gs.wt
   omega
theorem gad_ln (op a b c:Int) (s:Gs):(gad op a b c s).ln=s.ln:=by unfold gad Gs.put;cases s.us[s.cu]?<;>rfl
theorem gb_gad2 (o1 a1 b1 c1 o2 a2 b2 c2:Int) (s:Gs) (L:Tx):Gb L 1 0 s (gad o2 a2 b2 c2 (gad o1 a1 b1 c1 s)):=by
 have A:=gb_gad o1 a1 b1 c1 s L 1 0 (by omega)
 have B:=gb_gad o2 a2 b2 c2 (gad o1 a1 b1 c1 s) L 1 0 (by omega)
 have q:=A.trans B
 exact ⟨q.cu,q.ul,q.us,q.gl,by have:=wt_gad o1 a1 b1 c1 s;have:=wt_gad o2 a2 b2 c2 (gad o1 a1 b1 c1 s);omega,by have:=q.be;omega,q.pl,by
  rw[gad_ln,gad_ln];exact ⟨by omega,by omega⟩,q.cl⟩
theorem Okg.nobr {L:Tx} {z f:Nat} {s:Gs} (h:Okg L z f s):Okg L z f {s with br:=[]}:=⟨by have:=h.wt;unfold Gs.wt at this⊢;simp only[List.length_nil];omega,h.cs,h.cu,h.be,h.pl,h.ln⟩
theorem blk_facts {L:Tx} {nd:Jg→Ndg} (HB:GG L (nd .blk)) (HR:BR (nd .blk)) (k:Int) (t:Tx) (n p:Int) (ks:F) (s:Gs) (hw:(one k t n p ks).wfG L=true) (hL:Okg L (ks.siz+1) (one k t n p ks).z31 {s with br:=[]}):
 (nd .blk k t n p ks {s with br:=[]}).code.length≤90000000∧(nd .blk k t n p ks {s with br:=[]}).br.length≤100000000∧BrO (nd .blk k t n p ks {s with br:=[]})∧(nd .blk k t n p ks {s with br:=[]}).cu<(nd .blk k t n p ks {s with br:=[]}).us.length∧s.code.length≤(nd .blk k t n p ks {s with br:=[]}).code.length:=by
 have G:=HB k t n p ks {s with br:=[]} hw
 have O:Okg L 0 0 (nd .blk k t n p ks {s with br:=[]}):=Okg.step (y:=ks.siz+1) (f:=(one k t n p ks).z31) hL G
 refine ⟨O.code,?_,HR k t n p ks _ hL.cu (fun j hj=>by cases hj),O.cu,G.cl⟩
 have:=O.wt
 unfold Gs.wt at this
 omega
theorem trnS_len {op:Int} {l:List Int} {s0 s2:Gs}:(trnS op l s0 s2).code.length=(gad op (opn3 l 0) (opn3 l 1) (opn3 l 2) s2).code.length:=by
 have e:∀(l:List Int) (s:Gs),(lnds l s).code.length=s.code.length:=by
  intro l
  induction l with
  | nil=>intro s;rfl
  | cons j l ih=>
    intro s
    show (lnds l (lnd j s)).code.length=_
    rw[ih]
    unfold lnd
    cases hu:s.us[s.cu]? with
    | none=>unfold Gs.put;rw[hu];rfl
    | some u=>rw[Gs.code_put hu];simp
 exact e _ _
set_option maxRecDepth 20000 in
set_option maxHeartbeats 8000000 in
theorem g_while_any {L:Tx} {N:Nat} {nd:Jg→Ndg} (H:GG L (nd .val)) (HB:GG L (nd .blk)) (HR:BR (nd .blk)) (CE:GN 109 L N (nd .val)) (CB:GN 32 L N (nd .blk)) (No:Nat→Prop) (b:Nat) (tx:Tx) (s:Gs) (W:World) (k:Int) (t:Tx) (n p:Int) (a:Option Addr) (c:Nat) (ks:F) (hT:Hid (tx=L)) (h:Gk No b tx s W) (hr:Rv W No a ks) (hs:ks.siz≤N) (hw:ks.wfG L=true) (h2:2≤ks.len) (hL:Okg L (ks.siz+1) ks.z31 s):
 Calls Tryz.prog 74 #[.pointer (some ⟨b,0,none⟩),(.agg #[.int .i64 (k),.string ⟨(t).toArray⟩,.int .i64 (n),.int .i64 (p),.slice a ks.len c])] W (GP No b tx W (whl nd ks s)):=by
 obtain ⟨⟨k0,t0,n0,p0,ks0⟩,g0⟩:=ks.get_some 0 (by omega)
 obtain ⟨⟨k1,t1,n1,p1,ks1⟩,g1⟩:=ks.get_some 1 (by omega)
 have z0:=F.td_siz ks 1
 have z1:=F.get_drop ks 1 g1
 have y0:=F.td_z31 ks 1
 have y1:=F.get_z31 ks 1 g1
 have hok:Okg L ((ks0.siz+1)+(1+(ks1.siz+1))) ((one k0 t0 n0 p0 ks0).z31+(0+(one k1 t1 n1 p1 ks1).z31)) s:=by
  have q0:=F.get_z31 (ks.take 1) 0 (k:=k0) (t:=t0) (n:=n0) (p:=p0) (ks:=ks0) (by cases ks<;>simp_all[F.take,F.get?])
  have q1:=F.get_drop (ks.take 1) 0 (k:=k0) (t:=t0) (n:=n0) (p:=p0) (ks:=ks0) (by cases ks<;>simp_all[F.take,F.get?])
  have q2:=F.td_siz (ks.take 1) 0
  have q3:=F.td_z31 (ks.take 1) 0
  exact hL.mono (by omega) (by omega)
 have w0:=F.wfG_get ks 0 hw g0
 have w1:=F.wfG_get ks 1 hw g1
 have hs0:=F.get_siz ks 0 _ _ _ _ _ g0
 have hs1:=F.get_siz ks 1 _ _ _ _ _ g1
 obtain ⟨s1,hs1'⟩:∃s1,nd .val k0 t0 n0 p0 ks0 s=s1:=⟨_,rfl⟩
 have G0:=H k0 t0 n0 p0 ks0 s w0
 rw[hs1'] at G0
 have hok1:=hok.step G0
 have hok2:=hok1.step (gb_gad2 19 0 0 0 34 0 0 0 s1 L)
 obtain ⟨sA,hsA⟩:∃sA,gad 19 0 0 0 s1=sA:=⟨_,rfl⟩
 obtain ⟨sB,hsB⟩:∃sB,gad 34 0 0 0 sA=sB:=⟨_,rfl⟩
 rw[hsA,hsB] at hok2
 obtain ⟨b1,b2,b3,b4,b5⟩:=blk_facts HB HR k1 t1 n1 p1 ks1 sB w1 (hok2.mono (by omega) (by omega)).nobr
 obtain ⟨s2,hs2⟩:∃s2,nd .blk k1 t1 n1 p1 ks1 {sB with br:=[]}=s2:=⟨_,rfl⟩
 rw[hs2] at b1 b2 b3 b4 b5
 have hE:whl nd ks s=lnd s1.nx (trnS 18 [s.nx] sB s2):=by
  unfold whl
  rw[show ndK nd .val ks 0 s=s1 by unfold ndK;rw[g0];exact hs1',hsA,hsB]
  unfold trn
  rw[show ndK nd .blk ks 1 {sB with br:=[]}=s2 by unfold ndK;rw[g1];exact hs2]
  rfl
 have l1:=hok1.code
 have lA:sA.code.length≤90000001:=by rw[←hsA];have:=gad_len 19 0 0 0 s1;omega
 have hcu1:=hok1.cu
 have lx:s1.code.length<sB.code.length:=by
  obtain ⟨u,hu⟩:∃u,s1.us[s1.cu]?=some u:=⟨_,List.getElem?_eq_getElem hcu1⟩
  have e:sA.code.length=s1.code.length+1:=by rw[←hsA];unfold gad;rw[Gs.code_put hu];simp
  have q:=(gb_gad 34 0 0 0 sA L 1 0 (by omega)).cl
  rw[hsB] at q
  omega
 have lT:(trnS 18 [s.nx] sB s2).code.length≤90000001∧s1.code.length<(trnS 18 [s.nx] sB s2).code.length:=by
  rw[trnS_len]
  have q1:=gad_len 18 (opn3 [s.nx] 0) (opn3 [s.nx] 1) (opn3 [s.nx] 2) s2
  have q2:=(gb_gad 18 (opn3 [s.nx] 0) (opn3 [s.nx] 1) (opn3 [s.nx] 2) s2 L 1 0 (by omega)).cl
  omega
 rw[hE]
 have B:=h.gy #[.int .i64 k,.string ⟨t.toArray⟩,.int .i64 n,.int .i64 p,.slice a ks.len c]
 obtain ⟨X,hX⟩:∃X,W.heap.size=X:=⟨_,rfl⟩
 obtain ⟨W1,hW1⟩:∃W1,W.alloc (.cells #[.int .i64 (k),.string ⟨(t).toArray⟩,.int .i64 (n),.int .i64 (p),.slice a ks.len c] 54)=W1:=⟨_,rfl⟩
 rw[hX,hW1] at B
 obtain ⟨g,o,a0,c0,rfl,hg,d0,d1,d2,d3,d4,hv0,hc0⟩:=Rv.nth ks 0 (B.rv hr) g0
 obtain ⟨x,hx⟩:=B.gk
 have CN:=next_any hx
 have C0:=CE (fun g=>No g∨g=X) b tx s W1 k0 t0 n0 p0 a0 c0 ks0 hT B.gk hv0 (by omega) w0 hc0 (hok.mono (by omega) (by omega))
 rw[hs1'] at C0
 obtain ⟨x0,x1,x2,x3,x4⟩:=B.bx.five
 have HB:Hid (Gy No b tx s W X #[.int .i64 k,.string ⟨t.toArray⟩,.int .i64 n,.int .i64 p,.slice (some ⟨g,o,none⟩) ks.len c] W1):=B
 have HRR:Hid (Rv W No (some ⟨g,o,none⟩) ks):=hr
 have h1':(0:Int)<(ks.len:Int):=by omega
 have h2':(1:Int)<(ks.len:Int):=by omega
 have CBK:Hid (∀(No':Nat→Prop) (w:World) (a1:Option Addr) (c1 Y:Nat),Gk No' b tx sB w→Rv w No' a1 ks1→(ks1.len≤c1∧c1≤maxLen)→Opd w (.slice (some ⟨Y,0,none⟩) 1 1) [s.nx]→No' Y→Calls Tryz.prog 111 #[.pointer (some ⟨b,0,none⟩),(.agg #[.int .i64 (k1),.string ⟨(t1).toArray⟩,.int .i64 (n1),.int .i64 (p1),.slice a1 ks1.len c1]),.int .i64 18,.slice (some ⟨Y,0,none⟩) 1 1] w (GP No' b tx w (trnS 18 [s.nx] sB s2))):=
  fun No' w a1 c1 Y hg hv hc ho hy=>turn_any CB 18 [s.nx] Y 1 No' b tx sB w k1 t1 n1 p1 a1 c1 ks1 hT hg hv (by omega) w1 hc (hok2.mono (by omega) (by omega)).nobr ho (by simp) hy s2 hs2 b1 b2 b3 b4
 have HG1:Hid (ks.get? 1=some (k1,t1,n1,p1,ks1)):=g1
 have HAB:Hid (gad 19 0 0 0 s1=sA∧gad 34 0 0 0 sA=sB):=⟨hsA,hsB⟩
 simp only[Nat.zero_mul,Nat.add_zero] at d0 d1 d2 d3 d4
 clear h hr B hv0 hE G0 z0 z1 y0 y1 g0 g1 hok hok1 hok2 hL hs2 hs1' hx CE CB b1 b2 b3 b4 b5 hsA hsB hw w0 w1 lx
 go_enter Tryz.func74,Tryz.ntmps74
 go_wp2_with fail
 refine CN.mono ?_
 rintro e w' ⟨rfl,rfl⟩
 clear CN
 go_wp2_with fail
 refine C0.mono ?_
 rintro e w2 hq
 have D2:=HB.out.step hq
 obtain ⟨rfl,-⟩:=hq
 have C1:=D2.gk.add0 19 (by omega)
 rw[HAB.out.1] at C1
 have HD2:Hid _:=D2
 clear D2 C0
 go_wp2_with fail
 refine C1.mono ?_
 rintro e w3 ⟨rfl,hq1,hq2⟩
 have D3:=HD2.out.to hq1 hq2
 have C2:=D3.gk.add0 34 (by omega)
 rw[HAB.out.2] at C2
 have HD3:Hid _:=D3
 clear D3 C1 hq1 hq2 HD2
 go_wp2_with fail
 refine C2.mono ?_
 rintro e w4 ⟨rfl,hq1,hq2⟩
 have D4:=HD3.out.to hq1 hq2
 obtain ⟨g',o',a1,c1,eq,hg1,r0,r1,r2,r3,r4,hv1,hc1⟩:=Rv.nth ks 1 (D4.rv HRR.out) HG1.out
 injection eq with eq
 injection eq with eq1 eq2
 subst eq1 eq2
 obtain ⟨x0,x1,x2,x3,x4⟩:=D4.bx.five
 obtain ⟨y4,hy4⟩:=D4.gk
 have hm:=hy4.more (X:=w4.heap.size) (Nat.le_refl _) (by simp) (b1 w4 (.cells #[.int .i64 s.nx] 3))
 have hv5:Rv (w4.alloc (.cells #[.int .i64 s.nx] 3)) (fun g=>(No g∨g=X)∨g=w4.heap.size) a1 ks1:=(hv1.kn ((Kn.refl _ _).alloc _)).mono fun _ e=>.inl e
 have C3:=CBK.out (fun g=>(No g∨g=X)∨g=w4.heap.size) (w4.alloc (.cells #[.int .i64 s.nx] 3)) a1 c1 w4.heap.size ⟨_,hm⟩ hv5 hc1 (opd1 w4 s.nx) (.inr rfl)
 have HD4:Hid _:=D4
 simp only[Nat.one_mul] at r0 r1 r2 r3 r4
 clear D4 C2 hq1 hq2 HD3 hv1 hm hv5 hy4
 go_wp2_with fail
 refine C3.mono ?_
 rintro e w6 ⟨rfl,hq1,hq2⟩
 have D6:=HD4.out.to (w':=w6) (by obtain ⟨y,hy⟩:=hq1;exact ⟨y,hy.less fun _ e=>.inl e⟩) (((Kn.refl _ _).alloc _).trans (hq2.mono fun _ _ e=>.inl e))
 have C4:=D6.gk.land1 s1.nx (by show (0:Int)≤(s1.code.length:Int);omega) (by show (s1.code.length:Int)<_;have:=lT.2;omega) (by have:=lT.1;omega)
 have HD6:Hid _:=D6
 clear D6 C3 hq1 hq2 HD4
 go_wp2_with fail
 refine C4.mono ?_
 rintro e w7 hq
 have H5:Hid _:=(HD6.out.step (w':=w7) hq).out
 obtain ⟨rfl,-⟩:=hq
 go_wp2
 go_end0
 exact ⟨rfl,H5.out.2⟩
end Go.Proofs.YtkjbgggghigapaaGreat


namespace Go.Proofs.YtkjbgggghigapaaGreat
open Go.RowKit
theorem bdrewN (w:World) (n:Nat):Below w.heap.size w (w.drewN n):=⟨rfl,rfl,rfl,Nat.le_refl _,fun _ _=>rfl⟩
structure PtA (P:Nat→Prop) (ks:F) (w:World) (e:Ending):Prop where
 ex:∃a1 c1 a2 c2,e= .returned (.tuple #[.slice a1 (parA ks).len c1,.slice a2 (parR ks).len c2])∧Rv w P a1 (parA ks)∧Rv w P a2 (parR ks)∧(parA ks).len≤c1∧(parR ks).len≤c2
theorem par_no {ks:F} (h:parH ks=false):parA ks=ks∧parR ks= .nil:=by unfold parA parR;rw[h];exact ⟨rfl,rfl⟩
theorem par_yes {ks:F} (h:parH ks=true):parA ks=ks.take (ks.len - 1)∧parR ks=kdK ks (ks.len - 1):=by unfold parA parR;rw[h];exact ⟨rfl,rfl⟩
set_option maxRecDepth 20000 in
set_option maxHeartbeats 8000000 in
theorem parted_any {L:Tx} {w:World} {P:Nat→Prop} (a:Option Addr) (c:Nat) (ks:F) (hr:Rv w P a ks) (hw:ks.wfG L=true) (hc:ks.len≤c) (hsz:ks.siz≤10000000):
 Calls Tryz.prog 149 #[.slice a ks.len c] w fun e w'=>PtA P ks w e∧Below w.heap.size w w':=by
 have hlen:=ks.len_siz
 have wl:IntKind.i64.wrap ((ks.len:Int) - 1)=(ks.len:Int) - 1:=by rw[IntKind.wrap_i64];omega
 by_cases h0:ks.len=0
 ·have hp:parH ks=false:=by unfold parH;simp[h0]
  have HN:Hid (PtA P ks w (.returned (.tuple #[.slice a 0 c,.slice none 0 0]))):=by
   obtain ⟨e1,e2⟩:=par_no hp
   exact ⟨a,c,none,0,by rw[e1,e2,h0];rfl,by rw[e1];exact hr,by rw[e2];exact Rv.nil _,by rw[e1];exact hc,by rw[e2];exact Nat.le_refl _⟩
  rw[h0] at wl⊢
  clear hr hw hp h0
  go_enter Tryz.func149,Tryz.ntmps149
  go_wp2_with fail
  go_ret2
  exact ⟨HN.out,Below.refl _ _⟩
 ·obtain ⟨⟨k1,t1,n1,p1,ks1⟩,g1⟩:=ks.get_some (ks.len - 1) (by omega)
  obtain ⟨m,hm⟩:∃m,ks.len=m+1:=⟨ks.len - 1,by omega⟩
  have hm1:ks.len - 1=m:=by omega
  rw[hm1] at g1
  have hk1:kdA ks (ks.len - 1)=k1:=by unfold kdA;rw[hm1,g1];rfl
  have hk2:kdK ks (ks.len - 1)=ks1:=by unfold kdK;rw[hm1,g1];rfl
  obtain ⟨g,o,a1,c1,rfl,hg,d0,d1,d2,d3,d4,hv1,hc1⟩:=Rv.nth ks m hr g1
  have hmi:((ks.len:Nat):Int) - 1=(m:Int):=by omega
  rw[hmi] at wl
  have w1:=F.wfG_get ks m hw g1
  have hpH:parH ks=(decide (k1=13) && decide (kdA ks1 0=8)):=by unfold parH;rw[hk1,hk2];simp[h0]
  have HN:Hid (parH ks=false→PtA P ks w (.returned (.tuple #[.slice (some ⟨g,o,none⟩) ks.len c,.slice none 0 0]))):=fun hp=>by
   obtain ⟨e1,e2⟩:=par_no hp
   exact ⟨_,c,none,0,by rw[e1,e2];rfl,by rw[e1];exact hr,by rw[e2];exact Rv.nil _,by rw[e1];exact hc,by rw[e2];exact Nat.le_refl _⟩
  have HY:Hid (parH ks=true→PtA P ks w (.returned (.tuple #[.slice (some ⟨g,o,none⟩) m c,.slice a1 ks1.len c1]))):=fun hp=>by
   obtain ⟨e1,e2⟩:=par_yes hp
   rw[hm1] at e1
   rw[hk2] at e2
   have ht:(ks.take m).len=m:=F.len_take ks m (by omega)
   exact ⟨_,c,a1,c1,by rw[e1,e2,ht],by rw[e1];exact hr.take m,by rw[e2];exact hv1,by rw[e1,ht];omega,by rw[e2];exact hc1.1⟩
  have SL:∀W,(Instr.sliceAt 52 (.slice (some ⟨g,o,none⟩) ks.len c) none (some (.int .i64 (m:Nat))) none).run Tryz.prog W= .ok (.slice (some ⟨g,o,none⟩) m c) W:=fun W=>by
   have q1:m≤c:=by omega
   simp[go_sem,Instr.sliceAt,q1]
  have hml:(m:Int)<(ks.len:Int):=by omega
  have hm0:¬(m:Int)<0:=by omega
  by_cases h13:k1=13
  ·subst h13
   have wl1:=(F.wfG_one w1).1
   have h1:1≤ks1.len:=by simpa [arG] using wl1
   obtain ⟨⟨k2,t2,n2,p2,ks2⟩,g2⟩:=ks1.get_some 0 (by omega)
   have hk3:kdA ks1 0=k2:=by unfold kdA;rw[g2];rfl
   obtain ⟨g',o',a2,c2,rfl,_,r0,_⟩:=Rv.nth ks1 0 hv1 g2
   simp only[Nat.zero_mul,Nat.add_zero] at r0
   rw[hk3] at hpH
   have h1i:(0:Int)<(ks1.len:Int):=by omega
   by_cases h8:k2=8
   ·subst h8
    have HP:Hid (parH ks=true):=by show parH ks=true;rw[hpH];rfl
    clear hpH hr hw w1 wl1 h1 g1 g2 hk1 hk2 hk3 hv1 hc1 hm1 hm h0 hsz hlen hg d1 d2 d3
    go_enter Tryz.func149,Tryz.ntmps149
    go_wp2_with fail
    go_quiet (fail)
    go_wp2_with fail
    go_ret2
    exact ⟨HY.out HP.out,bdrewN _ _⟩
   ·have HP:Hid (parH ks=false):=by show parH ks=false;rw[hpH];simp[h8]
    have hb1:(k2==8)=false:=by simpa using h8
    have hb2:(k2 !=8)=true:=by simpa using h8
    clear hpH hr hw w1 wl1 h1 g1 g2 hk1 hk2 hk3 hv1 hc1 hm1 hm h0 hsz hlen hg d1 d2 d3 h8
    go_enter Tryz.func149,Tryz.ntmps149
    go_wp2_with fail
    go_ret2
    exact ⟨HN.out HP.out,Below.refl _ _⟩
  ·have HP:Hid (parH ks=false):=by show parH ks=false;rw[hpH];simp[h13]
   have hb1:(k1==13)=false:=by simpa using h13
   have hb2:(k1 !=13)=true:=by simpa using h13
   clear hpH hr hw w1 g1 hk1 hk2 hv1 hc1 hm1 hm h0 hsz hlen hg d1 d2 d3 h13
   go_enter Tryz.func149,Tryz.ntmps149
   go_wp2_with fail
   go_ret2
   exact ⟨HN.out HP.out,Below.refl _ _⟩
end Go.Proofs.YtkjbgggghigapaaGreat


namespace Go.Proofs.YtkjbgggghigapaaGreat
open Go.RowKit
theorem g_slice_mid (W0:World) (a:Option Addr) (m c:Nat) (ks:F) (hm:m≤ks.len) (h1:1≤m) (hc:ks.len≤c) {P:Nat→Prop}:∃a2 c2,(∀W,(Instr.sliceAt 52 (.slice a ks.len c) (some (.int .i64 1)) (some (.int .i64 (m:Nat))) none).run Tryz.prog W= .ok (.slice a2 (m - 1) c2) W)∧(∀w,Rv w P a ks→Rv w P a2 ((ks.take m).drop 1))∧m - 1≤c2:=by
 have ht:(ks.take m).len=m:=F.len_take ks m hm
 obtain ⟨a2,c2,q1,q2,q3⟩:=slice_from2 W0 a 1 c (ks.take m) (by omega) (by omega) (P:=P)
 rw[ht] at q1 q3
 refine ⟨a2,c2,fun W=>?_,fun w h=>q2 w (h.take m),q3⟩
 have h:=q1 W
 have e1:m≤c:=by omega
 have e2:1≤m:=h1
 simp[go_sem,Instr.sliceAt,e1] at h⊢
 exact h
theorem Rv.own {w:World} {P:Nat→Prop} {g o:Nat} {k:Int} {t:List UInt8} {n p:Int} {ks r:F} (h:Rv w P (some ⟨g,o,none⟩) (.cons k t n p ks r)):P g:=by
 obtain ⟨xs,hk,hx⟩:=h.ex
 obtain ⟨g',o',e,hP,_⟩:=hx (fun e=>by subst e;cases hk)
 injection e with e
 injection e with e1 _
 subst e1
 exact hP
theorem Rv.own' {w:World} {P:Nat→Prop} {g o:Nat} {r:F} (h:Rv w P (some ⟨g,o,none⟩) r) (hr:r.len≠0):P g:=by
 cases r with
 | nil=>exact absurd rfl hr
 | cons k t n p ks r=>exact h.own
theorem put_lo (c:List In) (s:Gs):(s.put c).lo=s.lo:=by unfold Gs.put;cases s.us[s.cu]?<;>rfl
theorem lnds_lo:∀(l:List Int) (s:Gs),(lnds l s).lo=s.lo
 | [],_=>rfl
 | j::l,s=>(lnds_lo l (lnd j s)).trans (put_lo _ _)
theorem trnS_lo (op:Int) (l:List Int) (s0 s2:Gs):(trnS op l s0 s2).lo=s2.lo:=by
 show (lnds _ _).lo=_
 rw[lnds_lo]
 exact put_lo _ _
theorem brL_lo (r:F) (s:Gs):(brL r s).lo.length=s.lo.length+3+r.len:=by
 unfold brL
 rw[brg_lo]
 simp
theorem brL_code (r:F) (s:Gs):(brL r s).code=s.code:=by
 unfold brL
 rw[brg_code]
 rfl
theorem brg_wt:∀(r:F) (s:Gs),(brg r s).wt=s.wt+r.len
 | .nil,s=>rfl
 | .cons _ t _ _ _ r,s=>by
   rw[brg,brg_wt r,F.len]
   unfold Gs.wt
   simp
   omega
theorem brg_oth:∀(r:F) (s:Gs),(brg r s).us=s.us∧(brg r s).cu=s.cu∧(brg r s).be=s.be∧(brg r s).gl=s.gl∧(brg r s).pl=s.pl∧(brg r s).ln=s.ln∧(brg r s).br=s.br
 | .nil,_=>⟨rfl,rfl,rfl,rfl,rfl,rfl,rfl⟩
 | .cons _ t _ _ _ r,s=>brg_oth r {s with lo:=s.lo++[t]}
theorem vls_lo {nd:Jg→Ndg} (HV:∀k t n p ks s,s.lo.length≤(nd .val k t n p ks s).lo.length):∀(r:F) (s:Gs),s.lo.length≤(vls nd r s).lo.length
 | .nil,_=>Nat.le_refl _
 | .cons k t n p ks r,s=>Nat.le_trans (HV k t n p ks s) (vls_lo HV r _)
theorem gb_prep (op a b c:Int) (r:F) (s:Gs) (L:Tx) (z:Nat) (hz:4+r.len≤16 * z):Gb L z 0 s (brL r (gad op a b c s)):=by
 have A:=gb_gad op a b c s L 1 0 (by omega)
 obtain ⟨q1,q2,q3,q4,q5,q6,q7⟩:=brg_oth r {gad op a b c s with lo:=(gad op a b c s).lo++[[],[],[]]}
 have hw:=brg_wt r {gad op a b c s with lo:=(gad op a b c s).lo++[[],[],[]]}
 have hg:=wt_gad op a b c s
 have e:({gad op a b c s with lo:=(gad op a b c s).lo++[[],[],[]]}:Gs).wt=(gad op a b c s).wt+3:=by unfold Gs.wt;simp;omega
 refine ⟨q2.trans A.cu,by unfold brL;rw[q1];exact A.ul,fun i u' hu'=>A.us i u' (by unfold brL at hu';rw[q1] at hu';exact hu'),q4.trans A.gl,(by unfold brL;rw[hw,e];omega),by unfold brL;rw[q3];exact A.be,fun h=>by unfold brL;rw[q5];exact A.pl h,by unfold brL;rw[q6];show s.ln≤(gad op a b c s).ln+_∧(gad op a b c s).ln≤_;rw[gad_ln];exact ⟨by omega,by omega⟩,by rw[brL_code];exact A.cl⟩
set_option maxRecDepth 20000 in
set_option maxHeartbeats 8000000 in
theorem loopN_any {L:Tx} {N:Nat} {nd:Jg→Ndg} (H:GG L (nd .val)) (HB:GG L (nd .blk)) (HR:BR (nd .blk)) (HLO:∀k t n p ks s,s.lo.length≤(nd .blk k t n p ks s).lo.length) (HLV:∀k t n p ks s,s.lo.length≤(nd .val k t n p ks s).lo.length) (CE:GN 109 L N (nd .val)) (CB:GN 32 L N (nd .blk)) (No:Nat→Prop) (b:Nat) (tx:Tx) (s:Gs) (W:World) (k:Int) (t:Tx) (n p:Int) (a:Option Addr) (c:Nat) (ks:F) (hT:Hid (tx=L)) (h:Gk No b tx s W) (hr:Rv W No a ks) (hs:ks.siz≤N) (hw:ks.wfG L=true) (h2:2≤ks.len) (hcc:ks.len≤c∧c≤maxLen) (hL:Okg L (ks.siz+1) ks.z31 s):
 Calls Tryz.prog 75 #[.pointer (some ⟨b,0,none⟩),(.agg #[.int .i64 (k),.string ⟨(t).toArray⟩,.int .i64 (n),.int .i64 (p),.slice a ks.len c])] W (GP No b tx W (lpN nd ks s)):=by
 obtain ⟨m,hm⟩:∃m,ks.len=m+1:=⟨ks.len - 1,by omega⟩
 have hm1:ks.len - 1=m:=by omega
 obtain ⟨⟨k1,t1,n1,p1,ks1⟩,g1⟩:=ks.get_some m (by omega)
 have z0:=F.td_siz ks m
 have z1:=F.get_drop ks m g1
 have y0:=F.td_z31 ks m
 have y1:=F.get_z31 ks m g1
 have z2:=F.td_siz (ks.take m) 1
 have y2:=F.td_z31 (ks.take m) 1
 have htm:(ks.take m).len=m:=F.len_take ks m (by omega)
 have ht1:((ks.take m).take 1).len=1:=F.len_take _ 1 (by omega)
 have ht1':(ks.take 1).len=1:=F.len_take _ 1 (by omega)
 have z3:=((ks.take m).take 1).len_siz
 have hld:((ks.take m).drop 1).len=m - 1:=by rw[F.drop_len,htm]
 have hlen:=ks.len_siz
 have hsz:ks.siz≤6000000:=by have:=hL.wt;omega
 have hok:Okg L (((ks.take m).drop 1).siz+(1+(ks1.siz+1))) (((ks.take m).drop 1).z31+(0+(one k1 t1 n1 p1 ks1).z31)) s:=hL.mono (by omega) (by omega)
 have w1:=F.wfG_get ks m hw g1
 have wv:=F.wfG_drop (ks.take m) 1 (F.wfG_take ks m hw)
 obtain ⟨sV,hsV⟩:∃sV,vls nd ((ks.take m).drop 1) s=sV:=⟨_,rfl⟩
 have G0:=gb_vls H ((ks.take m).drop 1) s wv
 rw[hsV] at G0
 have hok1:=hok.step G0
 obtain ⟨sP,hsP⟩:∃sP,gad 30 ((s.lo.length:Int)+1) 0 (((ks.len:Int) - 2) - 2) sV=sP:=⟨_,rfl⟩
 obtain ⟨sL,hsL⟩:∃sL,brL (ks.take 1) sP=sL:=⟨_,rfl⟩
 have G1:=gb_prep 30 ((s.lo.length:Int)+1) 0 (((ks.len:Int) - 2) - 2) (ks.take 1) sV L 1 (by omega)
 rw[hsP,hsL] at G1
 have hok2:=hok1.step G1
 obtain ⟨b1,b2,b3,b4,b5⟩:=blk_facts HB HR k1 t1 n1 p1 ks1 sL w1 (hok2.mono (by omega) (by omega)).nobr
 have b6:=HLO k1 t1 n1 p1 ks1 {sL with br:=[]}
 obtain ⟨s2,hs2⟩:∃s2,nd .blk k1 t1 n1 p1 ks1 {sL with br:=[]}=s2:=⟨_,rfl⟩
 rw[hs2] at b1 b2 b3 b4 b5 b6
 obtain ⟨sT,hsT⟩:∃sT,trnS 31 [(s.lo.length:Int)+1,sL.nx] sL s2=sT:=⟨_,rfl⟩
 obtain ⟨sE,hsE⟩:∃sE,lea sV.nx sT=sE:=⟨_,rfl⟩
 have hE:lpN nd ks s={sE with lo:=sE.lo.take s.lo.length}:=by
  unfold lpN
  simp only[hm1,hsV,hsP,hsL]
  unfold trn
  rw[show ndK nd .blk ks m {sL with br:=[]}=s2 by unfold ndK;rw[g1];exact hs2]
  rw[←hsE,←hsT]
  rfl
 rw[hE]
 have hl0:s.lo.length≤90000000:=by have:=hL.wt;unfold Gs.wt at this;omega
 have lV:=hok1.code
 have hlV:s.lo.length≤sV.lo.length:=by rw[←hsV];exact vls_lo HLV _ _
 have hlVm:sV.lo.length≤90000000:=by have:=hok1.wt;unfold Gs.wt at this;omega
 have lP:sP.code.length=sV.code.length+1:=by
  have hcu1:=hok1.cu
  obtain ⟨u,hu⟩:∃u,sV.us[sV.cu]?=some u:=⟨_,List.getElem?_eq_getElem hcu1⟩
  rw[←hsP];unfold gad;rw[Gs.code_put hu];simp
 have hlP:sP.lo=sV.lo:=by rw[←hsP];exact put_lo _ _
 have lL:sL.code.length=sV.code.length+1:=by rw[←hsL,brL_code,lP]
 have hlL:sL.lo.length=sV.lo.length+4:=by rw[←hsL,brL_lo,hlP,ht1']
 have lT:sT.code.length≤90000001∧sV.code.length<sT.code.length:=by
  rw[←hsT,trnS_len]
  have q1:=gad_len 31 (opn3 [(s.lo.length:Int)+1,sL.nx] 0) (opn3 [(s.lo.length:Int)+1,sL.nx] 1) (opn3 [(s.lo.length:Int)+1,sL.nx] 2) s2
  have q2:=(gb_gad 31 (opn3 [(s.lo.length:Int)+1,sL.nx] 0) (opn3 [(s.lo.length:Int)+1,sL.nx] 1) (opn3 [(s.lo.length:Int)+1,sL.nx] 2) s2 L 1 0 (by omega)).cl
  omega
 have hlE:s.lo.length≤sE.lo.length:=by
  rw[←hsE,show (lea sV.nx sT).lo=sT.lo from put_lo _ _,←hsT,trnS_lo]
  have q:({sL with br:=[]}:Gs).lo.length=sL.lo.length:=rfl
  omega
 have B:=h.gy #[.int .i64 k,.string ⟨t.toArray⟩,.int .i64 n,.int .i64 p,.slice a ks.len c]
 obtain ⟨X,hX⟩:∃X,W.heap.size=X:=⟨_,rfl⟩
 obtain ⟨W1,hW1⟩:∃W1,W.alloc (.cells #[.int .i64 (k),.string ⟨(t).toArray⟩,.int .i64 (n),.int .i64 (p),.slice a ks.len c] 54)=W1:=⟨_,rfl⟩
 rw[hX,hW1] at B
 obtain ⟨a2,c2,SL,HRS,hc2⟩:=g_slice_mid W a m c ks (by omega) (by omega) hcc.1 (P:=fun g=>No g∨g=X)
 have SL1:∀W,(Instr.sliceAt 52 (.slice a ks.len c) none (some (.int .i64 1)) none).run Tryz.prog W= .ok (.slice a 1 c) W:=fun W=>by
  have q2:¬(c:Int)<1:=by omega
  simp[go_sem,Instr.sliceAt,q2]
 obtain ⟨x,hx⟩:=B.gk
 obtain ⟨aL,cL,hvL⟩:=row_form hx.lr
 have q2:W1.cell? ⟨b,2,none⟩=some (.slice aL s.lo.length cL):=by
  have q:W1.cell? ⟨b,2,none⟩=some x.vL:=hx.mx.c 2 _ rfl
  rw[hvL] at q
  exact q
 obtain ⟨x0,x1,x2,x3,x4⟩:=B.bx.five
 have HG:Hid (∀j,Gy No b tx s W X #[.int .i64 k,.string ⟨t.toArray⟩,.int .i64 n,.int .i64 p,.slice a ks.len c] (W1.drewN j)):=fun j=>B.below (bdrewN _ _)
 have C0:Hid (∀j,Calls Tryz.prog 107 #[.pointer (some ⟨b,0,none⟩),.slice a2 (m - 1) c2] (W1.drewN j) (GP (fun g=>No g∨g=X) b tx (W1.drewN j) sV)):=fun j=>by
  have q:=values_any H CE (fun g=>No g∨g=X) b tx s (W1.drewN j) a2 c2 ((ks.take m).drop 1) hT (HG.out j).gk (HRS _ ((HG.out j).rv hr)) (by omega) wv (hok.mono (by omega) (by omega))
  rw[hld,hsV] at q
  exact q
 have HRR:Hid (Rv W No a ks):=hr
 have HG1:Hid (ks.get? m=some (k1,t1,n1,p1,ks1)):=g1
 have HPL:Hid (gad 30 ((s.lo.length:Int)+1) 0 (((ks.len:Int) - 2) - 2) sV=sP∧brL (ks.take 1) sP=sL∧lea sV.nx sT=sE∧(ks.take 1).len=1):=⟨hsP,hsL,hsE,ht1'⟩
 have CBK:Hid (∀(No':Nat→Prop) (w:World) (a1:Option Addr) (c1 Y:Nat),Gk No' b tx sL w→Rv w No' a1 ks1→(ks1.len≤c1∧c1≤maxLen)→Opd w (.slice (some ⟨Y,0,none⟩) 2 2) [(s.lo.length:Int)+1,sL.nx]→No' Y→Calls Tryz.prog 111 #[.pointer (some ⟨b,0,none⟩),(.agg #[.int .i64 (k1),.string ⟨(t1).toArray⟩,.int .i64 (n1),.int .i64 (p1),.slice a1 ks1.len c1]),.int .i64 31,.slice (some ⟨Y,0,none⟩) 2 2] w (GP No' b tx w sT)):=
  fun No' w a1 c1 Y hg hv hc ho hy=>by
   have q:=turn_any CB 31 [(s.lo.length:Int)+1,sL.nx] Y 2 No' b tx sL w k1 t1 n1 p1 a1 c1 ks1 hT hg hv (by omega) w1 hc (hok2.mono (by omega) (by omega)).nobr ho (by simp) hy s2 hs2 b1 b2 b3 b4
   rw[hsT] at q
   exact q
 have wl:IntKind.i64.wrap ((ks.len:Int) - 1)=(m:Int):=by rw[IntKind.wrap_i64];omega
 have wf:IntKind.i64.wrap ((s.lo.length:Int)+1)=(s.lo.length:Int)+1:=by rw[IntKind.wrap_i64];omega
 have wn:IntKind.i64.wrap (((m - 1:Nat):Int) - 2)=((ks.len:Int) - 2) - 2:=by rw[IntKind.wrap_i64];omega
 have hml:(m:Int)<(ks.len:Int):=by omega
 have HMM:Hid (ks.len=m+1):=hm
 clear h hr B hE G0 G1 z0 z1 z2 y0 y1 y2 g1 hok hok1 hok2 hL hs2 hx CE CB b1 b2 b3 b4 b5 b6 hsV hsP hsL hsT hsE hw w1 wv HRS hvL htm ht1 ht1' z3 hld H HB HR HLO HLV hm hm1
 go_enter Tryz.func75,Tryz.ntmps75
 go_wp2_with fail
 go_quiet (fail)
 go_wp2_with fail
 refine (C0.out nq).mono ?_
 rintro e w2 hq
 have D2:=(HG.out nq).step hq
 obtain ⟨rfl,-⟩:=hq
 have C1:=D2.gk.add3 30 ((s.lo.length:Int)+1) 0 (((ks.len:Int) - 2) - 2) (by omega)
 rw[HPL.out.1] at C1
 obtain ⟨x0,x1,x2,x3,x4⟩:=D2.bx.five
 have HD2:Hid _:=D2
 clear D2 C0 q2
 go_wp2_with fail
 refine C1.mono ?_
 rintro e w3 ⟨rfl,hq1,hq2⟩
 have D3:=HD2.out.to hq1 hq2
 have C2:=bringLoop_any (fun g=>No g∨g=X) b tx sP w3 a c (ks.take 1) D3.gk ((D3.rv HRR.out).take 1) (by rw[HPL.out.2.2.2,hlP];omega)
 rw[HPL.out.2.2.2,HPL.out.2.1] at C2
 obtain ⟨x0,x1,x2,x3,x4⟩:=D3.bx.five
 have HD3:Hid _:=D3
 clear D3 C1 hq1 hq2 HD2
 go_wp2_with fail
 refine C2.mono ?_
 rintro e w4 hq
 have D4:=HD3.out.step hq
 obtain ⟨rfl,-⟩:=hq
 obtain ⟨g,o,a1,c1,rfl,hg1,r0,r1,r2,r3,r4,hv1,hc1⟩:=Rv.nth ks m (D4.rv HRR.out) HG1.out
 obtain ⟨x0,x1,x2,x3,x4⟩:=D4.bx.five
 obtain ⟨y4,hy4⟩:=D4.gk
 have CNX:=next_any hy4.drew
 have hm:=hy4.drew.more (X:=w4.drew.heap.size) (Nat.le_refl _) (by simp) (b1 w4.drew (.cells #[.int .i64 ((s.lo.length:Int)+1),.int .i64 sL.nx] 3))
 have hv5:Rv (w4.drew.alloc (.cells #[.int .i64 ((s.lo.length:Int)+1),.int .i64 sL.nx] 3)) (fun g=>(No g∨g=X)∨g=w4.drew.heap.size) a1 ks1:=(hv1.kn ((Kn.refl _ _).drew.alloc _)).mono fun _ e=>.inl e
 have C3:=CBK.out (fun g=>(No g∨g=X)∨g=w4.drew.heap.size) (w4.drew.alloc (.cells #[.int .i64 ((s.lo.length:Int)+1),.int .i64 sL.nx] 3)) a1 c1 w4.drew.heap.size ⟨_,hm⟩ hv5 hc1 (opd2 w4.drew _ _) (.inr rfl)
 have HX4:Hid (Bx X 54 #[.int .i64 k,.string ⟨t.toArray⟩,.int .i64 n,.int .i64 p,.slice (some ⟨g,o,none⟩) ks.len c] w4):=D4.bx
 have HKS:Hid (∀V,Below w4.heap.size w4 V→V.cell? ⟨X,4,none⟩=some (.slice (some ⟨g,o,none⟩) ks.len c)∧V.cell? ⟨g,o+m * 5,none⟩=some (.int .i64 k1)∧V.cell? ⟨g,o+m * 5+1,none⟩=some (.string ⟨t1.toArray⟩)∧V.cell? ⟨g,o+m * 5+2,none⟩=some (.int .i64 n1)∧V.cell? ⟨g,o+m * 5+3,none⟩=some (.int .i64 p1)∧V.cell? ⟨g,o+m * 5+4,none⟩=some (.slice a1 ks1.len c1)):=fun V q=>by
  have e:∀x,V.cell? ⟨g,x,none⟩=w4.cell? ⟨g,x,none⟩:=fun x=>World.cell?_of_block (w:=w4) (q.block g hg1)
  exact ⟨(HX4.out.below q).c 4 _ rfl,(e _).trans r0,(e _).trans r1,(e _).trans r2,(e _).trans r3,(e _).trans r4⟩
 have HK6:Hid (∀w6,Bx X 54 #[.int .i64 k,.string ⟨t.toArray⟩,.int .i64 n,.int .i64 p,.slice (some ⟨g,o,none⟩) ks.len c] w6→Kn (fun g=>No g∨g=X) (w4.drew.alloc (.cells #[.int .i64 ((s.lo.length:Int)+1),.int .i64 sL.nx] 3)) w6→Hid (w6.cell? ⟨X,4,none⟩=some (.slice (some ⟨g,o,none⟩) ks.len c)∧w6.cell? ⟨g,o+m * 5,none⟩=some (.int .i64 k1)∧w6.cell? ⟨g,o+m * 5+1,none⟩=some (.string ⟨t1.toArray⟩)∧w6.cell? ⟨g,o+m * 5+2,none⟩=some (.int .i64 n1)∧w6.cell? ⟨g,o+m * 5+3,none⟩=some (.int .i64 p1)∧w6.cell? ⟨g,o+m * 5+4,none⟩=some (.slice a1 ks1.len c1))):=fun w6 bx kn=>by
  have pg:=(D4.rv HRR.out).own' (by rw[HMM.out];omega)
  have e:∀x,w6.cell? ⟨g,x,none⟩=w4.cell? ⟨g,x,none⟩:=fun x=>World.cell?_of_block (w:=w4) ((kn.block g (by simp;omega) pg).trans (((Kn.refl (fun _=>True) w4).drew.alloc _).block g hg1 trivial))
  exact ⟨bx.c 4 _ rfl,(e _).trans r0,(e _).trans r1,(e _).trans r2,(e _).trans r3,(e _).trans r4⟩
 have HD4:Hid _:=D4
 clear D4 C2 HD3 hv1 hm hv5 hy4 x0 x1 x2 x3 r0 r1 r2 r3 r4
 go_wp2_with fail
 go_region_held3 (fun V=>V.cell? ⟨X,4,none⟩=some (.slice (some ⟨g,o,none⟩) ks.len c)∧V.cell? ⟨g,o+m * 5,none⟩=some (.int .i64 k1)∧V.cell? ⟨g,o+m * 5+1,none⟩=some (.string ⟨t1.toArray⟩)∧V.cell? ⟨g,o+m * 5+2,none⟩=some (.int .i64 n1)∧V.cell? ⟨g,o+m * 5+3,none⟩=some (.int .i64 p1)∧V.cell? ⟨g,o+m * 5+4,none⟩=some (.slice a1 ks1.len c1))
  (first | exact HS6.out | exact HKS.out _ (by repeat (first | exact Below.refl _ _ | refine Below.drew ?_ | refine Below.alloc ?_ (by simp) _)))
  (first
   | (go_at_call 48;refine CNX.mono ?_;rintro e w' ⟨rfl,rfl⟩)
   | (go_at_call 111;refine C3.mono ?_;rintro e w6 ⟨rfl,hq1,hq2⟩;have D6:=HD4.out.to (w':=w6) (by obtain ⟨y,hy⟩:=hq1;exact ⟨y,hy.less fun _ e=>.inl e⟩) (((Kn.refl _ _).drew.alloc _).trans (hq2.mono fun _ _ e=>.inl e));have HD6:Hid (Gy No b tx sT W X #[.int .i64 k,.string ⟨t.toArray⟩,.int .i64 n,.int .i64 p,.slice (some ⟨g,o,none⟩) ks.len c] w6):=D6;have HS6:=HK6.out w6 D6.bx (hq2.mono fun _ _ e=>.inl e);clear D6))
 all_goals
  have C4:=leave_any (fun g=>No g∨g=X) b tx sT w6 sV.code.length HD6.out.gk lT.2 (by omega)
  rw[show (lea ((sV.code.length:Nat):Int) sT)=sE from HPL.out.2.2.1] at C4
  clear CNX C3 hq1 hq2
  go_wp2_with fail
  refine C4.mono ?_
  rintro e w7 hq
  have D7:=HD6.out.step hq
  obtain ⟨rfl,-⟩:=hq
  obtain ⟨y7,hy7⟩:=D7.gk
  obtain ⟨a7,c7,hv7⟩:=row_form hy7.lr
  have q7:w7.cell? ⟨b,2,none⟩=some (.slice a7 sE.lo.length c7):=by
   have q:w7.cell? ⟨b,2,none⟩=some y7.vL:=hy7.mx.c 2 _ rfl
   rw[hv7] at q
   exact q
  have f7:=hy7.mx.f 2
  have hcap:sE.lo.length≤c7:=by
   have q:=hy7.lr
   rw[hv7] at q
   exact (own_cut q (Nat.zero_le _)).2.2
  have SL7:∀W,(Instr.sliceAt 23 (.slice a7 sE.lo.length c7) none (some (.int .i64 (s.lo.length:Nat))) none).run Tryz.prog W= .ok (.slice a7 s.lo.length c7) W:=fun W=>by
   have e1:s.lo.length≤c7:=by omega
   simp[go_sem,Instr.sliceAt,e1]
  have K7:=hy7.cutL hv7 hlE
  have H7:Hid (Gy No b tx {sE with lo:=sE.lo.take s.lo.length} W X #[.int .i64 k,.string ⟨t.toArray⟩,.int .i64 n,.int .i64 p,.slice (some ⟨g,o,none⟩) ks.len c] (w7.setCell ⟨b,2,none⟩ (.slice a7 s.lo.length c7))):=D7.to K7.1 K7.2
  clear D7 hy7 hv7 K7 C4
  go_wp2_with fail
  go_end0
  exact H7.out.out
end Go.Proofs.YtkjbgggghigapaaGreat


namespace Go.Proofs.YtkjbgggghigapaaGreat
open Go.RowKit
structure Gw (L:Tx) (z f d:Nat) (s s':Gs):Prop where
 cu:s'.cu=s.cu
 ul:s'.us.length=s.us.length
 us:∀(i:Nat) (u':Gu),s'.us[i]?=some u'→∃u,s.us[i]?=some u∧u'.nm=u.nm∧u'.pa=u.pa∧u'.sl=u.sl∧u'.cs=u.cs
 gl:s'.gl=s.gl
 wt:s'.wt≤s.wt+16 * z+d
 be:s'.be≤s.be+f
 pl:0≤s.pl∧s.pl≤(L.length:Int)→0≤s'.pl∧s'.pl≤(L.length:Int)
 ln:s.ln≤s'.ln+30000 * (z:Int)∧s'.ln≤s.ln+30000 * (z:Int)
 cl:s.code.length≤s'.code.length
theorem Gb.gw {L:Tx} {z f:Nat} {s s':Gs} (h:Gb L z f s s'):Gw L z f 0 s s':=⟨h.cu,h.ul,h.us,h.gl,by have:=h.wt;omega,h.be,h.pl,h.ln,h.cl⟩
theorem Gw.gb {L:Tx} {z f d z' f':Nat} {s s':Gs} (h:Gw L z f d s s') (_hz:z≤z') (hd:16 * z+d≤16 * z') (hf:f≤f'):Gb L z' f' s s':=
 ⟨h.cu,h.ul,h.us,h.gl,by have:=h.wt;omega,by have:=h.be;omega,h.pl,by obtain ⟨q1,q2⟩:=h.ln;exact ⟨by omega,by omega⟩,h.cl⟩
theorem Gw.trans {L:Tx} {y z f g d e:Nat} {a b c:Gs} (h:Gw L y f d a b) (k:Gw L z g e b c):Gw L (y+z) (f+g) (d+e) a c:=
 ⟨k.cu.trans h.cu,k.ul.trans h.ul,fun i u' hu'=>by
  obtain ⟨u1,h1,e1,e2,e3,e4⟩:=k.us i u' hu'
  obtain ⟨u,h2,e5,e6,e7,e8⟩:=h.us i u1 h1
  exact ⟨u,h2,e1.trans e5,e2.trans e6,e3.trans e7,e4.trans e8⟩,
  k.gl.trans h.gl,by have:=h.wt;have:=k.wt;omega,by have:=h.be;have:=k.be;omega,fun q=>k.pl (h.pl q),by
   obtain ⟨q1,q2⟩:=h.ln
   obtain ⟨q3,q4⟩:=k.ln
   exact ⟨by omega,by omega⟩,Nat.le_trans h.cl k.cl⟩
theorem Gw.mono {L:Tx} {y z f g d e:Nat} {a b:Gs} (h:Gw L y f d a b) (hz:y≤z) (hf:f≤g) (hd:d≤e):Gw L z g e a b:=
 ⟨h.cu,h.ul,h.us,h.gl,by have:=h.wt;omega,by have:=h.be;omega,h.pl,by obtain ⟨q1,q2⟩:=h.ln;exact ⟨by omega,by omega⟩,h.cl⟩
theorem Gw.refl (L:Tx) (s:Gs):Gw L 0 0 0 s s:=(Gb.refl L 0 0 s).gw
theorem gw_gad (op a b c:Int) (s:Gs) (L:Tx):Gw L 0 0 1 s (gad op a b c s):=by
 have A:=gb_gad op a b c s L 1 0 (by omega)
 exact ⟨A.cu,A.ul,A.us,A.gl,by have:=wt_gad op a b c s;omega,A.be,A.pl,by rw[gad_ln];exact ⟨by omega,by omega⟩,A.cl⟩
theorem gw_nils {L:Tx}:∀(n:Nat) (s:Gs),Gw L 0 0 n s (nils n s)
 | 0,s=>.refl _ _
 | n+1,s=>((gw_gad 3 0 0 0 s L).trans (gw_nils n (gad 3 0 0 0 s))).mono (by omega) (by omega) (by omega)
theorem gw_brg {L:Tx} (r:F) (s:Gs):Gw L 0 0 r.len s (brg r s):=by
 obtain ⟨q1,q2,q3,q4,q5,q6,q7⟩:=brg_oth r s
 exact ⟨q2,by rw[q1],fun i u' hu'=>⟨u',by rwa [q1] at hu',rfl,rfl,rfl,rfl⟩,q4,by rw[brg_wt];omega,by rw[q3];omega,fun h=>by rw[q5];exact h,by rw[q6];exact ⟨by omega,by omega⟩,by rw[brg_code];exact Nat.le_refl _⟩
theorem gw_brL {L:Tx} (r:F) (s:Gs):Gw L 0 0 (3+r.len) s (brL r s):=by
 have h0:Gw L 0 0 3 s {s with lo:=s.lo++[[],[],[]]}:=⟨rfl,rfl,fun i u hu=>⟨u,hu,rfl,rfl,rfl,rfl⟩,rfl,by unfold Gs.wt;simp;omega,Nat.le_refl _,id,⟨by show s.ln≤s.ln+_;omega,by show s.ln≤s.ln+_;omega⟩,Nat.le_refl _⟩
 exact (h0.trans (gw_brg r _)).mono (by omega) (by omega) (by omega)
theorem gw_exa {L:Tx} {nd:Jg→Ndg} (H:GG L (nd .val)) (H8:GG L (nd (.cal (-1)))) (n:Nat) (r:F) (s:Gs) (hw:r.wfG L=true):Gw L r.siz r.z31 (n+2) s (exa nd (n:Nat) r s):=by
 unfold exa
 by_cases h1:(r.len:Int)=(n:Nat)
 ·rw[if_pos h1];exact (gb_vls H r s hw).gw.mono (by omega) (by omega) (by omega)
 ·rw[if_neg h1]
  by_cases h0:r.len=0
  ·rw[if_pos h0,Int.toNat_natCast];exact (gw_nils n s).mono (by omega) (by omega) (by omega)
  ·rw[if_neg h0]
   exact (((gw_gad 22 0 0 0 s L).trans (gb_opn H H8 r _ hw).gw).trans (gw_gad 23 (n:Nat) 0 0 _ L)).mono (by omega) (by omega) (by omega)
theorem gw_lpH {L:Tx} (f n:Int) (s:Gs):Gw L 0 0 5 s (lpH f n s):=by
 unfold lpH
 exact (((((gw_gad 6 f 0 0 s L).trans (gw_gad 22 0 0 0 _ L)).trans (gw_gad 6 (f+1) 0 0 _ L)).trans (gw_gad 6 (f+2) 0 0 _ L)).trans (gw_gad 24 n 0 0 _ L)).mono (by omega) (by omega) (by omega)
end Go.Proofs.YtkjbgggghigapaaGreat


namespace Go.Proofs.YtkjbgggghigapaaGreat
open Go.RowKit
theorem slice_two (W0:World) (a:Option Addr) (l m c:Nat) (ks:F) (hm:m≤ks.len) (h1:l≤m) (hc:ks.len≤c) {P:Nat→Prop}:∃a2 c2,(∀W,(Instr.sliceAt 52 (.slice a ks.len c) (some (.int .i64 (l:Nat))) (some (.int .i64 (m:Nat))) none).run Tryz.prog W= .ok (.slice a2 (m - l) c2) W)∧(∀w,Rv w P a ks→Rv w P a2 ((ks.take m).drop l))∧m - l≤c2:=by
 have ht:(ks.take m).len=m:=F.len_take ks m hm
 obtain ⟨a2,c2,q1,q2,q3⟩:=slice_from2 W0 a l c (ks.take m) (by omega) (by omega) (P:=P)
 rw[ht] at q1 q3
 refine ⟨a2,c2,fun W=>?_,fun w h=>q2 w (h.take m),q3⟩
 have h:=q1 W
 have e1:m≤c:=by omega
 simp[go_sem,Instr.sliceAt,e1,h1] at h⊢
 exact h
theorem code_wt {s:Gs} (h:s.cu<s.us.length):s.code.length≤s.wt:=by
 obtain ⟨u,hu⟩:∃u,s.us[s.cu]?=some u:=⟨_,List.getElem?_eq_getElem h⟩
 have:=cdS_le s.us s.cu u hu
 unfold Gs.wt Gs.code
 rw[hu]
 show u.cd.length≤_
 omega
set_option maxRecDepth 20000 in
set_option maxHeartbeats 8000000 in
theorem loopL_any {L:Tx} {N:Nat} {nd:Jg→Ndg} (H:GG L (nd .val)) (H8:GG L (nd (.cal (-1)))) (HB:GG L (nd .blk)) (HR:BR (nd .blk)) (HLO:∀k t n p ks s,s.lo.length≤(nd .blk k t n p ks s).lo.length) (HLX:∀(r:F) s,s.lo.length≤(exa nd 3 r s).lo.length) (CE:GN 109 L N (nd .val)) (CC:GC L N fun x=>nd (.cal x)) (CB:GN 32 L N (nd .blk)) (No:Nat→Prop) (b:Nat) (tx:Tx) (s:Gs) (W:World) (k:Int) (t:Tx) (n:Nat) (p:Int) (a:Option Addr) (c:Nat) (ks:F) (hT:Hid (tx=L)) (h:Gk No b tx s W) (hr:Rv W No a ks) (hs:ks.siz≤N) (hw:ks.wfG L=true) (h2:n+1≤ks.len) (hcc:ks.len≤c∧c≤maxLen) (hL:Okg L (ks.siz+1) ks.z31 s):
 Calls Tryz.prog 76 #[.pointer (some ⟨b,0,none⟩),(.agg #[.int .i64 (k),.string ⟨(t).toArray⟩,.int .i64 (n:Nat),.int .i64 (p),.slice a ks.len c])] W (GP No b tx W (lpL nd (n:Nat) ks s)):=by
 obtain ⟨m,hm⟩:∃m,ks.len=m+1:=⟨ks.len - 1,by omega⟩
 have hm1:ks.len - 1=m:=by omega
 obtain ⟨⟨k1,t1,n1,p1,ks1⟩,g1⟩:=ks.get_some m (by omega)
 have z0:=F.td_siz ks m
 have z1:=F.get_drop ks m g1
 have y0:=F.td_z31 ks m
 have y1:=F.get_z31 ks m g1
 have z2:=F.td_siz (ks.take m) n
 have y2:=F.td_z31 (ks.take m) n
 have htm:(ks.take m).len=m:=F.len_take ks m (by omega)
 have ht1:((ks.take m).take n).len=n:=F.len_take _ n (by omega)
 have ht1':(ks.take n).len=n:=F.len_take _ n (by omega)
 have z3:=((ks.take m).take n).len_siz
 have hld:((ks.take m).drop n).len=m - n:=by rw[F.drop_len,htm]
 have hlen:=ks.len_siz
 have hsz:ks.siz≤6000000:=by have:=hL.wt;omega
 have w1:=F.wfG_get ks m hw g1
 have wv:=F.wfG_drop (ks.take m) n (F.wfG_take ks m hw)
 obtain ⟨r,hrr⟩:∃r,(ks.take m).drop n=r:=⟨_,rfl⟩
 rw[hrr] at z2 y2 hld wv
 have hok:Okg L ((r.siz+n+1)+(ks1.siz+1)) (r.z31+(one k1 t1 n1 p1 ks1).z31) s:=hL.mono (by omega) (by omega)
 obtain ⟨f,hf⟩:∃f:Int,(s.lo.length:Int)+1=f:=⟨_,rfl⟩
 obtain ⟨sX,hsX⟩:∃sX,exa nd 3 r s=sX:=⟨_,rfl⟩
 obtain ⟨sI,hsI⟩:∃sI,gad 32 f 0 0 sX=sI:=⟨_,rfl⟩
 obtain ⟨sa,hsa⟩:∃q,gad 6 f 0 0 sI=q:=⟨_,rfl⟩
 obtain ⟨sb,hsb⟩:∃q,gad 22 0 0 0 sa=q:=⟨_,rfl⟩
 obtain ⟨sc,hsc⟩:∃q,gad 6 (f+1) 0 0 sb=q:=⟨_,rfl⟩
 obtain ⟨sd,hsd⟩:∃q,gad 6 (f+2) 0 0 sc=q:=⟨_,rfl⟩
 obtain ⟨sH,hsH⟩:∃q,gad 24 (n:Nat) 0 0 sd=q:=⟨_,rfl⟩
 obtain ⟨sP,hsP⟩:∃q,gad 33 f 0 (n:Nat) sH=q:=⟨_,rfl⟩
 obtain ⟨sL,hsL⟩:∃q,brL (ks.take n) sP=q:=⟨_,rfl⟩
 have hlpH:lpH f (n:Nat) sI=sH:=by unfold lpH;rw[hsa,hsb,hsc,hsd,hsH]
 have GX:Gw L r.siz r.z31 5 s sX:=by rw[←hsX];exact gw_exa H H8 3 r s wv
 have GL:Gw L 0 0 (10+n) sX sL:=by
  have q:=(((gw_gad 32 f 0 0 sX L).trans (by rw[hsI];exact (gw_lpH f (n:Nat) sI):Gw L 0 0 5 (gad 32 f 0 0 sX) (lpH f (n:Nat) sI))).trans (by rw[hlpH];exact gw_gad 33 f 0 (n:Nat) sH L:Gw L 0 0 1 (lpH f (n:Nat) sI) (gad 33 f 0 (n:Nat) sH))).trans (gw_brL (ks.take n) (gad 33 f 0 (n:Nat) sH))
  rw[hsP,hsL,ht1'] at q
  exact q.mono (by omega) (by omega) (by omega)
 have hok2:Okg L (ks1.siz+1) (one k1 t1 n1 p1 ks1).z31 sL:=hok.step ((GX.trans GL).gb (by omega) (by omega) (by omega))
 obtain ⟨b1,b2,b3,b4,b5⟩:=blk_facts HB HR k1 t1 n1 p1 ks1 sL w1 hok2.nobr
 have b6:=HLO k1 t1 n1 p1 ks1 {sL with br:=[]}
 obtain ⟨s2,hs2⟩:∃s2,nd .blk k1 t1 n1 p1 ks1 {sL with br:=[]}=s2:=⟨_,rfl⟩
 rw[hs2] at b1 b2 b3 b4 b5 b6
 obtain ⟨sT,hsT⟩:∃sT,trnS 18 [sI.nx] sL s2=sT:=⟨_,rfl⟩
 obtain ⟨sE,hsE⟩:∃sE,lea sH.nx sT=sE:=⟨_,rfl⟩
 have hE:lpL nd (n:Nat) ks s={sE with lo:=sE.lo.take s.lo.length}:=by
  unfold lpL
  simp only[hm1,Int.toNat_natCast,hrr,hf,hsX,hsI,hlpH,hsP,hsL]
  unfold trn
  rw[show ndK nd .blk ks m {sL with br:=[]}=s2 by unfold ndK;rw[g1];exact hs2]
  rw[←hsE,←hsT]
  rfl
 rw[hE]
 have hl0:s.lo.length≤90000000:=by have:=hL.wt;unfold Gs.wt at this;omega
 have hcX:sX.cu<sX.us.length:=by rw[GX.cu,GX.ul];exact hL.cu
 have hwX:sX.wt≤90000005:=by have:=GX.wt;have:=hok.wt;omega
 have lX:sX.code.length≤90000005:=Nat.le_trans (code_wt hcX) hwX
 have hlX:s.lo.length≤sX.lo.length:=by rw[←hsX];exact HLX _ _
 have hlXm:sX.lo.length≤90000005:=by have:=hwX;unfold Gs.wt at this;omega
 have lI:sI.code.length≤90000006:=by rw[←hsI];have:=gad_len 32 f 0 0 sX;omega
 have la:sa.code.length≤90000007:=by rw[←hsa];have:=gad_len 6 f 0 0 sI;omega
 have lb:sb.code.length≤90000008:=by rw[←hsb];have:=gad_len 22 0 0 0 sa;omega
 have lc:sc.code.length≤90000009:=by rw[←hsc];have:=gad_len 6 (f+1) 0 0 sb;omega
 have ld:sd.code.length≤90000010:=by rw[←hsd];have:=gad_len 6 (f+2) 0 0 sc;omega
 have lH:sH.code.length≤90000011:=by rw[←hsH];have:=gad_len 24 (n:Nat) 0 0 sd;omega
 have hlP:sP.lo=sX.lo:=by rw[←hsP,←hsH,←hsd,←hsc,←hsb,←hsa,←hsI];exact (put_lo _ _).trans ((put_lo _ _).trans ((put_lo _ _).trans ((put_lo _ _).trans ((put_lo _ _).trans ((put_lo _ _).trans (put_lo _ _))))))
 have lP:sP.code.length=sH.code.length+1:=by
  have hcu1:sH.cu<sH.us.length:=by
   have q:=(gw_gad 32 f 0 0 sX L).trans (by rw[hsI];exact (gw_lpH f (n:Nat) sI):Gw L 0 0 5 (gad 32 f 0 0 sX) (lpH f (n:Nat) sI))
   rw[hlpH] at q
   rw[q.cu,q.ul];exact hcX
  obtain ⟨u,hu⟩:∃u,sH.us[sH.cu]?=some u:=⟨_,List.getElem?_eq_getElem hcu1⟩
  rw[←hsP];unfold gad;rw[Gs.code_put hu];simp
 have lL:sL.code.length=sH.code.length+1:=by rw[←hsL,brL_code,lP]
 have hlL:sL.lo.length=sX.lo.length+3+n:=by rw[←hsL,brL_lo,hlP,ht1']
 have lT:sT.code.length≤90000001∧sH.code.length<sT.code.length:=by
  rw[←hsT,trnS_len]
  have q1:=gad_len 18 (opn3 [sI.nx] 0) (opn3 [sI.nx] 1) (opn3 [sI.nx] 2) s2
  have q2:=(gb_gad 18 (opn3 [sI.nx] 0) (opn3 [sI.nx] 1) (opn3 [sI.nx] 2) s2 L 1 0 (by omega)).cl
  omega
 have hlE:s.lo.length≤sE.lo.length:=by
  rw[←hsE,show (lea sH.nx sT).lo=sT.lo from put_lo _ _,←hsT,trnS_lo]
  have q:({sL with br:=[]}:Gs).lo.length=sL.lo.length:=rfl
  omega
 have B:=h.gy #[.int .i64 k,.string ⟨t.toArray⟩,.int .i64 (n:Nat),.int .i64 p,.slice a ks.len c]
 obtain ⟨X,hX⟩:∃X,W.heap.size=X:=⟨_,rfl⟩
 obtain ⟨W1,hW1⟩:∃W1,W.alloc (.cells #[.int .i64 (k),.string ⟨(t).toArray⟩,.int .i64 (n:Nat),.int .i64 (p),.slice a ks.len c] 54)=W1:=⟨_,rfl⟩
 rw[hX,hW1] at B
 obtain ⟨a2,c2,SL,HRS,hc2⟩:=slice_two W a n m c ks (by omega) (by omega) hcc.1 (P:=fun g=>No g∨g=X)
 have SL1:∀W,(Instr.sliceAt 52 (.slice a ks.len c) none (some (.int .i64 (n:Nat))) none).run Tryz.prog W= .ok (.slice a n c) W:=fun W=>by
  have q1:n≤c:=by omega
  simp[go_sem,Instr.sliceAt,q1]
 obtain ⟨x,hx⟩:=B.gk
 obtain ⟨aL,cL,hvL⟩:=row_form hx.lr
 have q2:W1.cell? ⟨b,2,none⟩=some (.slice aL s.lo.length cL):=by
  have q:W1.cell? ⟨b,2,none⟩=some x.vL:=hx.mx.c 2 _ rfl
  rw[hvL] at q
  exact q
 obtain ⟨x0,x1,x2,x3,x4⟩:=B.bx.five
 have HG:Hid (∀j,Gy No b tx s W X #[.int .i64 k,.string ⟨t.toArray⟩,.int .i64 (n:Nat),.int .i64 p,.slice a ks.len c] (W1.drewN j)):=fun j=>B.below (bdrewN _ _)
 have C0:Hid (∀j,Calls Tryz.prog 106 #[.pointer (some ⟨b,0,none⟩),.int .i64 3,.slice a2 (m - n) c2] (W1.drewN j) (GP (fun g=>No g∨g=X) b tx (W1.drewN j) sX)):=fun j=>by
  have q:=exactly_any H H8 CE CC 3 (fun g=>No g∨g=X) b tx s (W1.drewN j) a2 c2 r hT (HG.out j).gk (by rw[←hrr];exact HRS _ ((HG.out j).rv hr)) (by omega) wv (by omega) (by omega) (hL.mono (by omega) (by omega))
  rw[hld] at q
  have e3:exa nd ((3:Nat):Int) r s=sX:=hsX
  rw[e3] at q
  exact q
 have HRR:Hid (Rv W No a ks):=hr
 have HG1:Hid (ks.get? m=some (k1,t1,n1,p1,ks1)):=g1
 have HPL:Hid (brL (ks.take n) sP=sL∧lea sH.nx sT=sE∧(ks.take n).len=n):=⟨hsL,hsE,ht1'⟩
 have HGA:Hid (gad 32 f 0 0 sX=sI∧gad 6 f 0 0 sI=sa∧gad 22 0 0 0 sa=sb∧gad 6 (f+1) 0 0 sb=sc∧gad 6 (f+2) 0 0 sc=sd∧gad 24 (n:Nat) 0 0 sd=sH∧gad 33 f 0 (n:Nat) sH=sP):=⟨hsI,hsa,hsb,hsc,hsd,hsH,hsP⟩
 have CBK:Hid (∀(No':Nat→Prop) (w:World) (a1:Option Addr) (c1 Y:Nat),Gk No' b tx sL w→Rv w No' a1 ks1→(ks1.len≤c1∧c1≤maxLen)→Opd w (.slice (some ⟨Y,0,none⟩) 1 1) [sI.nx]→No' Y→Calls Tryz.prog 111 #[.pointer (some ⟨b,0,none⟩),(.agg #[.int .i64 (k1),.string ⟨(t1).toArray⟩,.int .i64 (n1),.int .i64 (p1),.slice a1 ks1.len c1]),.int .i64 18,.slice (some ⟨Y,0,none⟩) 1 1] w (GP No' b tx w sT)):=
  fun No' w a1 c1 Y hg hv hc ho hy=>by
   have q:=turn_any CB 18 [sI.nx] Y 1 No' b tx sL w k1 t1 n1 p1 a1 c1 ks1 hT hg hv (by omega) w1 hc hok2.nobr ho (by simp) hy s2 hs2 b1 b2 b3 b4
   rw[hsT] at q
   exact q
 have wl:IntKind.i64.wrap ((ks.len:Int) - 1)=(m:Int):=by rw[IntKind.wrap_i64];omega
 have wf:IntKind.i64.wrap ((s.lo.length:Int)+1)=f:=by rw[IntKind.wrap_i64];omega
 have wf1:IntKind.i64.wrap (f+1)=f+1:=by rw[IntKind.wrap_i64];omega
 have wf2:IntKind.i64.wrap (f+2)=f+2:=by rw[IntKind.wrap_i64];omega
 have hml:(m:Int)<(ks.len:Int):=by omega
 have HMM:Hid (ks.len=m+1):=hm
 clear h hr B hE GX GL z0 z1 z2 y0 y1 y2 g1 hok hok2 hL hs2 hx CE CC CB b1 b2 b3 b4 b5 b6 hsX hsI hsa hsb hsc hsd hsH hsP hsL hsT hsE hw w1 wv HRS hvL htm ht1 ht1' z3 hld H H8 HB HR HLO HLX hm hm1 hrr hf hcX hwX hlpH lP lL hlL
 go_enter Tryz.func76,Tryz.ntmps76
 go_wp2_with fail
 go_quiet (fail)
 go_wp2_with fail
 refine (C0.out nq).mono ?_
 rintro e w2 hq
 have D2:=(HG.out nq).step hq
 obtain ⟨rfl,-⟩:=hq
 have C1:=D2.gk.add1 32 f (by omega)
 rw[HGA.out.1] at C1
 have HD2:Hid _:=D2
 clear D2 C0 q2
 go_wp2_with fail
 refine C1.mono ?_
 rintro e w3 ⟨rfl,hq1,hq2⟩
 have D:=HD2.out.to hq1 hq2
 obtain ⟨y3,hy3⟩:=D.gk
 have CNX:=next_any hy3
 have C:=D.gk.add1 6 f (by omega)
 rw[HGA.out.2.1] at C
 obtain ⟨x0,x1,x2,x3,x4⟩:=D.bx.five
 have HD3:Hid _:=D
 clear D C1 hq1 hq2 HD2 hy3
 go_wp2_with fail
 refine CNX.mono ?_
 rintro e w' ⟨rfl,rfl⟩
 clear CNX
 go_wp2_with fail
 refine C.mono ?_
 rintro e w4 ⟨rfl,hq1,hq2⟩
 have D:=HD3.out.to hq1 hq2
 have C:=D.gk.add0 22 (by omega)
 rw[HGA.out.2.2.1] at C
 obtain ⟨x0,x1,x2,x3,x4⟩:=D.bx.five
 have HD4:Hid _:=D
 clear D hq1 hq2 HD3
 go_wp2_with fail
 refine C.mono ?_
 rintro e w5 ⟨rfl,hq1,hq2⟩
 have D:=HD4.out.to hq1 hq2
 have C:=D.gk.add1 6 (f+1) (by omega)
 rw[HGA.out.2.2.2.1] at C
 obtain ⟨x0,x1,x2,x3,x4⟩:=D.bx.five
 have HD5:Hid _:=D
 clear D hq1 hq2 HD4
 go_wp2_with fail
 refine C.mono ?_
 rintro e w6 ⟨rfl,hq1,hq2⟩
 have D:=HD5.out.to hq1 hq2
 have C:=D.gk.add1 6 (f+2) (by omega)
 rw[HGA.out.2.2.2.2.1] at C
 obtain ⟨x0,x1,x2,x3,x4⟩:=D.bx.five
 have HD6:Hid _:=D
 clear D hq1 hq2 HD5
 go_wp2_with fail
 refine C.mono ?_
 rintro e w7 ⟨rfl,hq1,hq2⟩
 have D:=HD6.out.to hq1 hq2
 have C:=D.gk.add1 24 (n:Nat) (by omega)
 rw[HGA.out.2.2.2.2.2.1] at C
 obtain ⟨x0,x1,x2,x3,x4⟩:=D.bx.five
 have HD7:Hid _:=D
 clear D hq1 hq2 HD6
 go_wp2_with fail
 refine C.mono ?_
 rintro e w8 ⟨rfl,hq1,hq2⟩
 have D:=HD7.out.to hq1 hq2
 have C:=D.gk.add3 33 f 0 (n:Nat) (by omega)
 rw[HGA.out.2.2.2.2.2.2] at C
 obtain ⟨x0,x1,x2,x3,x4⟩:=D.bx.five
 have HD8:Hid _:=D
 clear D hq1 hq2 HD7
 go_wp2_with fail
 refine C.mono ?_
 rintro e w9 ⟨rfl,hq1,hq2⟩
 have D:=HD8.out.to hq1 hq2
 have C2:=bringLoop_any (fun g=>No g∨g=X) b tx sP w9 a c (ks.take n) D.gk ((D.rv HRR.out).take n) (by rw[HPL.out.2.2,hlP];omega)
 rw[HPL.out.2.2,HPL.out.1] at C2
 obtain ⟨x0,x1,x2,x3,x4⟩:=D.bx.five
 have HD9:Hid _:=D
 clear D C hq1 hq2 HD8
 go_wp2_with fail
 refine C2.mono ?_
 rintro e wA hq
 have D4:=HD9.out.step hq
 obtain ⟨rfl,-⟩:=hq
 obtain ⟨g,o,a1,c1,rfl,hg1,r0,r1,r2,r3,r4,hv1,hc1⟩:=Rv.nth ks m (D4.rv HRR.out) HG1.out
 obtain ⟨x0,x1,x2,x3,x4⟩:=D4.bx.five
 obtain ⟨y4,hy4⟩:=D4.gk
 have hm:=hy4.more (X:=wA.heap.size) (Nat.le_refl _) (by simp) (b1 wA (.cells #[.int .i64 sI.nx] 3))
 have hv5:Rv (wA.alloc (.cells #[.int .i64 sI.nx] 3)) (fun g=>(No g∨g=X)∨g=wA.heap.size) a1 ks1:=(hv1.kn ((Kn.refl _ _).alloc _)).mono fun _ e=>.inl e
 have C3:=CBK.out (fun g=>(No g∨g=X)∨g=wA.heap.size) (wA.alloc (.cells #[.int .i64 sI.nx] 3)) a1 c1 wA.heap.size ⟨_,hm⟩ hv5 hc1 (opd1 wA sI.nx) (.inr rfl)
 have HD4:Hid _:=D4
 clear D4 C2 HD9 hv1 hm hv5 hy4
 go_wp2_with fail
 refine C3.mono ?_
 rintro e wB ⟨rfl,hq1,hq2⟩
 have D6:=HD4.out.to (w':=wB) (by obtain ⟨y,hy⟩:=hq1;exact ⟨y,hy.less fun _ e=>.inl e⟩) (((Kn.refl _ _).alloc _).trans (hq2.mono fun _ _ e=>.inl e))
 have C4:=leave_any (fun g=>No g∨g=X) b tx sT wB sH.code.length D6.gk lT.2 (by omega)
 rw[show (lea ((sH.code.length:Nat):Int) sT)=sE from HPL.out.2.1] at C4
 have HD6:Hid _:=D6
 clear D6 C3 hq1 hq2 HD4
 go_wp2_with fail
 refine C4.mono ?_
 rintro e wC hq
 have D7:=HD6.out.step hq
 obtain ⟨rfl,-⟩:=hq
 obtain ⟨y7,hy7⟩:=D7.gk
 obtain ⟨a7,c7,hv7⟩:=row_form hy7.lr
 have q7:wC.cell? ⟨b,2,none⟩=some (.slice a7 sE.lo.length c7):=by
  have q:wC.cell? ⟨b,2,none⟩=some y7.vL:=hy7.mx.c 2 _ rfl
  rw[hv7] at q
  exact q
 have f7:=hy7.mx.f 2
 have hcap:sE.lo.length≤c7:=by
  have q:=hy7.lr
  rw[hv7] at q
  exact (own_cut q (Nat.zero_le _)).2.2
 have SL7:∀W,(Instr.sliceAt 23 (.slice a7 sE.lo.length c7) none (some (.int .i64 (s.lo.length:Nat))) none).run Tryz.prog W= .ok (.slice a7 s.lo.length c7) W:=fun W=>by
  have e1:s.lo.length≤c7:=by omega
  simp[go_sem,Instr.sliceAt,e1]
 have K7:=hy7.cutL hv7 hlE
 have H7:Hid (Gy No b tx {sE with lo:=sE.lo.take s.lo.length} W X #[.int .i64 k,.string ⟨t.toArray⟩,.int .i64 (n:Nat),.int .i64 p,.slice (some ⟨g,o,none⟩) ks.len c] (wC.setCell ⟨b,2,none⟩ (.slice a7 s.lo.length c7))):=D7.to K7.1 K7.2
 clear D7 hy7 hv7 K7 C4
 go_wp2_with fail
 go_end0
 exact H7.out.out
end Go.Proofs.YtkjbgggghigapaaGreat
