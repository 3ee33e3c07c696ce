import Derived.Test.YtkjbgggghigapaaGreatCg11
import Derived.Test.YtkjbgggghigapaaGreatCg06
import Derived.Test.YtkjbgggghigapaaGreatCg09
import Derived.Deep.RegionHeld3
namespace Go.Proofs.YtkjbgggghigapaaGreat
open Go.RowKit
theorem par_facts {L:Tx} (ks:F) (hw:ks.wfG L=true):(parA ks).siz+(parR ks).siz≤ks.siz∧(parA ks).z31+(parR ks).z31≤ks.z31∧(parA ks).wfG L=true∧(parR ks).wfG L=true∧((parR ks).len≠0→(parA ks).siz+(parR ks).siz+1≤ks.siz):=by
 cases hp:parH ks with
 | false=>
   obtain ⟨e1,e2⟩:=par_no hp
   rw[e1,e2]
   exact ⟨by simp[F.siz],by simp[F.z31],hw,rfl,fun e=>absurd rfl e⟩
 | true=>
   obtain ⟨e1,e2⟩:=par_yes hp
   have h0:ks.len≠0:=fun e=>by unfold parH at hp;simp[e] at hp
   obtain ⟨⟨k1,t1,n1,p1,ks1⟩,g1⟩:=ks.get_some (ks.len - 1) (by omega)
   have e3:kdK ks (ks.len - 1)=ks1:=by unfold kdK;rw[g1];rfl
   rw[e1,e2,e3]
   have z0:=F.td_siz ks (ks.len - 1)
   have z1:=F.get_drop ks (ks.len - 1) g1
   have y0:=F.td_z31 ks (ks.len - 1)
   have y1:=F.get_z31 ks (ks.len - 1) g1
   have y2:ks1.z31≤(one k1 t1 n1 p1 ks1).z31:=by simp only[one,F.z31];omega
   exact ⟨by omega,by omega,F.wfG_take ks _ hw,(F.wfG_one (F.wfG_get ks _ hw g1)).2.2.2,fun _=>by omega⟩
theorem flds_cons (nd:Jg→Ndg) (kk:Int) (t:Tx) (n p:Int) (ks r:F) (w k:Int) (s:Gs):flds nd (.cons kk t n p ks r) w k s=if kk=14 then flds nd r w k (gad 27 w 0 0 (vls nd ks s)) else if w+1=50 then flds nd r 0 (k+(w+1)) (gad 28 (w+1) k 0 (vls nd ks s)) else flds nd r (w+1) k (vls nd ks s):=rfl
theorem Tw.make {No:Nat→Prop} {b:Nat} {t:Tx} {M:Nat} {cur:Array Value} {s:Gs} {W w:World} (h:Gk (fun g=>No g∨(g=M∨g=M+1)) b t s w) (hm:Bx M 119 #[.pointer (some ⟨b,0,none⟩)] w) (hn:Bx (M+1) 54 cur w) (hk:Kn No W w) (hM:W.heap.size≤M) (u v:Int):
 Tw No b t M w.heap.size cur u v s W ((w.alloc (.cells #[.int .i64 u] 3)).alloc (.cells #[.int .i64 v] 3)):=by
 have q:=hn.lt
 have h2:=h.grow (w':=(w.alloc (.cells #[.int .i64 u] 3)).alloc (.cells #[.int .i64 v] 3)) (bthen (b1 _ _) (by simp) (b1 _ _))
 have b4:=Bx.new (w.alloc (.cells #[.int .i64 u] 3)) 3 #[.int .i64 v]
 rw[World.size_alloc] at b4
 refine ⟨h2.less fun g e=>?_,(hm.alloc _).alloc _,(hn.alloc _).alloc _,(Bx.new w 3 #[.int .i64 u]).alloc _,b4,(hk.alloc _).alloc _,hM,q⟩
 rcases e with e | e | e | e | e
 ·exact .inl (.inl e)
 ·exact .inl (.inr (.inl e))
 ·exact .inl (.inr (.inr e))
 ·exact .inr ⟨by omega,by simp;omega⟩
 ·exact .inr ⟨by omega,by simp;omega⟩
set_option maxRecDepth 20000 in
set_option maxHeartbeats 8000000 in
theorem g_table_any {L:Tx} {N:Nat} {nd:Jg→Ndg} (H:GG L (nd .val)) (H8:GG L (nd (.cal (-1)))) (CE:GN 109 L N (nd .val)) (CC:GC L N fun x=>nd (.cal x)) (No:Nat→Prop) (b:Nat) (tx:Tx) (s:Gs) (W:World) (k:Int) (t:Tx) (n p:Int) (a:Option Addr) (c:Nat) (ks:F) (hT:Hid (tx=L)) (h:Gk No b tx s W) (hr:Rv W No a ks) (hs:ks.siz≤N) (hw:ks.wfG L=true) (hcc:ks.len≤c∧c≤maxLen) (hL:Okg L (ks.siz+1) ks.z31 s):
 Calls Tryz.prog 135 #[.pointer (some ⟨b,0,none⟩),(.agg #[.int .i64 (k),.string ⟨(t).toArray⟩,.int .i64 (n),.int .i64 (p),.slice a ks.len c])] W (GP No b tx W (tabG nd ks s)):=by
 have hlen:=ks.len_siz
 have hsz:ks.siz≤6000000:=by have:=hL.wt;omega
 obtain ⟨zA,yA,wA,wR,zR⟩:=par_facts ks hw
 have hlA:=(parA ks).len_siz
 have hit:=itm_rng (parA ks)
 have hN:=h.old
 obtain ⟨M,hM⟩:∃M,W.heap.size=M:=⟨_,rfl⟩
 obtain ⟨W1,hW1⟩:∃W1,(W.alloc (.cells #[.pointer (some ⟨b,0,none⟩)] 119)).alloc (.cells #[.int .i64 (k),.string ⟨(t).toArray⟩,.int .i64 (n),.int .i64 (p),.slice a ks.len c] 54)=W1:=⟨_,rfl⟩
 have BL:Below W.heap.size W W1:=by rw[←hW1];exact bthen (b1 _ _) (by simp) (b1 _ _)
 have bM:Bx M 119 #[.pointer (some ⟨b,0,none⟩)] W1:=by rw[←hW1,←hM];exact (Bx.new W 119 #[.pointer (some ⟨b,0,none⟩)]).alloc _
 have bN:Bx (M+1) 54 #[.int .i64 (k),.string ⟨(t).toArray⟩,.int .i64 (n),.int .i64 (p),.slice a ks.len c] W1:=by
  have q:=Bx.new (W.alloc (.cells #[.pointer (some ⟨b,0,none⟩)] 119)) 54 #[.int .i64 (k),.string ⟨(t).toArray⟩,.int .i64 (n),.int .i64 (p),.slice a ks.len c]
  rw[World.size_alloc,hM,hW1] at q
  exact q
 have hS1:W1.heap.size=M+2:=by rw[←hW1];simp[hM]
 have G1:Gk (fun g=>No g∨(g=M∨g=M+1)) b tx s W1:=(h.grow BL).less fun g e=>e.elim .inl fun e=>.inr ⟨by omega,by omega⟩
 have CP:=parted_any (L:=L) (P:=No) a c ks (hr.kn (.of_below BL)) hw hcc.1 (by omega)
 have x4:W1.cell? ⟨M+1,4,none⟩=some (.slice a ks.len c):=bN.c 4 _ rfl
 have HG:Hid (Gk (fun g=>No g∨(g=M∨g=M+1)) b tx s W1∧Bx M 119 #[.pointer (some ⟨b,0,none⟩)] W1∧Bx (M+1) 54 #[.int .i64 (k),.string ⟨(t).toArray⟩,.int .i64 (n),.int .i64 (p),.slice a ks.len c] W1∧Kn No W W1):=⟨G1,bM,bN,.of_below BL⟩
 clear h hr bM bN G1 BL hS1
 go_enter Tryz.func135,Tryz.ntmps135
 go_wp2_with fail
 refine CP.mono ?_
 rintro e w2 ⟨⟨a1,c1,a2,c2,rfl,hv1,hv2,hl1,hl2⟩,hb⟩
 have CI:=countItems_any No w2 a1 c1 (parA ks) (hv1.kn (.of_below hb)) (by omega)
 have HV:Hid (Rv W1 No a1 (parA ks)∧Rv W1 No a2 (parR ks)∧Below W1.heap.size W1 w2):=⟨hv1,hv2,hb⟩
 clear CP hv1 hv2 hb
 go_wp2_with fail
 refine CI.mono ?_
 rintro e w3 ⟨rfl,hb⟩
 have BW:Below W1.heap.size W1 w3:=bthen HV.out.2.2 HV.out.2.2.size hb
 obtain ⟨gA,bM,bN,kA⟩:=HG.out
 have G3:=gA.below BW
 have m3:=bM.below BW
 have n3:=bN.below BW
 have x0:=m3.c 0 _ rfl
 have wi:IntKind.i64.wrap (((parA ks).len:Int) - itm (parA ks))=((parA ks).len:Int) - itm (parA ks):=by rw[IntKind.wrap_i64];omega
 have C3:=G3.add2 26 (itm (parA ks)) (((parA ks).len:Int) - itm (parA ks)) (by have:=hL.code;omega)
 have HG3:Hid (Bx M 119 #[.pointer (some ⟨b,0,none⟩)] w3∧Bx (M+1) 54 #[.int .i64 (k),.string ⟨(t).toArray⟩,.int .i64 (n),.int .i64 (p),.slice a ks.len c] w3∧Kn No W w3∧Rv w3 No a1 (parA ks)∧Rv w3 No a2 (parR ks)):=⟨m3,n3,kA.trans (.of_below BW),HV.out.1.kn (.of_below BW),HV.out.2.1.kn (.of_below BW)⟩
 clear CI hb BW gA bM bN kA G3 m3 n3 HV HG
 go_wp2_with fail
 refine C3.mono ?_
 rintro e w4 ⟨rfl,hq1,hq2⟩
 obtain ⟨m3,n3,k3,v3,v4⟩:=HG3.out
 have T4:=Tw.make hq1 (m3.kn hq2 (.inr (.inl rfl))) (n3.kn hq2 (.inr (.inr rfl))) (k3.trans (hq2.mono fun _ _ e=>.inl e)) (by omega) 0 1
 have hv3:=v3.kn (hq2.mono fun _ _ e=>.inl e)
 have hv4:=v4.kn (hq2.mono fun _ _ e=>.inl e)
 have hX:M+1<w4.heap.size:=(n3.kn hq2 (.inr (.inr rfl))).lt
 obtain ⟨B,hB⟩:∃B,w4.heap.size=B:=⟨_,rfl⟩
 rw[hB] at T4 hX
 obtain ⟨w6,hw6⟩:∃w6,(w4.alloc (.cells #[.int .i64 0] 3)).alloc (.cells #[.int .i64 1] 3)=w6:=⟨_,rfl⟩
 have BL4:Below w4.heap.size w4 w6:=by rw[←hw6];exact bthen (b1 _ _) (by simp) (b1 _ _)
 rw[hw6] at T4
 have A1:=gb_gad 26 (itm (parA ks)) (((parA ks).len:Int) - itm (parA ks)) 0 s L 1 0 (by omega)
 have K1:Okg L ((parA ks).siz+(ks.siz - (parA ks).siz)) ((parA ks).z31+(ks.z31 - (parA ks).z31)) (gad 26 (itm (parA ks)) (((parA ks).len:Int) - itm (parA ks)) 0 s):=
  (Okg.step (y:=1) (z:=ks.siz) (f:=0) (g:=ks.z31) (hL.mono (by omega) (by omega)) A1).mono (by omega) (by omega)
 obtain ⟨s1,hs1⟩:∃s1,gad 26 (itm (parA ks)) (((parA ks).len:Int) - itm (parA ks)) 0 s=s1:=⟨_,rfl⟩
 obtain ⟨rz,hrz⟩:∃rz,ks.siz - (parA ks).siz=rz:=⟨_,rfl⟩
 obtain ⟨ry,hry⟩:∃ry,ks.z31 - (parA ks).z31=ry:=⟨_,rfl⟩
 rw[hs1] at T4 K1
 rw[hrz,hry] at K1
 have zR':(parR ks).len≠0→(parR ks).siz+1≤rz:=fun e=>by have:=zR e;omega
 have yR':(parR ks).z31≤ry:=by omega
 have hsR:(parR ks).siz≤N:=by omega
 have hRl:=(parR ks).len_siz
 have hE:Hid (tabG nd ks s=tabR nd ks (bat (flds nd (parA ks) 0 1 s1))):=by show _=_;unfold tabG;rw[hs1]
 have HT:Hid (Tw No b tx M B #[.int .i64 (k),.string ⟨(t).toArray⟩,.int .i64 (n),.int .i64 (p),.slice a ks.len c] 0 1 s1 W w6∧Rv w6 No a1 (parA ks)∧Rv w6 No a2 (parR ks)∧Okg L ((parA ks).siz+rz) ((parA ks).z31+ry) s1):=⟨T4,hv3.kn (.of_below BL4),hv4.kn (.of_below BL4),K1⟩
 have HA:Hid (parA ks= .nil∨∃g o,a1=some ⟨g,o,none⟩):=by
  cases hq:parA ks with
  | nil=>exact .inl rfl
  | cons k t n p ks' r'=>rw[hq] at hv3;obtain ⟨g,o,_,_,e,_⟩:=hv3.cons;exact .inr ⟨g,o,e⟩
 obtain ⟨r,hr⟩:∃r,parA ks=r:=⟨_,rfl⟩
 obtain ⟨fr,hfr⟩:∃fr,parR ks=fr:=⟨_,rfl⟩
 have hsA:r.siz≤N∧r.siz≤6000000:=by rw[←hr];exact ⟨by omega,by omega⟩
 have hrl:r.len≤r.siz:=by rw[←hr];exact hlA
 have hEF:Hid (∀x,tabR nd ks x=if fr.len=0 then x.1 else gad 29 x.2 0 0 (opn nd fr (gad 22 0 0 0 x.1))):=fun x=>by unfold tabR;rw[hfr]
 rw[hr] at HT HA wA hE⊢
 rw[hfr] at HT zR' yR' hsR wR hRl hl2⊢
 have hlen1:(parA ks).len=r.len:=by rw[hr]
 have hS4:(w4.alloc (.cells #[.int .i64 0] 3)).heap.size=B+1:=by rw[World.size_alloc,hB]
 clear C3 hq1 hq2 m3 n3 k3 v3 v4 T4 HG3 x0 hv3 hv4 K1 A1 hs1 hL zA yA zR hit hlA hrz hry hs hw hcc hr hfr hl1 BL4 x4
 rw[hlen1] at *
 clear hlen1
 go_wp2_with fail
 go_loopw [11,31] (fun _ iv wx=>∃(i:Nat) (q:F) (s':Gs) (wv kv:Int),iv= .int .i64 (i:Nat)∧i+q.len=r.len∧0≤wv∧wv≤49∧1≤kv∧kv+wv+(q.len:Int)≤(r.len:Int)+1∧Hid (Tw No b tx M B #[.int .i64 (k),.string ⟨(t).toArray⟩,.int .i64 (n),.int .i64 (p),.slice a ks.len c] wv kv s' W wx∧(∀g o,a1=some ⟨g,o,none⟩→Rv wx No (some ⟨g,o+i * 5,none⟩) q)∧Rv wx No a2 fr∧flds nd q wv kv s'=flds nd r 0 1 s1∧q.siz≤r.siz∧q.wfG L=true∧Okg L (q.siz+rz) (q.z31+ry) s')) (fun _ iv _=>r.len - (intOf iv).toNat)
 case atStart=>exact ⟨0,r,s1,0,1,rfl,by omega,by omega,by omega,by omega,by omega,HT.out.1,fun g o e=>by have:=HT.out.2.1;rw[e] at this;simpa using this,HT.out.2.2.1,rfl,Nat.le_refl _,wA,HT.out.2.2.2⟩
 case round=>
  clear HT
  obtain ⟨i,q,s',wv,kv,rfl,hi,hw0,hw1,hk0,hk1,HR⟩:=hrel
  cases q with
  | nil=>
    simp only[F.len] at hi hk1
    have h1:¬(i:Int)<(r.len:Int):=by omega
    obtain ⟨qT,-,qV,qE,-,-,qO⟩:=HR.out
    have hc:=qO.code
    have C:=store_any qT hN (by omega) (by omega) (by omega)
    have HK:Hid (flds nd r 0 1 s1=(s',wv,kv)∧Rv wr No a2 fr∧Kn No W wr):=⟨qE.symm,qV,qT.kn⟩
    obtain ⟨sB,hsB⟩:∃sB,(if 0<wv then gad 28 wv kv 0 s' else s')=sB:=⟨_,rfl⟩
    have HW:Hid (Gw L 0 0 1 s' sB):=by
     rw[←hsB]
     split
     ·exact gw_gad 28 wv kv 0 s' L
     ·exact (Gw.refl L s').mono (by omega) (by omega) (by omega)
    have HBt:Hid (bat (flds nd r 0 1 s1)=(sB,kv+wv)):=by show _=_;rw[HK.out.1];unfold bat;simp only;rw[hsB]
    rw[hsB] at C
    have HO:Hid (Okg L (0+rz) (0+ry) s'):=qO
    have HKT:Hid (∀w',Kn No W w'→Kn No W w'):=fun _ h=>h
    clear qT qV qE qO HR hsB
    by_cases hf0:fr.len=0
    ·have hf1:¬(fr.len:Int)>0:=by omega
     go_wp2_with fail
     refine C.mono ?_
     rintro e w7 ⟨rfl,T7,-⟩
     have HF:Hid (GP No b tx W (tabG nd ks s) (.returned (.tuple #[])) w7):=by
      show GP _ _ _ _ _ _ _
      rw[hE.out,HBt.out,hEF.out,if_pos hf0]
      exact ⟨rfl,T7.gk.less fun _ e=>.inl e,T7.kn⟩
     clear C T7 hf0
     go_wp2_with fail
     go_end0
     exact HF.out
    ·have hf1:(fr.len:Int)>0:=by omega
     have HF:Hid (tabG nd ks s=gad 29 (kv+wv) 0 0 (opn nd fr (gad 22 0 0 0 sB))):=by
      show _=_
      rw[hE.out,HBt.out,hEF.out,if_neg hf0]
     have hz1:=zR' hf0
     have O2:Okg L fr.siz fr.z31 (gad 22 0 0 0 sB):=(HO.out.mono (y:=1+fr.siz) (by omega) (Nat.le_refl _)).step ((HW.out.trans (gw_gad 22 0 0 0 sB L)).gb (z':=1) (f':=0) (by omega) (by omega) (by omega)) |>.mono (Nat.le_refl _) (by omega)
     have lB:sB.code.length≤100000000:=by have:=O2.code;have:=(gw_gad 22 0 0 0 sB L).cl;omega
     have l3:(opn nd fr (gad 22 0 0 0 sB)).code.length≤100000000:=by have:=(O2.mono (y:=fr.siz+0) (f:=fr.z31+0) (Nat.le_refl _) (Nat.le_refl _)).step (gb_opn H H8 fr _ wR) |>.code;omega
     have HR2:Hid (Rv wr No a2 fr∧Kn No W wr):=HK.out.2
     have HO2:Hid (Okg L fr.siz fr.z31 (gad 22 0 0 0 sB)):=O2
     clear HO HW hE hEF HK hf0 O2
     go_wp2_with fail
     refine C.mono ?_
     rintro e w7 ⟨rfl,T7,k7⟩
     have hv7:=HR2.out.1.kn k7
     have C4:=T7.gk.add0 22 lB
     have x7:=T7.seen.1
     have HT7:Hid _:=T7
     clear C T7 k7
     go_wp2_with fail
     refine C4.mono ?_
     rintro e w8 ⟨rfl,hq1,hq2⟩
     have T8:=HT7.out.to hq1 hq2
     have hv8:Rv w8 (fun g=>No g∨(g=M∨g=M+1∨g=B∨g=B+1)) a2 fr:=(hv7.kn (hq2.mono fun _ _ e=>.inl e)).mono fun _ e=>.inl e
     have C5:=open_any H CE CC _ b tx _ w8 a2 c2 fr hT T8.gk hv8 hsR wR hl2 HO2.out
     have x8:=T8.seen.1
     have HT8:Hid _:=T8
     clear C4 hq1 hq2 T8 HT7 hv7 hv8 x7
     go_wp2_with fail
     refine C5.mono ?_
     rintro e w9 ⟨rfl,hq1,hq2⟩
     have T9:=HT8.out.to hq1 hq2
     have C6:=T9.gk.add1 29 (kv+wv) l3
     obtain ⟨x9,-,x10,-,-⟩:=T9.seen
     have HT9:Hid _:=T9
     clear C5 hq1 hq2 T9 HT8 x8
     go_wp2_with fail
     refine C6.mono ?_
     rintro e w10 ⟨rfl,hq1,hq2⟩
     have T10:=HT9.out.to hq1 hq2
     have HG:Hid (GP No b tx W (tabG nd ks s) (.returned (.tuple #[])) w10):=by
      show GP _ _ _ _ _ _ _
      rw[HF.out]
      exact ⟨rfl,T10.gk.less fun _ e=>.inl e,T10.kn⟩
     clear C6 hq1 hq2 T10 HT9 HF
     go_wp2_with fail
     go_end0
     exact HG.out
  | cons kk t' n' p' ks' q'=>
    simp only[F.len] at hi hk1
    have h1:(i:Int)<(r.len:Int):=by omega
    have wi':IntKind.i64.wrap ((i:Int)+1)=(i:Int)+1:=by rw[IntKind.wrap_i64];omega
    have ww:IntKind.i64.wrap (wv+1)=wv+1:=by rw[IntKind.wrap_i64];omega
    obtain ⟨qT,qA,qV,qE,qS,qW,qO⟩:=HR.out
    obtain ⟨g,o,rfl⟩:∃g o,a1=some ⟨g,o,none⟩:=HA.out.resolve_left fun e=>by rw[e] at hi;simp only[F.len] at hi;omega
    obtain ⟨g',o',a',c',e1,hg,d0,d1,d2,d3,d4,hKs,hNx,hcc'⟩:=(qA g o rfl).cons
    injection e1 with e1
    injection e1 with e1 e2
    subst e1 e2
    rw[z31_cons] at qO
    simp only[F.siz] at qS qO
    obtain ⟨hf1,hf2⟩:=F.wfG_cons qW
    have wfk:=(F.wfG_one hf1).2.2.2
    have yk:ks'.z31≤(one kk t' n' p' ks').z31:=by simp only[one,F.z31];omega
    have hlk:=ks'.len_siz
    have X:=Bx.new wr 54 #[.int .i64 kk,.string ⟨t'.toArray⟩,.int .i64 n',.int .i64 p',.slice a' ks'.len c']
    have TA:=qT.alloc (.cells #[.int .i64 kk,.string ⟨t'.toArray⟩,.int .i64 n',.int .i64 p',.slice a' ks'.len c'] 54)
    have HNX:Hid (Rv (wr.alloc (.cells #[.int .i64 kk,.string ⟨t'.toArray⟩,.int .i64 n',.int .i64 p',.slice a' ks'.len c'] 54)) No (some ⟨g,o+i * 5+5,none⟩) q'∧Rv (wr.alloc (.cells #[.int .i64 kk,.string ⟨t'.toArray⟩,.int .i64 n',.int .i64 p',.slice a' ks'.len c'] 54)) No a2 fr):=⟨hNx.kn ((Kn.refl _ _).alloc _),qV.kn ((Kn.refl _ _).alloc _)⟩
    have hKs2:=hKs.kn ((Kn.refl No wr).alloc (.cells #[.int .i64 kk,.string ⟨t'.toArray⟩,.int .i64 n',.int .i64 p',.slice a' ks'.len c'] 54))
    obtain ⟨Y,hY⟩:∃Y,wr.heap.size=Y:=⟨_,rfl⟩
    have hYn:¬No Y:=fun q=>by have:=qT.gk.old Y (.inl q);omega
    have hYB:B+1<Y:=by rw[←hY];exact qT.bk.lt
    obtain ⟨wa,hwa⟩:∃wa,wr.alloc (.cells #[.int .i64 kk,.string ⟨t'.toArray⟩,.int .i64 n',.int .i64 p',.slice a' ks'.len c'] 54)=wa:=⟨_,rfl⟩
    rw[hwa] at X TA HNX hKs2
    rw[hY] at X
    have GA:Gk (fun g=>(No g∨(g=M∨g=M+1∨g=B∨g=B+1))∨g=Y) b tx s' wa:=by
     have q:=qT.gk.grow (b1 wr (.cells #[.int .i64 kk,.string ⟨t'.toArray⟩,.int .i64 n',.int .i64 p',.slice a' ks'.len c'] 54))
     rw[hwa] at q
     have e:wa.heap.size=Y+1:=by rw[←hwa];simp[hY]
     exact q.less fun g e=>e.elim .inl fun e=>.inr ⟨by omega,by omega⟩
    have CV:=values_any H CE _ b tx s' wa a' c' ks' hT GA (hKs2.mono fun _ e=>.inl (.inl e)) (by omega) wfk (qO.mono (by omega) (by omega))
    have GV:=gb_vls H ks' s' wfk
    have OV:Okg L (1+(q'.siz+rz)) (q'.z31+ry) (vls nd ks' s'):=(qO.mono (y:=ks'.siz+(1+(q'.siz+rz))) (f:=ks'.z31+(q'.z31+ry)) (by omega) (by omega)).step GV
    have lV:=OV.code
    have OV1:Okg L (q'.siz+rz) (q'.z31+ry) (vls nd ks' s'):=OV.mono (by omega) (Nat.le_refl _)
    have OVg:∀op x y z,Okg L (q'.siz+rz) (q'.z31+ry) (gad op x y z (vls nd ks' s')):=fun op x y z=>(OV.mono (f:=0+(q'.z31+ry)) (Nat.le_refl _) (by omega)).step (gb_gad op x y z _ L 1 0 (by omega))
    have HV:Hid (Okg L (q'.siz+rz) (q'.z31+ry) (vls nd ks' s')∧∀op x y z,Okg L (q'.siz+rz) (q'.z31+ry) (gad op x y z (vls nd ks' s'))):=⟨OV1,OVg⟩
    obtain ⟨xa,-⟩:=TA.seen
    have x4:=X.c 4 _ rfl
    have HX:Hid (Bx Y 54 #[.int .i64 kk,.string ⟨t'.toArray⟩,.int .i64 n',.int .i64 p',.slice a' ks'.len c'] wa):=X
    have HTA:Hid _:=TA
    have HEq:Hid (flds nd (F.cons kk t' n' p' ks' q') wv kv s'=flds nd r 0 1 s1):=qE
    clear qT qA qV qE qO HR hKs hNx hKs2 X TA GA GV OV OV1 OVg hEF hE HA zR' yR' hsR wR
    go_wp2_with fail
    refine CV.mono ?_
    rintro e wb ⟨rfl,hq1,hq2⟩
    have TB:=HTA.out.to (hq1.less fun _ e=>.inl e) (hq2.mono fun _ _ e=>.inl e)
    have XB:=HX.out.kn hq2 (.inr rfl)
    have hnb:=HNX.out.1.kn (hq2.mono fun _ _ e=>.inl (.inl e))
    have hvb:=HNX.out.2.kn (hq2.mono fun _ _ e=>.inl (.inl e))
    obtain ⟨xb,xw,xk,fw,fk⟩:=TB.seen
    have y0:=XB.c 0 _ rfl
    have HB:Hid (Rv wb No (some ⟨g,o+i * 5+5,none⟩) q'∧Rv wb No a2 fr):=⟨hnb,hvb⟩
    have HTB:Hid _:=TB
    clear CV hq1 hq2 TB XB hnb hvb HX HTA HNX x4 xa d0 d1 d2 d3 d4
    by_cases h14:kk=14
    ·subst h14
     have C2:=HTB.out.gk.add1 27 wv (by omega)
     have HE2:Hid (flds nd q' wv kv (gad 27 wv 0 0 (vls nd ks' s'))=flds nd r 0 1 s1):=by have q:=HEq.out;rw[flds_cons,if_pos rfl] at q;exact q
     clear HEq
     go_wp2_with fail
     refine C2.mono ?_
     rintro e wc ⟨rfl,hq1,hq2⟩
     have TC:=HTB.out.to hq1 hq2
     have HF:Hid (Tw No b tx M B #[.int .i64 (k),.string ⟨(t).toArray⟩,.int .i64 (n),.int .i64 (p),.slice a ks.len c] wv kv (gad 27 wv 0 0 (vls nd ks' s')) W wc∧(∀g' o',some (⟨g,o,none⟩:Addr)=some ⟨g',o',none⟩→Rv wc No (some ⟨g',o'+(i+1) * 5,none⟩) q')∧Rv wc No a2 fr∧flds nd q' wv kv (gad 27 wv 0 0 (vls nd ks' s'))=flds nd r 0 1 s1∧q'.siz≤r.siz∧q'.wfG L=true∧Okg L (q'.siz+rz) (q'.z31+ry) (gad 27 wv 0 0 (vls nd ks' s'))):=⟨TC,fun g' o' e=>by
      injection e with e
      injection e with e1 e2
      subst e1 e2
      rw[show o+(i+1) * 5=o+i * 5+5 by omega]
      exact HB.out.1.kn (hq2.mono fun _ _ e=>.inl e),HB.out.2.kn (hq2.mono fun _ _ e=>.inl e),HE2.out,by omega,hf2,HV.out.2 _ _ _ _⟩
     clear C2 hq1 hq2 TC HTB HB HE2 HV
     go_wp2
     refine ⟨⟨i+1,q',_,wv,kv,by go_num,by omega,hw0,hw1,hk0,by omega,HF.out⟩,?_⟩
     simp[intOf];omega
    ·have hk14:(kk==14)=false:=by simpa using h14
     have TW:=HTB.out.setW hN (wv+1)
     have HTW:Hid (Tw No b tx M B #[.int .i64 (k),.string ⟨(t).toArray⟩,.int .i64 (n),.int .i64 (p),.slice a ks.len c] (wv+1) kv (vls nd ks' s') W (wb.setCell ⟨B,0,none⟩ (.int .i64 (wv+1)))∧Kn No wb (wb.setCell ⟨B,0,none⟩ (.int .i64 (wv+1)))):=⟨TW,(Kn.refl No wb).setCell (fun q=>by have q1:=hN _ q;have q2:=TW.lt;omega) _⟩
     obtain ⟨za,zw,zk,-,-⟩:=TW.seen
     have HN:Hid (∀wc s'' wv' kv',Kn No wb wc→Tw No b tx M B #[.int .i64 (k),.string ⟨(t).toArray⟩,.int .i64 (n),.int .i64 (p),.slice a ks.len c] wv' kv' s'' W wc→flds nd q' wv' kv' s''=flds nd r 0 1 s1→Okg L (q'.siz+rz) (q'.z31+ry) s''→(Tw No b tx M B #[.int .i64 (k),.string ⟨(t).toArray⟩,.int .i64 (n),.int .i64 (p),.slice a ks.len c] wv' kv' s'' W wc∧(∀g' o',some (⟨g,o,none⟩:Addr)=some ⟨g',o',none⟩→Rv wc No (some ⟨g',o'+(i+1) * 5,none⟩) q')∧Rv wc No a2 fr∧flds nd q' wv' kv' s''=flds nd r 0 1 s1∧q'.siz≤r.siz∧q'.wfG L=true∧Okg L (q'.siz+rz) (q'.z31+ry) s'')):=fun wc s'' wv' kv' hk hT hE hO=>⟨hT,fun g' o' e=>by
      injection e with e
      injection e with e1 e2
      subst e1 e2
      rw[show o+(i+1) * 5=o+i * 5+5 by omega]
      exact HB.out.1.kn hk,HB.out.2.kn hk,hE,by omega,hf2,hO⟩
     by_cases h50:wv+1=50
     ·have HE2:Hid (flds nd q' 0 (kv+(wv+1)) (gad 28 (wv+1) kv 0 (vls nd ks' s'))=flds nd r 0 1 s1):=by have q:=HEq.out;rw[flds_cons,if_neg h14,if_pos h50] at q;exact q
      have C2:=store_any TW hN (by omega) (by omega) (by omega)
      rw[if_pos (by omega)] at C2
      obtain rfl:wv=49:=by omega
      clear HEq TW
      go_wp2_with fail
      refine C2.mono ?_
      rintro e wc ⟨rfl,TC,kC⟩
      have HF:=HN.out wc _ _ _ (HTW.out.2.trans kC) TC HE2.out (HV.out.2 _ _ _ _)
      have HF2:Hid _:=HF
      clear C2 TC kC HTB HB HE2 HV HF HN
      go_wp2
      refine ⟨⟨i+1,q',_,_,_,by go_num,by omega,by omega,by omega,by omega,by omega,HF2.out⟩,?_⟩
      simp[intOf];omega
     ·have HE2:Hid (flds nd q' (wv+1) kv (vls nd ks' s')=flds nd r 0 1 s1):=by have q:=HEq.out;rw[flds_cons,if_neg h14,if_neg h50] at q;exact q
      have e50:(wv+1==50)=false:=by simpa using h50
      have HF:=HN.out _ _ _ _ HTW.out.2 TW HE2.out HV.out.1
      have HF2:Hid _:=HF
      clear HF HN HE2 HEq TW HTB HB HV HTW
      go_wp2
      refine ⟨⟨i+1,q',_,_,_,by go_num,by omega,by omega,by omega,by omega,by omega,HF2.out⟩,?_⟩
      simp[intOf];omega
end Go.Proofs.YtkjbgggghigapaaGreat


namespace Go.Proofs.YtkjbgggghigapaaGreat
open Go.RowKit
set_option maxRecDepth 20000 in
set_option maxHeartbeats 4000000 in
theorem library_any (t:Tx) (w:World):Calls Tryz.prog 55 #[.string ⟨t.toArray⟩] w fun e w'=>e= .returned (.int .i64 (libN t))∧w'=w:=by
 by_cases h0:t=[112,114,105,110,116]
 ·subst h0
  rw[show libN [112,114,105,110,116]=1 from by decide]
  go_enter Tryz.func55,Tryz.ntmps55
  go_wp2
  go_ret
  exact ⟨rfl,rfl⟩
 by_cases h1:t=[116,121,112,101]
 ·subst h1
  rw[show libN [116,121,112,101]=2 from by decide]
  clear h0
  go_enter Tryz.func55,Tryz.ntmps55
  go_wp2
  go_ret
  exact ⟨rfl,rfl⟩
 by_cases h2:t=[116,111,115,116,114,105,110,103]
 ·subst h2
  rw[show libN [116,111,115,116,114,105,110,103]=3 from by decide]
  clear h0 h1
  go_enter Tryz.func55,Tryz.ntmps55
  go_wp2
  go_ret
  exact ⟨rfl,rfl⟩
 by_cases h3:t=[116,111,110,117,109,98,101,114]
 ·subst h3
  rw[show libN [116,111,110,117,109,98,101,114]=4 from by decide]
  clear h0 h1 h2
  go_enter Tryz.func55,Tryz.ntmps55
  go_wp2
  go_ret
  exact ⟨rfl,rfl⟩
 by_cases h4:t=[110,101,120,116]
 ·subst h4
  rw[show libN [110,101,120,116]=5 from by decide]
  clear h0 h1 h2 h3
  go_enter Tryz.func55,Tryz.ntmps55
  go_wp2
  go_ret
  exact ⟨rfl,rfl⟩
 by_cases h5:t=[112,97,105,114,115]
 ·subst h5
  rw[show libN [112,97,105,114,115]=6 from by decide]
  clear h0 h1 h2 h3 h4
  go_enter Tryz.func55,Tryz.ntmps55
  go_wp2
  go_ret
  exact ⟨rfl,rfl⟩
 by_cases h6:t=[105,112,97,105,114,115]
 ·subst h6
  rw[show libN [105,112,97,105,114,115]=7 from by decide]
  clear h0 h1 h2 h3 h4 h5
  go_enter Tryz.func55,Tryz.ntmps55
  go_wp2
  go_ret
  exact ⟨rfl,rfl⟩
 by_cases h7:t=[114,97,119,108,101,110]
 ·subst h7
  rw[show libN [114,97,119,108,101,110]=8 from by decide]
  clear h0 h1 h2 h3 h4 h5 h6
  go_enter Tryz.func55,Tryz.ntmps55
  go_wp2
  go_ret
  exact ⟨rfl,rfl⟩
 by_cases h8:t=[115,116,97,116,115]
 ·subst h8
  rw[show libN [115,116,97,116,115]=9 from by decide]
  clear h0 h1 h2 h3 h4 h5 h6 h7
  go_enter Tryz.func55,Tryz.ntmps55
  go_wp2
  go_ret
  exact ⟨rfl,rfl⟩
 by_cases h9:t=[112,114,111,98,101,115]
 ·subst h9
  rw[show libN [112,114,111,98,101,115]=10 from by decide]
  clear h0 h1 h2 h3 h4 h5 h6 h7 h8
  go_enter Tryz.func55,Tryz.ntmps55
  go_wp2
  go_ret
  exact ⟨rfl,rfl⟩
 by_cases h10:t=[116,97,98,108,101,46,105,110,115,101,114,116]
 ·subst h10
  rw[show libN [116,97,98,108,101,46,105,110,115,101,114,116]=12 from by decide]
  clear h0 h1 h2 h3 h4 h5 h6 h7 h8 h9
  go_enter Tryz.func55,Tryz.ntmps55
  go_wp2
  go_ret
  exact ⟨rfl,rfl⟩
 by_cases h11:t=[116,97,98,108,101,46,114,101,109,111,118,101]
 ·subst h11
  rw[show libN [116,97,98,108,101,46,114,101,109,111,118,101]=13 from by decide]
  clear h0 h1 h2 h3 h4 h5 h6 h7 h8 h9 h10
  go_enter Tryz.func55,Tryz.ntmps55
  go_wp2
  go_ret
  exact ⟨rfl,rfl⟩
 by_cases h12:t=[116,97,98,108,101,46,99,111,110,99,97,116]
 ·subst h12
  rw[show libN [116,97,98,108,101,46,99,111,110,99,97,116]=14 from by decide]
  clear h0 h1 h2 h3 h4 h5 h6 h7 h8 h9 h10 h11
  go_enter Tryz.func55,Tryz.ntmps55
  go_wp2
  go_ret
  exact ⟨rfl,rfl⟩
 by_cases h13:t=[116,97,98,108,101,46,117,110,112,97,99,107]
 ·subst h13
  rw[show libN [116,97,98,108,101,46,117,110,112,97,99,107]=15 from by decide]
  clear h0 h1 h2 h3 h4 h5 h6 h7 h8 h9 h10 h11 h12
  go_enter Tryz.func55,Tryz.ntmps55
  go_wp2
  go_ret
  exact ⟨rfl,rfl⟩
 by_cases h14:t=[116,97,98,108,101,46,109,111,118,101]
 ·subst h14
  rw[show libN [116,97,98,108,101,46,109,111,118,101]=16 from by decide]
  clear h0 h1 h2 h3 h4 h5 h6 h7 h8 h9 h10 h11 h12 h13
  go_enter Tryz.func55,Tryz.ntmps55
  go_wp2
  go_ret
  exact ⟨rfl,rfl⟩
 by_cases h15:t=[116,97,98,108,101,46,115,111,114,116]
 ·subst h15
  rw[show libN [116,97,98,108,101,46,115,111,114,116]=17 from by decide]
  clear h0 h1 h2 h3 h4 h5 h6 h7 h8 h9 h10 h11 h12 h13 h14
  go_enter Tryz.func55,Tryz.ntmps55
  go_wp2
  go_ret
  exact ⟨rfl,rfl⟩
 by_cases h16:t=[117,116,102,56,46,108,101,110]
 ·subst h16
  rw[show libN [117,116,102,56,46,108,101,110]=18 from by decide]
  clear h0 h1 h2 h3 h4 h5 h6 h7 h8 h9 h10 h11 h12 h13 h14 h15
  go_enter Tryz.func55,Tryz.ntmps55
  go_wp2
  go_ret
  exact ⟨rfl,rfl⟩
 by_cases h17:t=[117,116,102,56,46,99,104,97,114]
 ·subst h17
  rw[show libN [117,116,102,56,46,99,104,97,114]=19 from by decide]
  clear h0 h1 h2 h3 h4 h5 h6 h7 h8 h9 h10 h11 h12 h13 h14 h15 h16
  go_enter Tryz.func55,Tryz.ntmps55
  go_wp2
  go_ret
  exact ⟨rfl,rfl⟩
 by_cases h18:t=[117,116,102,56,46,99,111,100,101,112,111,105,110,116]
 ·subst h18
  rw[show libN [117,116,102,56,46,99,111,100,101,112,111,105,110,116]=20 from by decide]
  clear h0 h1 h2 h3 h4 h5 h6 h7 h8 h9 h10 h11 h12 h13 h14 h15 h16 h17
  go_enter Tryz.func55,Tryz.ntmps55
  go_wp2
  go_ret
  exact ⟨rfl,rfl⟩
 by_cases h19:t=[117,116,102,56,46,111,102,102,115,101,116]
 ·subst h19
  rw[show libN [117,116,102,56,46,111,102,102,115,101,116]=21 from by decide]
  clear h0 h1 h2 h3 h4 h5 h6 h7 h8 h9 h10 h11 h12 h13 h14 h15 h16 h17 h18
  go_enter Tryz.func55,Tryz.ntmps55
  go_wp2
  go_ret
  exact ⟨rfl,rfl⟩
 by_cases h20:t=[117,116,102,56,46,99,111,100,101,115]
 ·subst h20
  rw[show libN [117,116,102,56,46,99,111,100,101,115]=22 from by decide]
  clear h0 h1 h2 h3 h4 h5 h6 h7 h8 h9 h10 h11 h12 h13 h14 h15 h16 h17 h18 h19
  go_enter Tryz.func55,Tryz.ntmps55
  go_wp2
  go_ret
  exact ⟨rfl,rfl⟩
 have hv:libN t=0:=by
  unfold libN libL
  simp only[libG]
  rw[if_neg h0,if_neg h1,if_neg h2,if_neg h3,if_neg h4,if_neg h5,if_neg h6,if_neg h7,if_neg h8,if_neg h9,if_neg h10,if_neg h11,if_neg h12,if_neg h13,if_neg h14,if_neg h15,if_neg h16,if_neg h17,if_neg h18,if_neg h19,if_neg h20]
 rw[hv]
 have g0:(t==[112,114,105,110,116])=false:=by simpa using h0
 have g1:(t==[116,121,112,101])=false:=by simpa using h1
 have g2:(t==[116,111,115,116,114,105,110,103])=false:=by simpa using h2
 have g3:(t==[116,111,110,117,109,98,101,114])=false:=by simpa using h3
 have g4:(t==[110,101,120,116])=false:=by simpa using h4
 have g5:(t==[112,97,105,114,115])=false:=by simpa using h5
 have g6:(t==[105,112,97,105,114,115])=false:=by simpa using h6
 have g7:(t==[114,97,119,108,101,110])=false:=by simpa using h7
 have g8:(t==[115,116,97,116,115])=false:=by simpa using h8
 have g9:(t==[112,114,111,98,101,115])=false:=by simpa using h9
 have g10:(t==[116,97,98,108,101,46,105,110,115,101,114,116])=false:=by simpa using h10
 have g11:(t==[116,97,98,108,101,46,114,101,109,111,118,101])=false:=by simpa using h11
 have g12:(t==[116,97,98,108,101,46,99,111,110,99,97,116])=false:=by simpa using h12
 have g13:(t==[116,97,98,108,101,46,117,110,112,97,99,107])=false:=by simpa using h13
 have g14:(t==[116,97,98,108,101,46,109,111,118,101])=false:=by simpa using h14
 have g15:(t==[116,97,98,108,101,46,115,111,114,116])=false:=by simpa using h15
 have g16:(t==[117,116,102,56,46,108,101,110])=false:=by simpa using h16
 have g17:(t==[117,116,102,56,46,99,104,97,114])=false:=by simpa using h17
 have g18:(t==[117,116,102,56,46,99,111,100,101,112,111,105,110,116])=false:=by simpa using h18
 have g19:(t==[117,116,102,56,46,111,102,102,115,101,116])=false:=by simpa using h19
 have g20:(t==[117,116,102,56,46,99,111,100,101,115])=false:=by simpa using h20
 go_enter Tryz.func55,Tryz.ntmps55
 go_wp2
 go_ret
 exact ⟨rfl,rfl⟩
set_option maxRecDepth 20000 in
set_option maxHeartbeats 4000000 in
theorem ixkept_any (No:Nat→Prop) (w:World) (k:Int) (t:Tx) (n p:Int) (a:Option Addr) (c:Nat) (ks:F) (hr:Rv w No a ks) (hk:k=7→1≤ks.len):
 Calls Tryz.prog 54 #[(.agg #[.int .i64 (k),.string ⟨(t).toArray⟩,.int .i64 (n),.int .i64 (p),.slice a ks.len c])] w fun e w'=>e= .returned (.bool (ixk k ks))∧Below w.heap.size w w':=by
 have B0:=(Below.refl w.heap.size w).alloc (Nat.le_refl _) (.cells #[.int .i64 (k),.string ⟨(t).toArray⟩,.int .i64 (n),.int .i64 (p),.slice a ks.len c] 54)
 have X0:=Bx.new w 54 #[.int .i64 k,.string ⟨t.toArray⟩,.int .i64 n,.int .i64 p,.slice a ks.len c]
 have hr1:=hr.keep B0.size fun g hg hl=>B0.block g hl
 obtain ⟨W1,hW1⟩:∃W1,w.alloc (.cells #[.int .i64 (k),.string ⟨(t).toArray⟩,.int .i64 (n),.int .i64 (p),.slice a ks.len c] 54)=W1:=⟨_,rfl⟩
 rw[hW1] at B0 X0 hr1
 obtain ⟨p0,p1,p2,p3,p4⟩:=X0.five
 have HB:Hid (Below w.heap.size w W1):=B0
 clear B0 X0 hr
 by_cases h7:k=7
 ·subst h7
  cases ks with
  | nil=>simp[F.len] at hk
  | cons k2 t2 n2 p2 ks2 r=>
    obtain ⟨g',o',a',c',rfl,hg,c0,c1,c2,c3,c4,hKs,hNx,hcc⟩:=hr1.cons
    have hl:(0:Int)<((F.cons k2 t2 n2 p2 ks2 r).len:Int):=by simp only[F.len];omega
    have hl2:0<(F.cons k2 t2 n2 p2 ks2 r).len:=by simp only[F.len];omega
    by_cases h6:k2=6
    ·subst h6
     have hv:ixk 7 (F.cons 6 t2 n2 p2 ks2 r)=kep t2:=by simp[ixk,F.get?]
     rw[hv]
     have K:=kept_any t2 W1
     generalize (F.cons 6 t2 n2 p2 ks2 r).len=l at *
     clear hr1 hKs hNx hv hk
     go_enter Tryz.func54,Tryz.ntmps54
     go_wp2_with fail
     refine K.mono ?_
     rintro e w2 ⟨rfl,hw⟩
     rw[hw]
     go_wp2
     go_ret
     exact ⟨rfl,HB.out⟩
    ·have hv:ixk 7 (F.cons k2 t2 n2 p2 ks2 r)=false:=by simp[ixk,F.get?,h6]
     rw[hv]
     have h6b:(k2==6)=false:=by simpa using h6
     generalize (F.cons k2 t2 n2 p2 ks2 r).len=l at *
     clear hr1 hKs hNx hv hk
     go_enter Tryz.func54,Tryz.ntmps54
     go_wp2
     go_ret
     exact ⟨rfl,HB.out⟩
 ·have hv:ixk k ks=false:=by simp[ixk,h7]
  have h7b:(k==7)=false:=by simpa using h7
  rw[hv]
  clear hr1 hv hk
  go_enter Tryz.func54,Tryz.ntmps54
  go_wp2
  go_ret
  exact ⟨rfl,HB.out⟩
end Go.Proofs.YtkjbgggghigapaaGreat


namespace Go.Proofs.YtkjbgggghigapaaGreat
open Go.RowKit
set_option maxRecDepth 20000 in
set_option maxHeartbeats 8000000 in
theorem libN_any {L:Tx} {w:World} {P:Nat→Prop} (k:Int) (t:Tx) (n p:Int) (a:Option Addr) (c:Nat) (ks:F) (hr:Rv w P a ks) (hw:ks.wfG L=true) (h2:2≤ks.len):
 Calls Tryz.prog 146 #[(.agg #[.int .i64 (k),.string ⟨(t).toArray⟩,.int .i64 (n),.int .i64 (p),.slice a ks.len c])] w fun e w'=>e= .returned (.int .i64 (libX ks))∧Below w.heap.size w w':=by
 obtain ⟨⟨k0,t0,n0,p0,ks0⟩,g0⟩:=ks.get_some 0 (by omega)
 obtain ⟨⟨k1,t1,n1,p1,ks1⟩,g1⟩:=ks.get_some 1 (by omega)
 have ht0:=(F.wfG_one (F.wfG_get ks 0 hw g0)).2.2.1
 have ht1:=(F.wfG_one (F.wfG_get ks 1 hw g1)).2.2.1
 have hs1:¬9223372036854775807<t0.length+1+t1.length:=by omega
 have hs2:¬9223372036854775807<t0.length+1:=by omega
 have hX:libX ks=if k0=6∧k1=5 then libN (t0++[46]++t1) else 0:=by unfold libX;rw[g0,g1];rfl
 rw[hX]
 obtain ⟨lx,hlx⟩:∃lx,(if k0=6∧k1=5 then libN (t0++[46]++t1) else 0)=lx:=⟨_,rfl⟩
 rw[hlx]
 have HLX:Hid ((if k0=6∧k1=5 then libN (t0++[46]++t1) else 0)=lx):=hlx
 clear hlx
 obtain ⟨g,o,a0,c0,rfl,hg,d0,d1,d2,d3,d4,_,_⟩:=Rv.nth ks 0 hr g0
 obtain ⟨g',o',a1,c1,e1,_,r0,r1,r2,r3,r4,_,_⟩:=Rv.nth ks 1 hr g1
 cases e1
 simp only[Nat.zero_mul,Nat.add_zero,Nat.one_mul] at d0 d1 d2 d3 d4 r0 r1 r2 r3 r4
 have HS:Hid (∀W,Below w.heap.size w W→(W.cell? ⟨g,o,none⟩=some (.int .i64 k0)∧W.cell? ⟨g,o+1,none⟩=some (.string ⟨t0.toArray⟩)∧W.cell? ⟨g,o+2,none⟩=some (.int .i64 n0)∧W.cell? ⟨g,o+3,none⟩=some (.int .i64 p0)∧W.cell? ⟨g,o+4,none⟩=some (.slice a0 ks0.len c0))∧
  W.cell? ⟨g,o+5,none⟩=some (.int .i64 k1)∧W.cell? ⟨g,o+5+1,none⟩=some (.string ⟨t1.toArray⟩)∧W.cell? ⟨g,o+5+2,none⟩=some (.int .i64 n1)∧W.cell? ⟨g,o+5+3,none⟩=some (.int .i64 p1)∧W.cell? ⟨g,o+5+4,none⟩=some (.slice a1 ks1.len c1)):=fun W b=>by
  have e:∀x,W.cell? ⟨g,x,none⟩=w.cell? ⟨g,x,none⟩:=fun x=>World.cell?_of_block (w:=w) (b.block g hg)
  exact ⟨⟨(e _).trans d0,(e _).trans d1,(e _).trans d2,(e _).trans d3,(e _).trans d4⟩,(e _).trans r0,(e _).trans r1,(e _).trans r2,(e _).trans r3,(e _).trans r4⟩
 have h1':(0:Int)<(ks.len:Int):=by omega
 have h1n:0<ks.len:=by omega
 have h2n:1<ks.len:=by omega
 have h2':(1:Int)<(ks.len:Int):=by omega
 have eB:(⟨t0.toArray⟩:ByteArray)++⟨#[46]⟩++⟨t1.toArray⟩=⟨(t0++[46]++t1).toArray⟩:=by
  apply ByteArray.ext
  simp[ByteArray.data_append]
 have CL:∀W,Calls Tryz.prog 55 #[.string ((⟨t0.toArray⟩:ByteArray)++⟨#[46]⟩++⟨t1.toArray⟩)] W fun e w'=>e= .returned (.int .i64 (libN (t0++[46]++t1)))∧w'=W:=fun W=>by rw[eB];exact library_any _ W
 have B:=Bx.new w 54 #[.int .i64 k,.string ⟨t.toArray⟩,.int .i64 n,.int .i64 p,.slice (some ⟨g,o,none⟩) ks.len c]
 have b1:Below w.heap.size w (w.alloc (.cells #[.int .i64 (k),.string ⟨(t).toArray⟩,.int .i64 (n),.int .i64 (p),.slice (some ⟨g,o,none⟩) ks.len c] 54)):=(Below.refl _ w).alloc (Nat.le_refl _) _
 obtain ⟨X,hXX⟩:∃X,w.heap.size=X:=⟨_,rfl⟩
 obtain ⟨W1,hW1⟩:∃W1,w.alloc (.cells #[.int .i64 (k),.string ⟨(t).toArray⟩,.int .i64 (n),.int .i64 (p),.slice (some ⟨g,o,none⟩) ks.len c] 54)=W1:=⟨_,rfl⟩
 rw[hXX,hW1] at B b1
 rw[hXX] at HS⊢
 have HB1:Hid (Below X w W1):=b1
 have HSS:Hid (∀W,Below W1.heap.size W1 W→W.cell? ⟨X,4,none⟩=some (.slice (some ⟨g,o,none⟩) ks.len c)∧(W.cell? ⟨g,o,none⟩=some (.int .i64 k0)∧W.cell? ⟨g,o+1,none⟩=some (.string ⟨t0.toArray⟩)∧W.cell? ⟨g,o+2,none⟩=some (.int .i64 n0)∧W.cell? ⟨g,o+3,none⟩=some (.int .i64 p0)∧W.cell? ⟨g,o+4,none⟩=some (.slice a0 ks0.len c0))∧
  W.cell? ⟨g,o+5,none⟩=some (.int .i64 k1)∧W.cell? ⟨g,o+5+1,none⟩=some (.string ⟨t1.toArray⟩)∧W.cell? ⟨g,o+5+2,none⟩=some (.int .i64 n1)∧W.cell? ⟨g,o+5+3,none⟩=some (.int .i64 p1)∧W.cell? ⟨g,o+5+4,none⟩=some (.slice a1 ks1.len c1)):=fun W b=>by
  refine ⟨(B.below b).c 4 _ rfl,HS.out W (b1.trans ⟨b.os,b.tape,b.output,b.size,fun i hi=>b.block i (Nat.lt_of_lt_of_le hi (by have:=b1.size;omega))⟩)⟩
 have hsx:X<W1.heap.size:=B.lt
 have HSB:Hid (∀W,Below W1.heap.size W1 W→Below X w W):=fun W b=>b1.trans ⟨b.os,b.tape,b.output,b.size,fun i hi=>b.block i (Nat.lt_of_lt_of_le hi (by have:=b1.size;omega))⟩
 clear eB hX d0 d1 d2 d3 d4 r0 r1 r2 r3 r4 hr g0 g1 B b1 HS hg
 go_enter Tryz.func146,Tryz.ntmps146
 go_wp2_with fail
 go_region_held3 (fun W=>W.cell? ⟨X,4,none⟩=some (.slice (some ⟨g,o,none⟩) ks.len c)∧(W.cell? ⟨g,o,none⟩=some (.int .i64 k0)∧W.cell? ⟨g,o+1,none⟩=some (.string ⟨t0.toArray⟩)∧W.cell? ⟨g,o+2,none⟩=some (.int .i64 n0)∧W.cell? ⟨g,o+3,none⟩=some (.int .i64 p0)∧W.cell? ⟨g,o+4,none⟩=some (.slice a0 ks0.len c0))∧
  W.cell? ⟨g,o+5,none⟩=some (.int .i64 k1)∧W.cell? ⟨g,o+5+1,none⟩=some (.string ⟨t1.toArray⟩)∧W.cell? ⟨g,o+5+2,none⟩=some (.int .i64 n1)∧W.cell? ⟨g,o+5+3,none⟩=some (.int .i64 p1)∧W.cell? ⟨g,o+5+4,none⟩=some (.slice a1 ks1.len c1))
  (exact HSS.out _ (by repeat (first | exact Below.refl _ _ | refine Below.drew ?_ | refine Below.alloc ?_ (by simp) _ | refine Below.setCell ?_ (by simp) _)))
  (fail)
 all_goals
  by_cases q0:k0=6
  ·by_cases q1:k1=5
   ·have el:libN (t0++[46]++t1)=lx:=by rw[←HLX.out,if_pos ⟨q0,q1⟩]
    simp only[el] at CL
    clear el
    subst q0 q1
    go_wp2_with fail
    refine (CL _).mono ?_
    rintro e w2 ⟨rfl,rfl⟩
    go_wp2
    go_ret
    exact ⟨rfl,HSB.out _ (by repeat (first | exact Below.refl _ _ | refine Below.drew ?_ | refine Below.alloc ?_ (by simp) _ | refine Below.setCell ?_ (by simp) _))⟩
   ·have el:lx=0:=by rw[←HLX.out,if_neg (fun z=>q1 z.2)]
    subst el
    subst q0
    have hb1:(k1==5)=false:=by simpa using q1
    have hb2:(k1 !=5)=true:=by simpa using q1
    clear q1
    go_wp2_with fail
    go_ret
    exact ⟨rfl,HSB.out _ (by repeat (first | exact Below.refl _ _ | refine Below.drew ?_ | refine Below.alloc ?_ (by simp) _ | refine Below.setCell ?_ (by simp) _))⟩
  ·have el:lx=0:=by rw[←HLX.out,if_neg (fun z=>q0 z.1)]
   subst el
   have hb1:(k0==6)=false:=by simpa using q0
   have hb2:(k0 !=6)=true:=by simpa using q0
   clear q0
   go_wp2_with fail
   go_ret
   exact ⟨rfl,HSB.out _ (by repeat (first | exact Below.refl _ _ | refine Below.drew ?_ | refine Below.alloc ?_ (by simp) _ | refine Below.setCell ?_ (by simp) _))⟩
end Go.Proofs.YtkjbgggghigapaaGreat


namespace Go.Proofs.YtkjbgggghigapaaGreat
open Go.RowKit
set_option maxRecDepth 20000 in
set_option maxHeartbeats 8000000 in
theorem g_index_any {L:Tx} {N:Nat} {nd:Jg→Ndg} (H:GG L (nd .val)) (CE:GN 109 L N (nd .val)) (No:Nat→Prop) (b:Nat) (tx:Tx) (s:Gs) (W:World) (k:Int) (t:Tx) (n p:Int) (a:Option Addr) (c:Nat) (ks:F) (hT:Hid (tx=L)) (h:Gk No b tx s W) (hr:Rv W No a ks) (hs:ks.siz≤N) (hw:ks.wfG L=true) (h2:2≤ks.len) (hL:Okg L (ks.siz+1) ks.z31 s):
 Calls Tryz.prog 132 #[.pointer (some ⟨b,0,none⟩),(.agg #[.int .i64 (k),.string ⟨(t).toArray⟩,.int .i64 (n),.int .i64 (p),.slice a ks.len c])] W (GP No b tx W (idxG nd ks s)):=by
 have l1:=hL.code
 have B:=h.gy #[.int .i64 k,.string ⟨t.toArray⟩,.int .i64 n,.int .i64 p,.slice a ks.len c]
 obtain ⟨X,hX⟩:∃X,W.heap.size=X:=⟨_,rfl⟩
 obtain ⟨W1,hW1⟩:∃W1,W.alloc (.cells #[.int .i64 (k),.string ⟨(t).toArray⟩,.int .i64 (n),.int .i64 (p),.slice a ks.len c] 54)=W1:=⟨_,rfl⟩
 rw[hX,hW1] at B
 have C1:=libN_any k t n p a c ks (B.rv hr) hw h2
 obtain ⟨x0,x1,x2,x3,x4⟩:=B.bx.five
 have HB:Hid (Gy No b tx s W X #[.int .i64 k,.string ⟨t.toArray⟩,.int .i64 n,.int .i64 p,.slice a ks.len c] W1):=B
 have HR:Hid (Rv W No a ks):=hr
 have hok3:Okg L 1 0 (vls nd ks s):=Okg.step (y:=ks.siz) (f:=ks.z31) (hL.mono (by omega) (by omega)) (gb_vls H ks s hw)
 have l3:=hok3.code
 have CV:=fun w (hg:Gk (fun g=>No g∨g=X) b tx s w) (hk:Rv w (fun g=>No g∨g=X) a ks)=>values_any H CE (fun g=>No g∨g=X) b tx s w a c ks hT hg hk hs hw (hL.mono (by omega) (by omega))
 have hE:idxG nd ks s=if 0<libX ks then gad 10 (libX ks) 0 0 s else gad 12 0 0 0 (vls nd ks s):=rfl
 rw[hE]
 generalize libX ks=lx at *
 clear h hr B hE hok3 hL hs hw CE H
 by_cases hx:0<lx
 ·rw[if_pos hx]
  go_enter Tryz.func132,Tryz.ntmps132
  go_wp2_with fail
  refine C1.mono ?_
  rintro e w2 ⟨rfl,hb⟩
  have D2:=HB.out.below hb
  have HD2:Hid _:=D2
  have C2:=D2.gk.add1 10 lx (by omega)
  clear D2 C1 CV hb
  go_wp2_with fail
  refine C2.mono ?_
  rintro e w3 ⟨rfl,hq1,hq2⟩
  have H5:Hid _:=(HD2.out.to hq1 hq2).out
  go_wp2
  go_end0
  exact ⟨rfl,H5.out.2⟩
 ·rw[if_neg hx]
  go_enter Tryz.func132,Tryz.ntmps132
  go_wp2_with fail
  refine C1.mono ?_
  rintro e w2 ⟨rfl,hb⟩
  have D2:=HB.out.below hb
  have HD2:Hid _:=D2
  have C2:=CV w2 D2.gk (D2.rv HR.out)
  obtain ⟨x0,x1,x2,x3,x4⟩:=D2.bx.five
  clear D2 C1 CV hb
  go_wp2_with fail
  refine C2.mono ?_
  rintro e w3 hq
  have D3:=HD2.out.step hq
  obtain ⟨rfl,-⟩:=hq
  have C3:=D3.gk.add0 12 (by omega)
  have HD3:Hid _:=D3
  clear D3 C2 HD2
  go_wp2_with fail
  refine C3.mono ?_
  rintro e w4 ⟨rfl,hq1,hq2⟩
  have H5:Hid _:=(HD3.out.to hq1 hq2).out
  go_wp2
  go_end0
  exact ⟨rfl,H5.out.2⟩
end Go.Proofs.YtkjbgggghigapaaGreat
