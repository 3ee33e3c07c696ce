import Derived.Test.YtkjbgggghigapaaGreatCg06
import Derived.Deep.DeepCutAuto
import Derived.Test.YtkjbgggghigapaaGreatCg03
import Derived.Test.YtkjbgggghigapaaGreatCg00
import Derived.Test.YtkjbgggghigapaaGreatCg05
namespace Go.Proofs.YtkjbgggghigapaaGreat
open Go.RowKit
theorem GK.appL {No:Nat→Prop} {b:Nat} {t:Tx} {x:Gx} {s:Gs} {w w1 w3:World} {ys:List Tx} {g' cc:Nat} (h:GK No b t x s w) (hb:Below w.heap.size w w1) (hown:w3.ownsRow 0 9 1 (.slice (some ⟨g',0,none⟩) (s.lo.length+ys.length) cc) (s.lo.length+ys.length) (strs s.lo++strs ys))
 (hg3:w1.grownBy w3 x.vL.ownBlock) (hat:x.vL.ownBlock=some g'∨g'=w1.heap.size):Gk No b t {s with lo:=s.lo++ys} (w3.setCell ⟨b,2,none⟩ (.slice (some ⟨g',0,none⟩) (s.lo.length+ys.length) cc))∧Kn No w (w3.setCell ⟨b,2,none⟩ (.slice (some ⟨g',0,none⟩) (s.lo.length+ys.length) cc)):=by
 have s1:=hb.size
 have s3:=hg3.size
 have h1:=h.at h.lL (g':=g') (hat.imp id fun e=>by omega)
 generalize hlab:(fun g=>if g=g' then 5 else x.lab g)=lab' at h1
 have hl':lab' g'=5:=by rw[←hlab];exact if_pos rfl
 have hbg:g'≠b:=fun e=>by have:=h1.lb;rw[←e] at this;simp only at this;omega
 have k0:Tg {x with lab:=lab'} (fun l=>l=5) w w3:=((Tg.refl _ _ w).below hb).trans (Tg.app hg3 h1.lL rfl)
 have k:Tg {x with lab:=lab'} (fun l=>l=2∨l=5) w (w3.setCell ⟨b,2,none⟩ (.slice (some ⟨g',0,none⟩) (s.lo.length+ys.length) cc)):=(k0.mono fun _ e=>.inr e).set (.inl h1.lb) _
 have hb3:Bx b 101 (mcl x s) w3:=h1.mx' k0 (by omega)
 refine ⟨⟨{x with vL:= .slice (some ⟨g',0,none⟩) (s.lo.length+ys.length) cc,lab:=lab'},?_⟩,?_⟩
 ·refine ⟨h1.sx' k (by omega),hb3.put (j:=2) _,h1.ur' k (by omega),?_,h1.br' k (by omega),h1.mp' k (by omega),fun i _ _ hu hv=>h1.cr' k (by omega) hu hv,fun i _ _ hu hv=>h1.kr' k (by omega) hu hv,h.cl,h.kl,h.ub,h1.lS,h1.lb,h1.lU,h1.lm,fun g hg=>?_,h1.lB,h1.lc,h1.lk,h1.no' k.size,h.cu,h.gh⟩
  ·have e1:strs (s.lo++ys)=strs s.lo++strs ys:=by simp[strs]
   rw[List.length_append,e1]
   exact own_set hown (fun g hg=>by have e2:g'=g:=by simpa [Value.ownBlock] using hg
                                    omega) _
  ·have e2:g'=g:=by simpa [Value.ownBlock] using hg
   rw[←e2];exact hl'
 ·refine ⟨hg3.os.trans hb.os,hg3.tape.trans hb.tape,hg3.output.trans hb.output,k.size,fun g hg hn=>k.block g hg ?_⟩
  rw[(h1.no g hn).2];simp
theorem GK.appB {No:Nat→Prop} {b:Nat} {t:Tx} {x:Gx} {s:Gs} {w w1 w3:World} {ys:List Int} {g' cc:Nat} (h:GK No b t x s w) (hb:Below w.heap.size w w1) (hown:w3.ownsRow 0 3 1 (.slice (some ⟨g',0,none⟩) (s.br.length+ys.length) cc) (s.br.length+ys.length) (nts s.br++nts ys))
 (hg3:w1.grownBy w3 x.vB.ownBlock) (hat:x.vB.ownBlock=some g'∨g'=w1.heap.size):Gk No b t {s with br:=s.br++ys} (w3.setCell ⟨b,3,none⟩ (.slice (some ⟨g',0,none⟩) (s.br.length+ys.length) cc))∧Kn No w (w3.setCell ⟨b,3,none⟩ (.slice (some ⟨g',0,none⟩) (s.br.length+ys.length) cc)):=by
 have s1:=hb.size
 have s3:=hg3.size
 have h1:=h.at h.lB (g':=g') (hat.imp id fun e=>by omega)
 generalize hlab:(fun g=>if g=g' then 6 else x.lab g)=lab' at h1
 have hl':lab' g'=6:=by rw[←hlab];exact if_pos rfl
 have hbg:g'≠b:=fun e=>by have:=h1.lb;rw[←e] at this;simp only at this;omega
 have k0:Tg {x with lab:=lab'} (fun l=>l=6) w w3:=((Tg.refl _ _ w).below hb).trans (Tg.app hg3 h1.lB rfl)
 have k:Tg {x with lab:=lab'} (fun l=>l=2∨l=6) w (w3.setCell ⟨b,3,none⟩ (.slice (some ⟨g',0,none⟩) (s.br.length+ys.length) cc)):=(k0.mono fun _ e=>.inr e).set (.inl h1.lb) _
 have hb3:Bx b 101 (mcl x s) w3:=h1.mx' k0 (by omega)
 refine ⟨⟨{x with vB:= .slice (some ⟨g',0,none⟩) (s.br.length+ys.length) cc,lab:=lab'},?_⟩,?_⟩
 ·refine ⟨h1.sx' k (by omega),hb3.put (j:=3) _,h1.ur' k (by omega),h1.lr' k (by omega),?_,h1.mp' k (by omega),fun i _ _ hu hv=>h1.cr' k (by omega) hu hv,fun i _ _ hu hv=>h1.kr' k (by omega) hu hv,h.cl,h.kl,h.ub,h1.lS,h1.lb,h1.lU,h1.lm,h1.lL,fun g hg=>?_,h1.lc,h1.lk,h1.no' k.size,h.cu,h.gh⟩
  ·have e1:nts (s.br++ys)=nts s.br++nts ys:=by simp[nts]
   rw[List.length_append,e1]
   exact own_set hown (fun g hg=>by have e2:g'=g:=by simpa [Value.ownBlock] using hg
                                    omega) _
  ·have e2:g'=g:=by simpa [Value.ownBlock] using hg
   rw[←e2];exact hl'
 ·refine ⟨hg3.os.trans hb.os,hg3.tape.trans hb.tape,hg3.output.trans hb.output,k.size,fun g hg hn=>k.block g hg ?_⟩
  rw[(h1.no g hn).2];simp
set_option maxRecDepth 20000 in
set_option maxHeartbeats 8000000 in
theorem bringG_any (No:Nat→Prop) (b:Nat) (t:Tx) (s:Gs) (W:World) (a:Option Addr) (c:Nat) (r:F) (h:Gk No b t s W) (hr:Rv W No a r) (hL:s.lo.length+r.len≤100000000):
 Calls Tryz.prog 31 #[.pointer (some ⟨b,0,none⟩),.slice a r.len c] W (GP No b t W (brg r s)):=by
 obtain ⟨i0,hi0,hz0,hz1,hz2⟩:=info_parts info9
 have HA:Hid (r= .nil∨∃g o,a=some ⟨g,o,none⟩):=by
  cases r with
  | nil=>exact .inl rfl
  | cons k t n p ks r'=>obtain ⟨g,o,_,_,e,_⟩:=hr.cons;exact .inr ⟨g,o,e⟩
 have H0:Hid (Gk No b t s W∧Rv W No a r):=⟨h,hr⟩
 clear h hr
 go_enter Tryz.func31,Tryz.ntmps31
 go_wp2_with fail
 go_loopw [5,8] (fun _ iv wx=>∃(i:Nat) (q:F) (s':Gs),iv= .int .i64 (i:Nat)∧i+q.len=r.len∧Hid (Gk No b t s' wx∧Kn No W wx∧(∀g o,a=some ⟨g,o,none⟩→Rv wx No (some ⟨g,o+i * 5,none⟩) q)∧brg q s'=brg r s∧s'.lo.length+q.len≤100000000)) (fun _ iv _=>r.len - (intOf iv).toNat)
 case atStart=>exact ⟨0,r,s,rfl,by omega,H0.out.1,Kn.refl _ _,fun g o e=>by have:=H0.out.2;rw[e] at this;simpa using this,rfl,hL⟩
 case round=>
  clear H0
  obtain ⟨i,q,s',rfl,hi,HR⟩:=hrel
  cases q with
  | nil=>
    have h1:¬(i:Int)<(r.len:Int):=by simp only[F.len] at hi;omega
    have HE:Hid (GP No b t W (brg r s) (.returned (.tuple #[])) wr):=by
     obtain ⟨q1,q2,_,q3,_⟩:=HR.out
     rw[←q3]
     exact ⟨rfl,q1,q2⟩
    go_wp2
    go_end0
    exact HE.out
  | cons k2 t2 n2 p2 ks2 q'=>
    simp only[F.len] at hi
    obtain ⟨hG,hK,hRv,hE,hle⟩:=HR.out
    simp only[F.len] at hle
    obtain ⟨g,o,rfl⟩:∃g o,a=some ⟨g,o,none⟩:=HA.out.resolve_left fun e=>by rw[e] at hi;simp only[F.len] at hi;omega
    have hRv:=hRv g o rfl
    obtain ⟨g',o',a',c',e1,hg,c0,c1,c2,c3,c4,hKs,hNx,hcc⟩:=hRv.cons
    injection e1 with e1
    injection e1 with e1 e2
    subst e1 e2
    have h1:(i:Int)<(r.len:Int):=by omega
    have wi:IntKind.i64.wrap ((i:Int)+1)=(i:Int)+1:=by rw[IntKind.wrap_i64];omega
    obtain ⟨x,hx⟩:=hG
    have Y:=Bx.new wr 54 #[.int .i64 k2,.string ⟨t2.toArray⟩,.int .i64 n2,.int .i64 p2,.slice a' ks2.len c']
    have hx1:=hx.alloc (.cells #[.int .i64 (k2),.string ⟨(t2).toArray⟩,.int .i64 (n2),.int .i64 (p2),.slice a' ks2.len c'] 54)
    have HK:Hid (Kn No W (wr.alloc (.cells #[.int .i64 (k2),.string ⟨(t2).toArray⟩,.int .i64 (n2),.int .i64 (p2),.slice a' ks2.len c'] 54))∧Rv (wr.alloc (.cells #[.int .i64 (k2),.string ⟨(t2).toArray⟩,.int .i64 (n2),.int .i64 (p2),.slice a' ks2.len c'] 54)) No (some ⟨g,o+i * 5+5,none⟩) q'):=⟨hK.alloc _,hNx.kn ((Kn.refl _ _).alloc _)⟩
    obtain ⟨w2,hW1⟩:∃W1,wr.alloc (.cells #[.int .i64 (k2),.string ⟨(t2).toArray⟩,.int .i64 (n2),.int .i64 (p2),.slice a' ks2.len c'] 54)=W1:=⟨_,rfl⟩
    rw[hW1] at Y hx1 HK
    obtain ⟨d0,d1,d2,d3,d4⟩:=Y.five
    have q4:w2.cell? ⟨b,2,none⟩=some x.vL:=hx1.mx.c 2 _ rfl
    have q4A:∀o,(w2.alloc o).cell? ⟨b,2,none⟩=some x.vL:=fun o=>(hx1.alloc o).mx.c 2 _ rfl
    have hD:=hx1.drew
    have HF:Hid (∀o w3,(w2.drew.alloc o).grownBy w3 x.vL.ownBlock→w3.frozen? ⟨b,2,none⟩=false∧w3.cell? ⟨b,2,none⟩=some x.vL):=fun o w3 hg3=>by
     have hb3:Bx b 101 (mcl x s') w3:=⟨(hg3.block b (Nat.lt_of_lt_of_le hD.lt (by simp)) (fun e=>by have:=hx1.lL b e.symm;have:=hx1.lb;omega)).trans (hD.mx.alloc o).blk⟩
     exact ⟨hb3.f 2,hb3.c 2 _ rfl⟩
    have hlu:s'.lo.length≤100000000:=by omega
    have HS:Hid (brg q' {s' with lo:=s'.lo++[t2]}=brg r s∧s'.lo.length+1+q'.len≤100000000):=⟨hE,by omega⟩
    have HX:Hid _:=hD
    have hlr:=hD.lr
    clear hD hx1 hx hK hRv hE HR hKs hNx Y hle
    go_wp2_with fail
    go_region_law (refine step_append_lies _ (by rfl) _ _ 23 (by rfl) 0 9 i0 _ 1 16 Tryz.underlying23 hi0 hz0 hz1 hz2 rfl (by omega) x.vL s'.lo.length (strs s'.lo) (by rfl) (hlr.alloc _) ⟨w2.drew.heap.size,0,none⟩ 1 1 [.string ⟨t2.toArray⟩] (by rfl) rfl (World.news_of_block (cs:=#[.string ⟨t2.toArray⟩]) (t:=9) (fr:=(0,0)) (Bx.new w2.drew 9 #[.string ⟨t2.toArray⟩]).blk) (by simp[Value.oneCell']) (by omega) (by unfold maxLen;omega) (by omega) (by omega) _ rfl ?_;intro gg cc w3 hown3 hg3 hat3 hlt3;obtain ⟨fz4,fc4⟩:=HF.out _ w3 hg3)
    all_goals
     have hA:=HX.out.appL (ys:=[t2]) (w1:=w2.drew.alloc (.cells #[.string ⟨t2.toArray⟩] 9)) (b1 _ _) hown3 hg3 hat3
     have HN:Hid (Gk No b t {s' with lo:=s'.lo++[t2]} _∧Kn No W _∧Rv _ No (some ⟨g,o+i * 5+5,none⟩) q'):=⟨hA.1,HK.out.1.drew.trans hA.2,(HK.out.2.kn (Kn.refl No w2).drew).kn hA.2⟩
     clear hA hown3 hg3 hat3 hlt3 fz4 fc4
     go_wp2
     refine ⟨⟨i+1,q',{s' with lo:=s'.lo++[t2]},by go_num,by omega,HN.out.1,HN.out.2.1,fun g' o' e=>?_,HS.out.1,by simp only[List.length_append,List.length_singleton];exact HS.out.2⟩,?_⟩
     ·injection e with e
      injection e with e1 e2
      subst e1 e2
      rw[show o+(i+1) * 5=o+i * 5+5 by omega]
      exact HN.out.2.2
     ·simp[intOf];omega
end Go.Proofs.YtkjbgggghigapaaGreat


namespace Go.Proofs.YtkjbgggghigapaaGreat
open Go.RowKit
theorem F.drop_all:∀f:F,f.drop f.len= .nil
 | .nil=>rfl
 | .cons _ _ _ _ _ r=>F.drop_all r
theorem own_cut {w:World} {a:Option Addr} {l:List Tx} {n c m:Nat} (h:w.ownsRow 0 9 1 (.slice a n c) l.length (strs l)) (hm:m≤l.length):w.ownsRow 0 9 1 (.slice a m c) (l.take m).length (strs (l.take m))∧n=l.length∧l.length≤c:=by
 have e1:(l.take m).length=m:=by rw[List.length_take];omega
 have e2:strs (l.take m)=(strs l).take m:=by simp[strs,List.map_take]
 rcases h.2 with ⟨e,h0⟩ | ⟨g,cap,cur,e,q0,q1,q2,q3,q4,q5⟩
 ·injection e with e3 e4 e5
  subst e3 e4 e5
  have :l=[]:=List.eq_nil_of_length_eq_zero h0
  subst this
  obtain rfl:m=0:=by simpa using hm
  exact ⟨World.ownsRow_nil _ _ _ _,rfl,Nat.le_refl _⟩
 ·injection e with e3 e4 e5
  subst e3 e4 e5
  refine ⟨⟨by rw[e2,List.length_take];simp[strs],.inr ⟨g,c,cur,by rw[e1],q0,q1,by omega,q3,q4,?_⟩⟩,rfl,q2⟩
  rw[e1,e2,←q5,List.take_take]
  congr 1
  omega
theorem CK.cutL {No:Nat→Prop} {b:Nat} {x:Cx} {s:Cs} {w:World} {a:Option Addr} {n c m:Nat} (h:CK No b x s w) (hv:x.vL= .slice a n c) (hm:m≤s.lo.length):Ck No b {s with lo:=s.lo.take m} (w.setCell ⟨b,4,none⟩ (.slice a m c))∧Kn No w (w.setCell ⟨b,4,none⟩ (.slice a m c)):=by
 have k:Tr x (fun l=>l=1) w (w.setCell ⟨b,4,none⟩ (.slice a m c)):=(Tr.refl _ _ w).set h.lb _
 refine ⟨⟨{x with vL:=.slice a m c},h.bx.put (j:=4) _,h.fr' k (by decide),h.gr' k (by decide),?_,h.ar' k (by decide),h.mp' k (by decide),fun i _ _ hf hv=>h.cs' k (by omega) hf hv,h.vl,h.lb,h.lF,h.lG,fun g hg=>?_,h.lA,h.lm,h.lc,h.no' k.size,h.nu⟩,⟨rfl,rfl,rfl,k.size,fun g hg hn=>k.block g hg (by rw[(h.no g hn).2];decide)⟩⟩
 ·have q:=h.lr' k (by decide)
  rw[hv] at q
  exact (own_cut q hm).1
 ·refine h.lL g ?_
  rw[hv]
  cases a with
  | none=>simp[Value.ownBlock] at hg
  | some ad=>simpa [Value.ownBlock] using hg
set_option maxRecDepth 20000 in
set_option maxHeartbeats 4000000 in
theorem blockc_any {N:Nat} {nd:Ndc} (H:∀k t n p ks s,Gd (ks.siz+1) s (nd k t n p ks s)) (CE:CN 23 N nd):CN 56 (N+1) (fun _ _ _ _ ks s=>blkC nd ks s):=by
 intro No b s W k t n p a c ks h hr hs hw hcc hL hp0 hp
 obtain ⟨-,-,hwk⟩:=F.wfC_one hw
 have B:=h.cy #[.int .i64 k,.string ⟨t.toArray⟩,.int .i64 n,.int .i64 p,.slice a ks.len c]
 obtain ⟨X,hX⟩:∃X,W.heap.size=X:=⟨_,rfl⟩
 obtain ⟨W1,hW1⟩:∃W1,W.alloc (.cells #[.int .i64 (k),.string ⟨(t).toArray⟩,.int .i64 (n),.int .i64 (p),.slice a ks.len c] 54)=W1:=⟨_,rfl⟩
 rw[hX,hW1] at B
 have C:=nodes_any H CE (fun g=>No g∨g=X) b s W1 a c ks B.ck (B.rv hr) (by omega) hwk (by omega) hp0 (by omega)
 have hG:=(gd_ckN H ks s).lo
 obtain ⟨x,hx⟩:=B.ck
 obtain ⟨aL,cL,eL⟩:=slice_shape hx.lr
 have c4:W1.cell? ⟨b,4,none⟩=some (.slice aL s.lo.length cL):=by rw[←eL];exact hx.bx.c 4 _ rfl
 obtain ⟨p0,p1,p2,p3,p4⟩:=B.bx.five
 have HB:Hid _:=B
 have HS:Hid (blkC nd ks s={ckN nd ks s with lo:=(ckN nd ks s).lo.take s.lo.length}):=rfl
 clear h hr B hx eL
 go_enter Tryz.func56,Tryz.ntmps56
 go_wp2_with fail
 refine C.mono ?_
 rintro e w2 hq
 have D2:=HB.out.step hq
 obtain ⟨rfl,-⟩:=hq
 generalize ckN nd ks s=s2 at *
 obtain ⟨x2,hx2⟩:=D2.ck
 obtain ⟨aM,cM,eM⟩:=slice_shape hx2.lr
 have d4:w2.cell? ⟨b,4,none⟩=some (.slice aM s2.lo.length cM):=by rw[←eM];exact hx2.bx.c 4 _ rfl
 have f4:=hx2.bx.f 4
 have hcap:s2.lo.length≤cM:=by have q:=hx2.lr;rw[eM] at q;exact (own_cut q (Nat.zero_le _)).2.2
 have hA:=hx2.cutL eM hG
 have HE:Hid (CP No b W {s2 with lo:=s2.lo.take s.lo.length} (.returned (.tuple #[])) (w2.setCell ⟨b,4,none⟩ (.slice aM s.lo.length cM))):=(D2.step (e:=.returned (.tuple #[])) ⟨rfl,hA.1,hA.2⟩).out
 have g1:(s.lo.length:Int)≤(cM:Int):=by omega
 have g2:s.lo.length≤cM:=by omega
 clear C hA D2 hx2 eM HB hG hcap
 go_wp2
 go_end0
 rw[HS.out]
 exact HE.out
end Go.Proofs.YtkjbgggghigapaaGreat


namespace Go.Proofs.YtkjbgggghigapaaGreat
open Go.RowKit
theorem GK.cutL {No:Nat→Prop} {b:Nat} {t:Tx} {x:Gx} {s:Gs} {w:World} {a:Option Addr} {n c m:Nat} (h:GK No b t x s w) (hv:x.vL= .slice a n c) (hm:m≤s.lo.length):Gk No b t {s with lo:=s.lo.take m} (w.setCell ⟨b,2,none⟩ (.slice a m c))∧Kn No w (w.setCell ⟨b,2,none⟩ (.slice a m c)):=by
 have k:Tg x (fun l=>l=2) w (w.setCell ⟨b,2,none⟩ (.slice a m c)):=(Tg.refl _ _ w).set h.lb _
 refine ⟨⟨{x with vL:=.slice a m c},h.sx' k (by decide),h.mx.put (j:=2) _,h.ur' k (by decide),?_,h.br' k (by decide),h.mp' k (by decide),fun i _ _ hu hv=>h.cr' k (by omega) hu hv,fun i _ _ hu hv=>h.kr' k (by omega) hu hv,h.cl,h.kl,h.ub,h.lS,h.lb,h.lU,h.lm,fun g hg=>?_,h.lB,h.lc,h.lk,h.no' k.size,h.cu,h.gh⟩,⟨rfl,rfl,rfl,k.size,fun g hg hn=>k.block g hg (by rw[(h.no g hn).2];decide)⟩⟩
 ·have q:=h.lr' k (by decide)
  rw[hv] at q
  exact (own_cut q hm).1
 ·refine h.lL g ?_
  rw[hv]
  cases a with
  | none=>simp[Value.ownBlock] at hg
  | some ad=>simpa [Value.ownBlock] using hg
theorem GK.line {No:Nat→Prop} {b:Nat} {t:Tx} {x:Gx} {s:Gs} {w:World} (h:GK No b t x s w) (p l:Int):GK No b t x {s with pl:=p,ln:=l} ((w.setCell ⟨x.S,4,none⟩ (.int .i64 p)).setCell ⟨x.S,5,none⟩ (.int .i64 l))∧Kn No w ((w.setCell ⟨x.S,4,none⟩ (.int .i64 p)).setCell ⟨x.S,5,none⟩ (.int .i64 l)):=by
 have k:Tg x (fun l=>l=1) w ((w.setCell ⟨x.S,4,none⟩ (.int .i64 p)).setCell ⟨x.S,5,none⟩ (.int .i64 l)):=((Tg.refl _ _ w).set h.lS _).set h.lS _
 exact ⟨⟨(h.sx.put (j:=4) (.int .i64 p)).put (j:=5) (.int .i64 l),h.mx' k (by decide),h.ur' k (by decide),h.lr' k (by decide),h.br' k (by decide),h.mp' k (by decide),fun i _ _ hu hv=>h.cr' k (by omega) hu hv,fun i _ _ hu hv=>h.kr' k (by omega) hu hv,h.cl,h.kl,h.ub,h.lS,h.lb,h.lU,h.lm,h.lL,h.lB,h.lc,h.lk,h.no' k.size,h.cu,h.gh⟩,⟨rfl,rfl,rfl,k.size,fun g hg hn=>k.block g hg (by rw[(h.no g hn).2];decide)⟩⟩
theorem GK.begin {No:Nat→Prop} {b:Nat} {t:Tx} {x:Gx} {s:Gs} {w:World} (h:GK No b t x s w) (n:Nat):GK No b t x {s with be:=n} (w.setCell ⟨x.S,2,none⟩ (.int .i64 (n:Nat)))∧Kn No w (w.setCell ⟨x.S,2,none⟩ (.int .i64 (n:Nat))):=by
 have k:Tg x (fun l=>l=1) w (w.setCell ⟨x.S,2,none⟩ (.int .i64 (n:Nat))):=(Tg.refl _ _ w).set h.lS _
 exact ⟨⟨h.sx.put (j:=2) (.int .i64 (n:Nat)),h.mx' k (by decide),h.ur' k (by decide),h.lr' k (by decide),h.br' k (by decide),h.mp' k (by decide),fun i _ _ hu hv=>h.cr' k (by omega) hu hv,fun i _ _ hu hv=>h.kr' k (by omega) hu hv,h.cl,h.kl,h.ub,h.lS,h.lb,h.lU,h.lm,h.lL,h.lB,h.lc,h.lk,h.no' k.size,h.cu,h.gh⟩,⟨rfl,rfl,rfl,k.size,fun g hg hn=>k.block g hg (by rw[(h.no g hn).2];decide)⟩⟩
theorem itm_rng:∀r:F,0≤itm r∧itm r≤(r.len:Int)
 | .nil=>by simp[itm,F.len]
 | .cons k _ _ _ _ r=>by
   have:=itm_rng r
   simp only[itm,F.len]
   split<;>omega
set_option maxRecDepth 20000 in
set_option maxHeartbeats 8000000 in
theorem countItems_any (P:Nat→Prop) (W:World) (a:Option Addr) (c:Nat) (r:F) (hr:Rv W P a r) (hl:r.len≤100000000):
 Calls Tryz.prog 150 #[.slice a r.len c] W fun e w'=>e= .returned (.int .i64 (itm r))∧Below W.heap.size W w':=by
 have HA:Hid (r= .nil∨∃g o,a=some ⟨g,o,none⟩):=by
  cases r with
  | nil=>exact .inl rfl
  | cons k t n p ks r'=>obtain ⟨g,o,_,_,e,_⟩:=hr.cons;exact .inr ⟨g,o,e⟩
 have H0:Hid (Rv W P a r):=hr
 have hit:=itm_rng r
 clear hr
 go_enter Tryz.func150,Tryz.ntmps150
 go_wp2_with fail
 go_loopw [3,5,8] (fun cv _ iv wx=>∃(i:Nat) (q:F) (z:Int),iv= .int .i64 (i:Nat)∧cv= .int .i64 z∧i+q.len=r.len∧z+itm q=itm r∧0≤z∧Hid (Below W.heap.size W wx∧(∀g o,a=some ⟨g,o,none⟩→Rv wx P (some ⟨g,o+i * 5,none⟩) q))) (fun _ _ iv _=>r.len - (intOf iv).toNat)
 case atStart=>exact ⟨0,r,0,rfl,rfl,by omega,by omega,by omega,Below.refl _ _,fun g o e=>by have:=H0.out;rw[e] at this;simpa using this⟩
 case round=>
  clear H0
  obtain ⟨i,q,z,rfl,rfl,hi,hz,hz0,HR⟩:=hrel
  cases q with
  | nil=>
    simp only[F.len] at hi
    simp only[itm] at hz
    have h1:¬(i:Int)<(r.len:Int):=by omega
    have HE:Hid (z=itm r):=by show _=_;omega
    go_wp2
    go_ret
    exact ⟨congrArg (fun z=>Ending.returned (.int .i64 z)) HE.out,HR.out.1⟩
  | cons k t n p ks q'=>
    simp only[F.len] at hi
    obtain ⟨hB,hRv⟩:=HR.out
    obtain ⟨g,o,rfl⟩:∃g o,a=some ⟨g,o,none⟩:=HA.out.resolve_left fun e=>by rw[e] at hi;simp only[F.len] at hi;omega
    have hRv:=hRv g o rfl
    obtain ⟨g',o',a',c',e1,hg,c0,c1,c2,c3,c4,hKs,hNx,hcc⟩:=hRv.cons
    injection e1 with e1
    injection e1 with e1 e2
    subst e1 e2
    have h1:(i:Int)<(r.len:Int):=by omega
    have wi:IntKind.i64.wrap ((i:Int)+1)=(i:Int)+1:=by rw[IntKind.wrap_i64];omega
    have hq:=itm_rng q'
    simp only[itm] at hz
    have Y:=Bx.new wr 54 #[.int .i64 k,.string ⟨t.toArray⟩,.int .i64 n,.int .i64 p,.slice a' ks.len c']
    have HK:Hid (Below W.heap.size W (wr.alloc (.cells #[.int .i64 (k),.string ⟨(t).toArray⟩,.int .i64 (n),.int .i64 (p),.slice a' ks.len c'] 54))∧(∀g' o',some (⟨g,o,none⟩:Addr)=some ⟨g',o',none⟩→Rv (wr.alloc (.cells #[.int .i64 (k),.string ⟨(t).toArray⟩,.int .i64 (n),.int .i64 (p),.slice a' ks.len c'] 54)) P (some ⟨g',o'+(i+1) * 5,none⟩) q')):=⟨hB.alloc hB.size _,fun g' o' e=>by
     injection e with e
     injection e with e1 e2
     subst e1 e2
     rw[show o+(i+1) * 5=o+i * 5+5 by omega]
     exact hNx.kn ((Kn.refl _ _).alloc _)⟩
    obtain ⟨w2,hW1⟩:∃W1,wr.alloc (.cells #[.int .i64 (k),.string ⟨(t).toArray⟩,.int .i64 (n),.int .i64 (p),.slice a' ks.len c'] 54)=W1:=⟨_,rfl⟩
    rw[hW1] at Y HK
    obtain ⟨d0,d1,d2,d3,d4⟩:=Y.five
    clear hB hRv HR hKs hNx Y
    by_cases hk:k=13
    ·rw[if_pos hk] at hz
     have wz:IntKind.i64.wrap (z+1)=z+1:=by rw[IntKind.wrap_i64];omega
     subst hk
     go_wp2
     refine ⟨⟨i+1,q',z+1,by go_num,by go_num,by omega,by omega,by omega,HK.out⟩,?_⟩
     simp[intOf];omega
    ·rw[if_neg hk] at hz
     go_wp2
     refine ⟨⟨i+1,q',z,by go_num,rfl,by omega,by omega,by omega,HK.out⟩,?_⟩
     simp[intOf];omega
end Go.Proofs.YtkjbgggghigapaaGreat


namespace Go.Proofs.YtkjbgggghigapaaGreat
open Go.RowKit
def F.kds:F→List Int
 | .nil=>[]
 | .cons k _ _ _ _ r=>k::r.kds
def isE (k:Int):Bool:=decide (1≤k∧k≤14)
def isS (k:Int):Bool:=decide (21≤k∧k≤31)
def ifL:List Int→Bool
 | []=>true
 | [b]=>b==20
 | e::b::r=>isE e && b==20 && ifL r
def exB (l:List Int):Bool:=l.dropLast.all isE && l.getLast?==some 20
def okN (k n:Int) (l:List Int):Bool:=
 if k=1∨k=2∨k=3∨k=5∨k=6∨k=29 then true
 else if k=4 then decide (-9223372036854775808≤n∧n≤9223372036854775807)
 else if k=7∨k=11∨k=14 then decide (l.length=2) && l.all isE
 else if k=8 then decide (1≤l.length) && l.all isE
 else if k=9∨k=10∨k=13∨k=23 then decide (l.length=1) && l.all isE
 else if k=12∨k=30 then l.all isE
 else if k=20 then l.all isS
 else if k=21∨k=22 then decide (1≤n∧n≤l.length) && l.all isE
 else if k=24 then ifL l
 else if k=25 then decide (l.length=2) && exB l
 else if k=26 then decide (2≤l.length) && l.head?==some 6 && exB l
 else if k=27∨k=31 then decide (0≤n∧n+1≤l.length) && exB l
 else if k=28 then decide (l.length=1) && exB l
 else false
def F.okT:F→Bool
 | .nil=>true
 | .cons k t n _ ks r=>okN k n ks.kds && decide (t.length≤20000) && ks.okT && r.okT
theorem F.kds_len:∀f:F,f.kds.length=f.len
 | .nil=>rfl
 | .cons k t n p ks r=>by simp only[F.kds,F.len,List.length_cons,r.kds_len]
theorem okN_arC {k n:Int} {f:F} (h:okN k n f.kds=true):arC k n f.len=true:=by
 have e:=f.kds_len
 unfold arC
 split
 ·next hk=>rcases hk with rfl | rfl<;>(simp[okN] at h;simp;omega)
 split
 ·next hk=>rcases hk with rfl | rfl<;>(simp[okN] at h;simp;omega)
 split
 ·next hk=>rcases hk with rfl | rfl<;>(simp[okN] at h;simp;omega)
 ·rfl
theorem F.okT_wfC:∀f:F,f.okT=true→f.wfC=true
 | .nil,_=>rfl
 | .cons k t n p ks r,h=>by
   simp only[F.okT,Bool.and_eq_true] at h
   simp only[F.wfC,Bool.and_eq_true]
   exact ⟨⟨⟨okN_arC h.1.1.1,h.1.1.2⟩,F.okT_wfC ks h.1.2⟩,F.okT_wfC r h.2⟩
end Go.Proofs.YtkjbgggghigapaaGreat


namespace Go.Proofs.YtkjbgggghigapaaGreat
theorem F.kds_app:∀f g:F,(f.app g).kds=f.kds++g.kds
 | .nil,g=>rfl
 | .cons k t n p ks r,g=>by simp only[F.app,F.kds,List.cons_append,F.kds_app r g]
theorem F.okT_app:∀f g:F,(f.app g).okT=(f.okT && g.okT)
 | .nil,g=>by simp[F.app,F.okT]
 | .cons k t n p ks r,g=>by simp only[F.app,F.okT,F.okT_app r g,Bool.and_assoc]
def Rtk (l:List Tok):Prop:=∀t∈l,t.t.length≤20000∧ -9223372036854775808≤t.v∧t.v≤9223372036854775807
theorem Rtk.tl {l:List Tok} (h:Rtk l):Rtk l.tail:=fun t ht=>h t (List.mem_of_mem_tail ht)
theorem Rtk.ht {l:List Tok} (h:Rtk l):(ht l).length≤20000:=by
 cases l with
 | nil=>exact Nat.zero_le _
 | cons t l=>exact (h t (List.mem_cons_self ..)).1
theorem Rtk.hv {l:List Tok} (h:Rtk l):-9223372036854775808≤hv l∧hv l≤9223372036854775807:=by
 cases l with
 | nil=>exact ⟨by decide,by decide⟩
 | cons t l=>exact (h t (List.mem_cons_self ..)).2
structure REx (f:F):Prop where
 ok:f.okT=true
 al:f.kds.all isE=true
structure RSt (f:F):Prop where
 ok:f.okT=true
 al:f.kds.all isS=true
structure OEx (f:F):Prop where
 ex:∃k,f.kds=[k]∧isE k=true
 ok:f.okT=true
structure OSt (f:F):Prop where
 ex:∃k,f.kds=[k]∧isS k=true
 ok:f.okT=true
structure OBk (f:F):Prop where
 ex:f.kds=[20]
 ok:f.okT=true
structure RIf (f:F):Prop where
 ok:f.okT=true
 al:ifL f.kds=true
 ev:f.len % 2=0
theorem REx.nil:REx .nil:=⟨rfl,rfl⟩
theorem REx.app {f g:F} (h:REx f) (k:REx g):REx (f.app g):=⟨by rw[F.okT_app,h.ok,k.ok];rfl,by rw[F.kds_app,List.all_append,h.al,k.al];rfl⟩
theorem OEx.row {f:F} (h:OEx f):REx f:=by
 obtain ⟨k,e,hk⟩:=h.ex
 exact ⟨h.ok,by rw[e];simpa using hk⟩
theorem OEx.len {f:F} (h:OEx f):f.len=1:=by
 obtain ⟨k,e,hk⟩:=h.ex
 rw[←f.kds_len,e];rfl
theorem OBk.len {f:F} (h:OBk f):f.len=1:=by rw[←f.kds_len,h.ex];rfl
theorem RSt.nil:RSt .nil:=⟨rfl,rfl⟩
theorem RSt.app {f g:F} (h:RSt f) (k:OSt g):RSt (f.app g):=by
 obtain ⟨x,e,hk⟩:=k.ex
 exact ⟨by rw[F.okT_app,h.ok,k.ok];rfl,by rw[F.kds_app,List.all_append,h.al,e];simpa using hk⟩
theorem okT_mk {k n p:Int} {t:List UInt8} {ks:F} (h1:okN k n ks.kds=true) (h2:t.length≤20000) (h3:ks.okT=true):(one k t n p ks).okT=true:=by
 simp only[one,F.okT,h1,h3,Bool.and_true,Bool.true_and,decide_eq_true_eq]
 exact h2
theorem OEx.of {k n p:Int} {t:List UInt8} {ks:F} (hk:isE k=true) (h1:okN k n ks.kds=true) (h2:t.length≤20000) (h3:ks.okT=true):OEx (one k t n p ks):=⟨⟨k,rfl,hk⟩,okT_mk h1 h2 h3⟩
theorem OSt.of {k n p:Int} {t:List UInt8} {ks:F} (hk:isS k=true) (h1:okN k n ks.kds=true) (h2:t.length≤20000) (h3:ks.okT=true):OSt (one k t n p ks):=⟨⟨k,rfl,hk⟩,okT_mk h1 h2 h3⟩
theorem exB_app {f b:F} (h:REx f) (hb:OBk b):exB (f.app b).kds=true:=by
 rw[F.kds_app,hb.ex]
 simp only[exB,List.dropLast_concat,List.getLast?_append,List.getLast?_singleton,h.al,Bool.true_and]
 rfl
theorem app_ok {f b:F} (h:f.okT=true) (hb:b.okT=true):(f.app b).okT=true:=by rw[F.okT_app,h,hb];rfl
theorem ifL_app:∀(n:Nat) (l m:List Int),l.length=2 * n→ifL l=true→ifL (l++m)=ifL m
 | 0,l,m,h,_=>by
   obtain rfl:l=[]:=List.eq_nil_of_length_eq_zero (by omega)
   rfl
 | n+1,[],m,h,_=>by simp at h
 | n+1,[_],m,h,_=>by simp at h;omega
 | n+1,e::b::r,m,h,hi=>by
   have h0:isE e=true∧b=20∧ifL r=true:=by cases r<;>simpa [ifL,and_assoc] using hi
   have h1:r.length=2 * n:=by simp at h;omega
   have h2:=ifL_app n r m h1 h0.2.2
   rw[List.cons_append,List.cons_append]
   have e1:ifL (e::b::(r++m))=(isE e && b==20 && ifL (r++m)):=by cases r++m<;>rfl
   rw[e1,h2,h0.1,h0.2.1];simp
theorem RIf.app {f e b:F} (h:RIf f) (he:OEx e) (hb:OBk b):RIf ((f.app e).app b):=by
 obtain ⟨k,e1,hk⟩:=he.ex
 refine ⟨app_ok (app_ok h.ok he.ok) hb.ok,?_,?_⟩
 ·rw[F.kds_app,F.kds_app,e1,hb.ex,List.append_assoc,ifL_app (f.len / 2) _ _ (by rw[f.kds_len];have:=h.ev;omega) h.al]
  simp[ifL,hk]
 ·rw[F.len_app,F.len_app,he.len,hb.len];have:=h.ev;omega
theorem RIf.els {f b:F} (h:RIf f) (hb:OBk b):ifL (f.app b).kds=true:=by
 rw[F.kds_app,hb.ex,ifL_app (f.len / 2) _ _ (by rw[f.kds_len];have:=h.ev;omega) h.al]
 rfl
def Wok (x:PR) (R:F→List Tok→Prop):Prop:=
 match x with
 | .ok f m=>R f m
 | .bad _=>True
 | .out=>True
theorem Wok.ok {f:F} {m:List Tok} {R:F→List Tok→Prop} (h:R f m):Wok (.ok f m) R:=h
theorem Wok.mono {x:PR} {Q R:F→List Tok→Prop} (h:Wok x Q) (hk:∀f m,Q f m→R f m):Wok x R:=by
 cases x with
 | ok f m=>exact hk f m h
 | bad p=>exact trivial
 | out=>exact trivial
theorem Wok.bind {x:PR} {k:F→List Tok→PR} {Q R:F→List Tok→Prop} (h:Wok x Q) (hk:∀f m,Q f m→Wok (k f m) R):Wok (x.bind k) R:=by
 cases x with
 | ok f m=>exact hk f m h
 | bad p=>exact trivial
 | out=>exact trivial
theorem Wok.need {c:Nat} {l:List Tok} {k:List Tok→PR} {R:F→List Tok→Prop} (hl:Rtk l) (h:Rtk l.tail→Wok (k l.tail) R):Wok (need c l k) R:=by
 unfold Go.Proofs.YtkjbgggghigapaaGreat.need
 split
 ·exact h hl.tl
 ·exact trivial
theorem Wok.nam {q:Int} {l:List Tok} {k:F→List Tok→PR} {R:F→List Tok→Prop} (hl:Rtk l) (hq:q=5∨q=6) (h:∀f,OEx f→f.text.length≤20000→f.kds=[q]→Rtk l.tail→Wok (k f l.tail) R):Wok (nam q l k) R:=by
 unfold Go.Proofs.YtkjbgggghigapaaGreat.nam
 split
 ·refine h _ (.of ?_ ?_ hl.ht rfl) hl.ht rfl hl.tl
  ·rcases hq with rfl | rfl<;>rfl
  ·rcases hq with rfl | rfl<;>rfl
 ·exact trivial
theorem Wok.tgt {f:F} {k:PR} {R:F→List Tok→Prop} (h:Wok k R):Wok (tgt f k) R:=by
 unfold Go.Proofs.YtkjbgggghigapaaGreat.tgt
 split
 ·exact h
 ·exact trivial
@[reducible] def Okj (j:J) (f:F):Prop:=
  match j with
  | .blk _=>OBk f
  | .bk _ a=>RSt a→RSt f
  | .stat=>OSt f
  | .lst a=>REx a→REx f∧a.len≤f.len
  | .nms a=>REx a→REx f∧a.len≤f.len
  | .asg a=>REx a→REx f∧a.len≤f.len
  | .ifs a=>RIf a→f.okT=true∧ifL f.kds=true
  | .tab a=>REx a→REx f
  | .exl _ g=>OEx g→OEx f
  | .sufl g=>OEx g→OEx f
  | _=>OEx f
theorem two_ex {k:Int} {t:List UInt8} {p:Int} {f g:F} (hk:k=7∨k=11∨k=14) (hf:OEx f) (hg:OEx g) (h2:t.length≤20000):OEx (one k t 0 p (f.app g)):=by
 have h7:=(hf.row.app hg.row).al
 have e4:((f.app g).kds).length=2:=by rw[F.kds_len,F.len_app,hf.len,hg.len]
 refine .of ?_ ?_ h2 (app_ok hf.ok hg.ok)
 ·rcases hk with rfl | rfl | rfl<;>rfl
 ·rcases hk with rfl | rfl | rfl<;>(simp[okN,e4] at h7⊢;exact h7)
section
variable {rec:J→List Tok→PR} (ih:∀j l,Rtk l→Wok (rec j l) fun f m=>Rtk m∧Okj j f)
include ih
theorem ok_body {l:List Tok} {k:F→List Tok→PR} {R:F→List Tok→Prop} (hl:Rtk l) (h:∀f m,Rtk m→OBk f→Wok (k f m) R):Wok (bodyP rec l k) R:=
 .need hl fun R1=>.bind (ih _ _ R1) fun f _ ⟨R2,T⟩=>.need R2 fun R3=>h f _ R3 T
theorem ok_last {l:List Tok} (hl:Rtk l):Wok (lastP rec l) fun f m=>Rtk m∧OSt f:=by
 unfold lastP
 split
 ·exact .ok ⟨hl.tl.tl,.of rfl rfl (Nat.zero_le _) rfl⟩
 ·split
  ·exact .ok ⟨hl.tl,.of rfl rfl (Nat.zero_le _) rfl⟩
  ·refine .bind (ih _ _ hl.tl) fun f m ⟨R2,T⟩=>?_
   have hT:=(T .nil).1
   refine .ok ⟨?_,.of rfl (by simpa [okN] using hT.al) (Nat.zero_le _) hT.ok⟩
   split
   ·exact R2.tl
   ·exact R2
theorem ok_fun {l:List Tok} (hl:Rtk l):Wok (funP rec l) fun f m=>Rtk m∧OSt f:=by
 unfold funP parP
 refine .nam hl.tl (.inr rfl) fun m T hm _ R2=>.need R2 fun R3=>.bind (Q:=fun ps m=>Rtk m∧REx ps) ?_ fun ps l1 ⟨R4,O4⟩=>.need R4 fun R5=>.bind (ih _ _ R5) fun b l2 ⟨R6,T6⟩=>.need R6 fun R7=>.ok ⟨R7,.of rfl ?_ hm (app_ok O4.ok T6.ok)⟩
 ·split
  ·exact .ok ⟨R3,.nil⟩
  ·exact .nam R3 (.inr rfl) fun f T4 _ _ R4=>.mono (ih _ _ R4) fun ps m ⟨R5,h5⟩=>⟨R5,(h5 T4.row).1⟩
 ·have:=exB_app O4 T6
  have e:(ps.app b).kds.length=ps.len+1:=by rw[F.kds_len,F.len_app,T6.len]
  simp[okN,this,e]
theorem ok_br {a:F} {l:List Tok} (hl:Rtk l) (hA:RIf a):Wok (brP rec a l) fun f m=>Rtk m∧RIf f:=by
 unfold brP
 exact .bind (ih _ _ hl) fun e l1 ⟨R1,T1⟩=>.need R1 fun R2=>.bind (ih _ _ R2) fun b l2 ⟨R3,T3⟩=>.ok ⟨R3,hA.app T1 T3⟩
theorem ok_num {p:Int} {a:F} {l:List Tok} (hl:Rtk l) (hA:OEx a) (ha6:a.kds=[6]):Wok (numP rec p a l) fun f m=>Rtk m∧OSt f:=by
 unfold numP
 refine .bind (ih _ _ hl) fun e1 l1 ⟨R1,T1⟩=>.need R1 fun R2=>.bind (ih _ _ R2) fun e2 l2 ⟨R3,T3⟩=>?_
 have h2:=(hA.row.app T1.row).app T3.row
 split
 ·exact .bind (ih _ _ R3.tl) fun e3 l3 ⟨R5,T5⟩=>ok_body ih R5 fun b l4 R6 T6=>.ok ⟨R6,.of rfl (by
   have h3:=exB_app (h2.app T5.row) T6
   have e4:(((((a.app e1).app e2).app e3).app b).kds).length=5:=by rw[F.kds_len,F.len_app,F.len_app,F.len_app,F.len_app,hA.len,T1.len,T3.len,T5.len,T6.len]
   have e5:(((((a.app e1).app e2).app e3).app b).kds).head?=some 6:=by rw[F.kds_app,F.kds_app,F.kds_app,F.kds_app,ha6];rfl
   simp[okN,h3,e4,e5]) (Nat.zero_le _) (app_ok (h2.app T5.row).ok T6.ok)⟩
 ·exact ok_body ih R3 fun b l4 R6 T6=>.ok ⟨R6,.of rfl (by
   have h3:=exB_app h2 T6
   have e4:((((a.app e1).app e2).app b).kds).length=4:=by rw[F.kds_len,F.len_app,F.len_app,F.len_app,hA.len,T1.len,T3.len,T6.len]
   have e5:((((a.app e1).app e2).app b).kds).head?=some 6:=by rw[F.kds_app,F.kds_app,F.kds_app,ha6];rfl
   simp[okN,h3,e4,e5]) (Nat.zero_le _) (app_ok h2.ok T6.ok)⟩
theorem ok_for {l:List Tok} (hl:Rtk l):Wok (forP rec l) fun f m=>Rtk m∧OSt f:=by
 unfold forP
 refine .nam hl.tl (.inr rfl) fun m T _ h6 R2=>?_
 split
 ·exact ok_num ih R2.tl T h6
 ·exact .bind (ih _ _ R2) fun ns l1 ⟨R3,T3⟩=>.need R3 fun R4=>.bind (ih _ _ R4) fun f l2 ⟨R5,T5⟩=>ok_body ih R5 fun b l3 R6 T6=>.ok ⟨R6,.of rfl (by
   have h0:=T3 T.row
   have h1:=T5 h0.1
   have h3:=exB_app h1.1 T6
   have e4:((f.app b).kds).length=f.len+1:=by rw[F.kds_len,F.len_app,T6.len]
   have h4:=h1.2
   simp[okN,h3,e4]
   omega) (Nat.zero_le _) (app_ok (T5 (T3 T.row).1).1.ok T6.ok)⟩
theorem ok_loc {l:List Tok} (hl:Rtk l):Wok (locP rec l) fun f m=>Rtk m∧OSt f:=by
 unfold locP
 refine .nam hl.tl (.inr rfl) fun m T _ _ R2=>.bind (ih _ _ R2) fun ns l1 ⟨R3,T3⟩=>?_
 have h0:=T3 T.row
 have e0:=T.len
 have h5:=h0.2
 split
 ·exact .bind (ih _ _ R3.tl) fun f l2 ⟨R5,T5⟩=>.ok ⟨R5,.of rfl (by
   have h1:=T5 h0.1
   have h6:=h1.2
   have h7:=h1.1.al
   have e4:=f.kds_len
   simp[okN,e4] at h7⊢
   exact ⟨by omega,h7⟩) (Nat.zero_le _) (T5 h0.1).1.ok⟩
 ·exact .ok ⟨R3,.of rfl (by
   have h7:=h0.1.al
   have e4:=ns.kds_len
   simp[okN,e4] at h7⊢
   exact ⟨by omega,h7⟩) (Nat.zero_le _) h0.1.ok⟩
theorem ok_asg {l:List Tok} (hl:Rtk l):Wok (asgP rec l) fun f m=>Rtk m∧OSt f:=by
 unfold asgP
 refine .bind (ih _ _ hl) fun f l1 ⟨R1,T1⟩=>?_
 split
 ·exact .tgt (.bind (ih _ _ R1) fun ts l2 ⟨R2,T2⟩=>.need R2 fun R3=>.bind (ih _ _ R3) fun g l3 ⟨R4,T4⟩=>.ok ⟨R4,.of rfl (by
   have h0:=T2 (OEx.row T1)
   have h1:=T4 h0.1
   have e0:=OEx.len T1
   have h5:=h0.2
   have h6:=h1.2
   have h7:=h1.1.al
   have e4:=g.kds_len
   simp[okN,e4] at h7⊢
   exact ⟨by omega,h7⟩) (Nat.zero_le _) (T4 (T2 (OEx.row T1)).1).1.ok⟩)
 ·split
  ·exact .ok ⟨R1,.of rfl (by
    have T1:OEx f:=T1
    have h7:=T1.row.al
    have e4:=f.kds_len
    have e5:=T1.len
    simp[okN,e4,e5] at h7⊢
    exact h7) (Nat.zero_le _) (OEx.ok T1)⟩
  ·exact trivial
theorem ok_arg {a:F} {l:List Tok} (hl:Rtk l) (hA:REx a):Wok (argP rec a l) fun f m=>Rtk m∧REx f∧a.len≤f.len:=by
 unfold argP
 split
 ·exact .ok ⟨hl.tl,hA,Nat.le_refl _⟩
 ·exact .bind (ih _ _ hl) fun f l1 ⟨R1,T1⟩=>.need R1 fun R2=>.ok ⟨R2,T1 hA⟩
theorem ok_stem {l:List Tok} (hl:Rtk l):Wok (stemP rec l) fun f m=>Rtk m∧OEx f:=by
 unfold stemP
 split
 ·exact .bind (ih _ _ hl.tl) fun e l1 ⟨R1,T1⟩=>.need R1 fun R2=>.ok ⟨R2,.of rfl (by
   have T1:OEx e:=T1
   have h7:=T1.row.al
   have e4:=e.kds_len
   have e5:=T1.len
   simp[okN,e4,e5] at h7⊢
   exact h7) (Nat.zero_le _) (OEx.ok T1)⟩
 ·exact .nam hl (.inr rfl) fun f T _ _ R2=>.ok ⟨R2,T⟩
theorem ok_step (j:J) (l:List Tok) (hl:Rtk l):Wok (stp' rec j l) fun f m=>Rtk m∧Okj j f:=by
 cases j with
 | blk c=>exact .bind (ih _ _ hl) fun f l1 ⟨R1,T1⟩=>.ok ⟨R1,rfl,okT_mk (by have:=(T1 .nil).al;simpa [okN] using this) (Nat.zero_le _) (T1 .nil).ok⟩
 | bk c a=>
   simp only[stp']
   split
   ·exact ih _ _ hl.tl
   ·split
    ·exact .bind (ok_last ih hl) fun f m ⟨R1,T1⟩=>.ok ⟨R1,fun hA=>hA.app T1⟩
    ·split
     ·exact .bind (ok_fun ih hl) fun f m ⟨R1,T1⟩=>.mono (ih _ _ R1) fun g m' ⟨R2,T2⟩=>⟨R2,fun hA=>T2 (hA.app T1)⟩
     ·split
      ·exact .ok ⟨hl,id⟩
      ·exact .bind (ih _ _ hl) fun f m ⟨R1,T1⟩=>.mono (ih _ _ R1) fun g m' ⟨R2,T2⟩=>⟨R2,fun hA=>T2 (hA.app T1)⟩
 | stat=>
   simp only[stp']
   split
   ·exact ok_body ih hl fun b m R1 T1=>.ok ⟨R1,.of rfl (by
     have:=exB_app REx.nil T1
     have e4:=b.kds_len
     have e5:=T1.len
     simp only[F.app] at this
     simp[okN,this,e4,e5]) (Nat.zero_le _) T1.ok⟩
   ·split
    ·exact .bind (ih _ _ hl.tl) fun e l1 ⟨R1,T1⟩=>ok_body ih R1 fun b m R2 T2=>.ok ⟨R2,.of rfl (by
      have:=exB_app (OEx.row T1) T2
      have e4:((e.app b).kds).length=2:=by rw[F.kds_len,F.len_app,OEx.len T1,T2.len]
      simp[okN,this,e4]) (Nat.zero_le _) (app_ok (OEx.ok T1) T2.ok)⟩
    ·split
     ·exact .bind (ih _ _ hl.tl) fun f l1 ⟨R1,T1⟩=>.ok ⟨R1,.of rfl (by
       have:=(T1 ⟨rfl,rfl,rfl⟩).2
       simpa [okN] using this) (Nat.zero_le _) (T1 ⟨rfl,rfl,rfl⟩).1⟩
     ·split
      ·exact ok_for ih hl
      ·split
       ·exact ok_loc ih hl
       ·split
        ·exact .ok ⟨hl.tl,.of rfl rfl (Nat.zero_le _) rfl⟩
        ·exact ok_asg ih hl
 | lst a=>
   refine .bind (ih _ _ hl) fun f m ⟨R1,T1⟩=>?_
   have T1:OEx f:=T1
   have e:=F.len_app a f
   split
   ·exact .mono (ih _ _ R1.tl) fun g m' ⟨R2,T2⟩=>⟨R2,fun hA=>⟨(T2 (hA.app T1.row)).1,by have:=(T2 (hA.app T1.row)).2;omega⟩⟩
   ·exact .ok ⟨R1,fun hA=>⟨hA.app T1.row,by omega⟩⟩
 | nms a=>
   simp only[stp']
   split
   ·exact .nam hl.tl (.inr rfl) fun f T1 _ _ R1=>.mono (ih _ _ R1) fun g m' ⟨R2,T2⟩=>⟨R2,fun hA=>⟨(T2 (hA.app T1.row)).1,by have:=(T2 (hA.app T1.row)).2;have:=F.len_app a f;omega⟩⟩
   ·exact .ok ⟨hl,fun hA=>⟨hA,Nat.le_refl _⟩⟩
 | ifs a=>
   by_cases hA:RIf a
   ·refine .bind (ok_br ih hl hA) fun f m ⟨R1,T1⟩=>?_
    split
    ·exact .mono (ih _ _ R1.tl) fun g m' ⟨R2,T2⟩=>⟨R2,fun _=>T2 T1⟩
    ·split
     ·exact .bind (ih _ _ R1.tl) fun b l2 ⟨R2,T2⟩=>.need R2 fun R3=>.ok ⟨R3,fun _=>⟨app_ok T1.ok (OBk.ok T2),T1.els T2⟩⟩
     ·exact .need R1 fun R3=>.ok ⟨R3,fun _=>⟨T1.ok,T1.al⟩⟩
   ·have key:Wok (stp' rec (.ifs a) l) fun _ m=>Rtk m:=by
     simp only[stp',brP]
     refine .bind (.bind (ih _ _ hl) fun e l1 ⟨R1,T1⟩=>.need R1 fun R2=>.bind (ih _ _ R2) fun b l2 ⟨R3,T3⟩=>.ok (R:=fun _ m=>Rtk m) R3) fun f m R1=>?_
     split
     ·exact .mono (ih _ _ (Rtk.tl R1)) fun g m' h=>h.1
     ·split
      ·exact .bind (ih _ _ (Rtk.tl R1)) fun b l2 ⟨R2,T2⟩=>.need R2 fun R3=>.ok R3
      ·exact .need R1 fun R3=>.ok R3
    exact .mono key fun f m h=>⟨h,fun hx=>absurd hx hA⟩
 | asg a=>
   simp only[stp']
   split
   ·exact .bind (ih _ _ hl.tl) fun f m ⟨R1,T1⟩=>.tgt (.mono (ih _ _ R1) fun g m' ⟨R2,T2⟩=>⟨R2,fun hA=>⟨(T2 (hA.app (OEx.row T1))).1,by have:=(T2 (hA.app (OEx.row T1))).2;have:=F.len_app a f;omega⟩⟩)
   ·exact .ok ⟨hl,fun hA=>⟨hA,Nat.le_refl _⟩⟩
 | ex a=>exact .bind (ih _ _ hl) fun f m ⟨R1,T1⟩=>.mono (ih _ _ R1) fun g m' ⟨R2,T2⟩=>⟨R2,T2 T1⟩
 | exl a f=>
   simp only[stp']
   split
   ·exact .bind (ih _ _ hl.tl) fun g l1 ⟨R1,T1⟩=>.mono (ih _ _ R1) fun x m' ⟨R2,T2⟩=>⟨R2,fun hf=>T2 (two_ex (.inr (.inl rfl)) hf T1 hl.ht)⟩
   ·exact .ok ⟨hl,id⟩
 | opd=>
   simp only[stp']
   split
   ·exact ih _ _ hl
   ·split
    ·unfold tabP
     exact .bind (ih _ _ hl.tl) fun f l1 ⟨R1,T1⟩=>.need R1 fun R2=>.ok ⟨R2,.of rfl (by have:=(T1 .nil).al;simpa [okN] using this) (Nat.zero_le _) (T1 .nil).ok⟩
    ·split
     ·exact .bind (ih _ _ hl.tl) fun f l1 ⟨R1,T1⟩=>.ok ⟨R1,.of rfl (by
       have T1:OEx f:=T1
       have h7:=T1.row.al
       have e4:=f.kds_len
       have e5:=T1.len
       simp[okN,e4,e5] at h7⊢
       exact h7) hl.ht (OEx.ok T1)⟩
     ·split
      ·exact .ok ⟨hl.tl,.of rfl (by have:=hl.hv;simp[okN];omega) (Nat.zero_le _) rfl⟩
      ·split
       ·exact .ok ⟨hl.tl,.of rfl rfl hl.ht rfl⟩
       ·split
        ·exact .ok ⟨hl.tl,.of rfl rfl (Nat.zero_le _) rfl⟩
        ·split
         ·exact .ok ⟨hl.tl,.of rfl rfl (Nat.zero_le _) rfl⟩
         ·split
          ·exact .ok ⟨hl.tl,.of rfl rfl (Nat.zero_le _) rfl⟩
          ·exact trivial
 | suf=>exact .bind (ok_stem ih hl) fun f m ⟨R1,T1⟩=>.mono (ih _ _ R1) fun g m' ⟨R2,T2⟩=>⟨R2,T2 T1⟩
 | sufl f=>
   simp only[stp']
   split
   ·exact .bind (ih _ _ hl.tl) fun k l1 ⟨R1,T1⟩=>.need R1 fun R2=>.mono (ih _ _ R2) fun g m' ⟨R3,T3⟩=>⟨R3,fun hf=>T3 (two_ex (.inl rfl) hf T1 (Nat.zero_le _))⟩
   ·split
    ·exact .nam hl.tl (.inl rfl) fun k T1 _ _ R2=>.mono (ih _ _ R2) fun g m' ⟨R3,T3⟩=>⟨R3,fun hf=>T3 (two_ex (.inl rfl) hf T1 (Nat.zero_le _))⟩
    ·split
     ·by_cases hf:OEx f
      ·exact .bind (ok_arg ih hl.tl hf.row) fun g l1 ⟨R1,T1,h1⟩=>.mono (ih _ _ R1) fun x m' ⟨R2,T2⟩=>⟨R2,fun _=>T2 (.of rfl (by
        have h7:=T1.al
        have e4:=g.kds_len
        have e5:=hf.len
        simp[okN,e4] at h7⊢
        exact ⟨by omega,h7⟩) (Nat.zero_le _) T1.ok)⟩
      ·refine .bind (Q:=fun _ m=>Rtk m) ?_ fun g l1 R1=>.mono (ih _ _ R1) fun x m' ⟨R2,_⟩=>⟨R2,fun hx=>absurd hx hf⟩
       unfold argP
       split
       ·exact .ok hl.tl.tl
       ·exact .bind (ih _ _ hl.tl) fun f l1 ⟨R1,T1⟩=>.need R1 fun R2=>.ok R2
     ·exact .ok ⟨hl,id⟩
 | tab a=>
   simp only[stp']
   split
   ·exact .ok ⟨hl,id⟩
   ·refine .bind (ih _ _ hl) fun f m ⟨R1,T1⟩=>?_
    have T1:OEx f:=T1
    split
    ·exact .mono (ih _ _ R1.tl) fun g m' ⟨R2,T2⟩=>⟨R2,fun hA=>T2 (hA.app T1.row)⟩
    ·exact .ok ⟨R1,fun hA=>hA.app T1.row⟩
 | fld=>
   simp only[stp']
   split
   ·exact .bind (ih _ _ hl.tl) fun k l1 ⟨R1,T1⟩=>.need R1 fun R2=>.need R2 fun R3=>.bind (ih _ _ R3) fun v l2 ⟨R4,T4⟩=>.ok ⟨R4,two_ex (.inr (.inr rfl)) T1 T4 (Nat.zero_le _)⟩
   ·split
    ·exact .bind (ih _ _ hl.tl.tl) fun v l2 ⟨R4,T4⟩=>.ok ⟨R4,two_ex (.inr (.inr rfl)) (.of rfl rfl hl.ht rfl) T4 (Nat.zero_le _)⟩
    ·exact .bind (ih _ _ hl) fun v l2 ⟨R4,T4⟩=>.ok ⟨R4,.of rfl (by
      have T4:OEx v:=T4
      have h7:=T4.row.al
      have e4:=v.kds_len
      have e5:=T4.len
      simp[okN,e4,e5] at h7⊢
      exact h7) (Nat.zero_le _) (OEx.ok T4)⟩
end
theorem ok_all:∀(n:Nat) (j:J) (l:List Tok),Rtk l→Wok (pr n j l) fun f m=>Rtk m∧Okj j f
 | 0,_,_,_=>trivial
 | n+1,j,l,hl=>ok_step (ok_all n) j l hl
end Go.Proofs.YtkjbgggghigapaaGreat





namespace Go.Proofs.YtkjbgggghigapaaGreat
theorem decodeN_local (n n' b0 b1 b2 b3 c1 c2 c3:Nat) (hg:¬((Lib.decodeN n b0 b1 b2 b3).1=65533∧(Lib.decodeN n b0 b1 b2 b3).2=1)) (hn:(Lib.decodeN n b0 b1 b2 b3).2≤n')
 (h1:2≤(Lib.decodeN n b0 b1 b2 b3).2→c1=b1) (h2:3≤(Lib.decodeN n b0 b1 b2 b3).2→c2=b2) (h3:4≤(Lib.decodeN n b0 b1 b2 b3).2→c3=b3):
 Lib.decodeN n' b0 c1 c2 c3=Lib.decodeN n b0 b1 b2 b3:=by
 by_cases a1:b0<128
 ·unfold Lib.decodeN;rw[if_pos a1,if_pos a1]
 by_cases a2:b0 / 32=6∧1<n∧b1 / 64=2
 ·by_cases a3:b0 % 32 * 64+b1 % 64≥128
  ·have e:Lib.decodeN n b0 b1 b2 b3=(b0 % 32 * 64+b1 % 64,2):=by unfold Lib.decodeN;rw[if_neg a1,if_pos a2,if_pos a3]
   rw[e] at hn h1⊢
   obtain rfl:=h1 (Nat.le_refl _)
   unfold Lib.decodeN
   rw[if_neg a1,if_pos ⟨a2.1,hn,a2.2.2⟩,if_pos a3]
  ·have e:Lib.decodeN n b0 b1 b2 b3=(65533,1):=by unfold Lib.decodeN;rw[if_neg a1,if_pos a2,if_neg a3]
   rw[e] at hg;simp at hg
 by_cases a4:b0 / 16=14∧(1<n∧b1 / 64=2)∧2<n∧b2 / 64=2
 ·by_cases a5:b0 % 16 * 4096+b1 % 64 * 64+b2 % 64≥2048∧(b0 % 16 * 4096+b1 % 64 * 64+b2 % 64<55296∨57344≤b0 % 16 * 4096+b1 % 64 * 64+b2 % 64∧b0 % 16 * 4096+b1 % 64 * 64+b2 % 64≤1114111)
  ·have e:Lib.decodeN n b0 b1 b2 b3=(b0 % 16 * 4096+b1 % 64 * 64+b2 % 64,3):=by unfold Lib.decodeN;rw[if_neg a1,if_neg a2,if_pos a4,if_pos a5]
   rw[e] at hn h1 h2⊢
   obtain rfl:=h1 (show 2≤3 by omega)
   obtain rfl:=h2 (Nat.le_refl _)
   have hn':3≤n':=hn
   unfold Lib.decodeN
   rw[if_neg a1,if_neg (by omega),if_pos ⟨a4.1,⟨by omega,a4.2.1.2⟩,by omega,a4.2.2.2⟩,if_pos a5]
  ·have e:Lib.decodeN n b0 b1 b2 b3=(65533,1):=by unfold Lib.decodeN;rw[if_neg a1,if_neg a2,if_pos a4,if_neg a5]
   rw[e] at hg;simp at hg
 by_cases a6:b0 / 8=30∧(1<n∧b1 / 64=2)∧(2<n∧b2 / 64=2)∧3<n∧b3 / 64=2
 ·by_cases a7:b0 % 8 * 262144+b1 % 64 * 4096+b2 % 64 * 64+b3 % 64≥65536∧(b0 % 8 * 262144+b1 % 64 * 4096+b2 % 64 * 64+b3 % 64<55296∨57344≤b0 % 8 * 262144+b1 % 64 * 4096+b2 % 64 * 64+b3 % 64∧b0 % 8 * 262144+b1 % 64 * 4096+b2 % 64 * 64+b3 % 64≤1114111)
  ·have e:Lib.decodeN n b0 b1 b2 b3=(b0 % 8 * 262144+b1 % 64 * 4096+b2 % 64 * 64+b3 % 64,4):=by unfold Lib.decodeN;rw[if_neg a1,if_neg a2,if_neg a4,if_pos a6,if_pos a7]
   rw[e] at hn h1 h2 h3⊢
   obtain rfl:=h1 (show 2≤4 by omega)
   obtain rfl:=h2 (show 3≤4 by omega)
   obtain rfl:=h3 (Nat.le_refl _)
   have hn':4≤n':=hn
   unfold Lib.decodeN
   rw[if_neg a1,if_neg (by omega),if_neg (by omega),if_pos ⟨a6.1,⟨by omega,a6.2.1.2⟩,⟨by omega,a6.2.2.1.2⟩,by omega,a6.2.2.2.2⟩,if_pos a7]
  ·have e:Lib.decodeN n b0 b1 b2 b3=(65533,1):=by unfold Lib.decodeN;rw[if_neg a1,if_neg a2,if_neg a4,if_pos a6,if_neg a7]
   rw[e] at hg;simp at hg
 ·have e:Lib.decodeN n b0 b1 b2 b3=(65533,1):=by unfold Lib.decodeN;rw[if_neg a1,if_neg a2,if_neg a4,if_neg a6]
  rw[e] at hg;simp at hg
def okR (r:Rn):Prop:=¬(r.2.2=65533∧r.2.1=1)
theorem decode_local (s t:ByteArray) (p q:Nat) (hg:okR (p,wd s p,rn s p)) (hn:q+wd s p≤t.size) (hb:∀i,i<wd s p→t.get! (q+i)=s.get! (p+i)):wd t q=wd s p∧rn t q=rn s p:=by
 have h0:=wd_pos s p
 unfold okR at hg
 simp only at hg
 have key:Utf8.decode t q=Utf8.decode s p:=by
  unfold wd rn at *
  rw[Lib.decode_at s p] at *
  rw[Lib.decode_at t q]
  have e0:(t.get! q).toNat=(s.get! p).toNat:=by have:=hb 0 (by omega);simp only[Nat.add_zero] at this;rw[this]
  rw[e0]
  exact decodeN_local _ _ _ _ _ _ _ _ _ hg (by omega) (fun h=>by rw[hb 1 (by omega)]) (fun h=>by rw[hb 2 (by omega)]) (fun h=>by rw[hb 3 (by omega)])
 unfold wd rn
 rw[key]
 exact ⟨rfl,rfl⟩
end Go.Proofs.YtkjbgggghigapaaGreat


namespace Go.Proofs.YtkjbgggghigapaaGreat
open Go.RowKit
theorem qt_badc (q:UInt8):∀(m:Nat) (l:List UInt8) (i:Nat) (acc:List UInt8),l.length≤m→∀c o,qt q l i acc= .bad c o→c≠0∧o<i+l.length+1
 | 0,l,i,acc,hm,c,o,h=>by
   have :l=[]:=List.eq_nil_of_length_eq_zero (by omega)
   subst this;rw[qt_nil] at h;cases h;exact ⟨by omega,by omega⟩
 | m+1,[],i,acc,_,c,o,h=>by rw[qt_nil] at h;cases h;exact ⟨by omega,by omega⟩
 | m+1,x::t,i,acc,hm,c,o,h=>by
   simp only[List.length_cons] at hm⊢
   rw[qt] at h
   split at h
   ·cases h;exact ⟨by omega,by omega⟩
   ·split at h
    ·split at h
     ·cases h;exact ⟨by omega,by omega⟩
     ·cases h
    ·split at h
     ·split at h
      ·cases h;exact ⟨by omega,by omega⟩
      ·split at h
       ·cases h;exact ⟨by omega,by omega⟩
       ·have h2:=(esc_take t).1
        have:=qt_badc q m _ _ _ (by rw[List.length_drop];omega) c o h
        rw[List.length_drop] at this
        exact ⟨this.1,by omega⟩
     ·have:=qt_badc q m t _ _ (by omega) c o h
      exact ⟨this.1,by omega⟩
theorem qt_bado (q:UInt8):∀(m:Nat) (l:List UInt8) (i:Nat) (acc:List UInt8),l.length≤m→∀c o,qt q l i acc= .bad c o→o=0∨o<i+l.length
 | 0,l,i,acc,hm,c,o,h=>by
   have :l=[]:=List.eq_nil_of_length_eq_zero (by omega)
   subst this;rw[qt_nil] at h;cases h;exact .inl rfl
 | m+1,[],i,acc,_,c,o,h=>by rw[qt_nil] at h;cases h;exact .inl rfl
 | m+1,x::t,i,acc,hm,c,o,h=>by
   simp only[List.length_cons] at hm⊢
   rw[qt] at h
   split at h
   ·cases h;exact .inl rfl
   ·split at h
    ·split at h
     ·cases h;exact .inl rfl
     ·cases h
    ·split at h
     ·split at h
      ·cases h;exact .inl rfl
      ·split at h
       ·cases h;right;omega
       ·have h2:=(esc_take t).1
        have:=qt_bado q m _ _ _ (by rw[List.length_drop];omega) c o h
        rw[List.length_drop] at this
        omega
     ·have:=qt_bado q m t _ _ (by omega) c o h
      omega
theorem stp_badc (l:List UInt8) (hl:l≠[]) (c:Int) (o:Nat) (h:stp l= .bad c o):c≠0∧o<l.length:=by
 have hlen:=List.length_pos_iff.2 hl
 unfold stp at h
 split at h
 ·cases h
 ·split at h
  ·cases h
  ·split at h
   ·split at h
    ·cases h;exact ⟨by omega,hlen⟩
    ·cases h
   ·split at h
    ·split at h
     ·rename_i hz
      cases h;exact ⟨hz,hlen⟩
     ·cases h
    ·split at h
     ·split at h
      ·cases h
      ·rename_i hq
       cases h
       have h1:=qt_badc _ _ _ _ _ (Nat.le_refl _) _ _ hq
       have h2:=qt_bado _ _ _ _ _ (Nat.le_refl _) _ _ hq
       rw[List.length_drop] at h2
       exact ⟨h1.1,by omega⟩
     ·split at h
      ·cases h;exact ⟨by omega,hlen⟩
      ·cases h
theorem scn_badc:∀(m:Nat) (l:List UInt8) (p:Nat) (acc:List Tok),l.length≤m→∀c q,scn l p acc= .bad c q→c≠0∧q<p+l.length
 | 0,l,p,acc,hm,c,q,h=>by
   have :l=[]:=List.eq_nil_of_length_eq_zero (by omega)
   subst this;rw[scn_nil] at h;cases h
 | m+1,[],p,acc,_,c,q,h=>by rw[scn_nil] at h;cases h
 | m+1,x::u,p,acc,hm,c,q,h=>by
   have hp:=stp_pos (x::u) (by simp)
   cases hs:stp (x::u) with
   | skip n=>
     rw[scn_skip (by simp) hs] at h
     obtain ⟨h1,h2⟩:=hp.1 n hs
     have:=scn_badc m _ _ _ (by rw[List.length_drop];omega) c q h
     rw[List.length_drop] at this
     exact ⟨this.1,by omega⟩
   | tok k t v n=>
     rw[scn_tok (by simp) hs] at h
     obtain ⟨h1,h2⟩:=hp.2 k t v n hs
     have:=scn_badc m _ _ _ (by rw[List.length_drop];omega) c q h
     rw[List.length_drop] at this
     exact ⟨this.1,by omega⟩
   | bad d o=>
     rw[scn_bad (by simp) hs] at h
     cases h
     have:=stp_badc (x::u) (by simp) c o hs
     exact ⟨this.1,by omega⟩
structure OT (l:List UInt8) (a:Nat) (t:Tok):Prop where
 lo:a≤t.p
 hi:t.p<l.length
 kd:t.k≠6
 tx:t.k≠4→t.t≠[]∧t.p+t.t.length≤l.length∧(l.drop t.p).take t.t.length=t.t
 nm:t.k=1→letB (rnL t.t)=true∧wordB t.t=false
def nxt (t:Tok):Nat:=if t.k=4 then t.p+1 else t.p+t.t.length
def GT (l:List UInt8):Nat→List Tok→Prop
 | _,[]=>False
 | a,t::r=>match r with
   | []=>t.k=6∧t.t=[]∧t.p=l.length∧a≤l.length
   | _::_=>OT l a t∧GT l (nxt t) r
theorem GT.ne {l:List UInt8} {a:Nat} {r:List Tok} (h:GT l a r):r≠[]:=fun e=>by subst e;exact h
theorem rnL_take (l:List UInt8) (n:Nat) (h0:l≠[]) (h1:wdL l≤n) (hv:¬(rnL l=65533∧wdL l=1)):rnL (l.take n)=rnL l:=by
 have hle:=wdL_le l h0
 have hpos:=wdL_pos l
 have:=decode_local ⟨l.toArray⟩ ⟨(l.take n).toArray⟩ 0 0 (by unfold okR;exact hv) (by rw[sz_list,List.length_take];show 0+wdL l≤_;omega) (fun i hi=>by
  rw[get_list,get_list]
  simp only[Nat.zero_add]
  have hi':i<wdL l:=hi
  rw[List.getD_eq_getElem?_getD,List.getD_eq_getElem?_getD,List.getElem?_take_of_lt (by omega)])
 exact this.2
theorem stp_tok (l:List UInt8) (hl:l≠[]) (k:Int) (t:List UInt8) (v:Int) (n:Nat) (h:stp l= .tok k t v n):
 k≠6∧(k≠4→t=l.take n)∧(k=1→letB (rnL t)=true∧wordB t=false)∧(1≤k∧k≤5):=by
 unfold stp at h
 split at h
 ·cases h
 ·split at h
  ·cases h
  ·split at h
   ·rename_i hlt
    split at h
    ·cases h
    ·cases h
     refine ⟨by split<;>omega,fun _=>rfl,fun hk=>?_,by split<;>omega⟩
     have hw:wordB (l.take (spn inNm l))=false:=by
      cases hw:wordB (l.take (spn inNm l))
      ·rfl
      ·rw[hw] at hk;simp at hk
     have hf:inNm (rnL l)=true:=by unfold inNm;rw[hlt];rfl
     refine ⟨?_,hw⟩
     rw[rnL_take l _ hl (by rw[spn_yes inNm l hl hf];omega) (fun hc=>by
      have:=hc.1
      rw[this] at hlt
      exact absurd hlt (by decide))]
     exact hlt
   ·split at h
    ·split at h
     ·cases h
     ·cases h;exact ⟨by omega,fun _=>rfl,fun hk=>absurd hk (by omega),by omega⟩
    ·split at h
     ·split at h
      ·cases h;exact ⟨by omega,fun hk=>absurd rfl hk,fun hk=>absurd hk (by omega),by omega⟩
      ·cases h
     ·split at h
      ·cases h
      ·cases h;exact ⟨by omega,fun _=>rfl,fun hk=>absurd hk (by omega),by omega⟩
theorem scn_GT (l:List UInt8):∀(m p:Nat) (acc:List Tok) (ts:List Tok),l.length - p≤m→p≤l.length→scn (l.drop p) p acc= .ok ts→∃body,ts=acc++body∧∀a,a≤p→GT l a body
 | m,p,acc,ts,hm,hp,h=>by
   by_cases hlt:p<l.length
   ·have hne:l.drop p≠[]:=fun e=>by have:=congrArg List.length e;simp at this;omega
    have hpos:=stp_pos (l.drop p) hne
    rw[List.length_drop] at hpos
    cases m with
    | zero=>omega
    | succ m=>
      cases hs:stp (l.drop p) with
      | skip n=>
        rw[scn_skip hne hs,List.drop_drop] at h
        obtain ⟨h1,h2⟩:=hpos.1 n hs
        obtain ⟨body,e1,e2⟩:=scn_GT l m (p+n) acc ts (by omega) (by omega) h
        exact ⟨body,e1,fun a ha=>e2 a (by omega)⟩
      | tok k t v n=>
        rw[scn_tok hne hs,List.drop_drop] at h
        obtain ⟨h1,h2⟩:=hpos.2 k t v n hs
        obtain ⟨body,e1,e2⟩:=scn_GT l m (p+n) _ ts (by omega) (by omega) h
        obtain ⟨k1,k2,k3,k4⟩:=stp_tok (l.drop p) hne k t v n hs
        have hot:∀a,a≤p→OT l a ⟨k,t,v,p⟩:=fun a ha=>{
         lo:=ha,hi:=hlt,kd:=k1
         tx:=fun hk=>by
           have ht:=k2 hk
           have hl:t.length=n:=by rw[ht,List.length_take,List.length_drop];omega
           refine ⟨fun e=>?_,?_,?_⟩
           ·have e':t=[]:=e
            rw[e'] at hl;simp at hl;omega
           ·show p+t.length≤_;omega
           ·show (l.drop p).take t.length=t;rw[hl,←ht]
         nm:=k3}
        have hnx:nxt ⟨k,t,v,p⟩≤p+n:=by
         unfold nxt
         by_cases hk:k=4
         ·rw[if_pos hk];show p+1≤_;omega
         ·rw[if_neg hk]
          show p+t.length≤_
          rw[k2 hk,List.length_take];omega
        refine ⟨⟨k,t,v,p⟩::body,by rw[e1];simp,fun a ha=>?_⟩
        have hb:=e2 (nxt ⟨k,t,v,p⟩) hnx
        cases body with
        | nil=>exact absurd rfl hb.ne
        | cons y z=>exact ⟨hot a ha,hb⟩
      | bad d o=>rw[scn_bad hne hs] at h;cases h
   ·have e:l.drop p=[]:=List.drop_of_length_le (by omega)
    rw[e,scn_nil] at h
    cases h
    exact ⟨_,rfl,fun a ha=>⟨rfl,rfl,by show p=_;omega,by omega⟩⟩
theorem scT_ok (l:List UInt8) (h:(scT l).2.1=0):GT l 0 (scT l).1∧¬20000<l.length∧(scT l).2.2=0:=by
 unfold scT at h⊢
 split
 ·rename_i hb
  rw[if_pos hb] at h;simp at h
 ·rename_i hb
  rw[if_neg hb] at h
  cases hs:scn l 0 [] with
  | ok ts=>
    obtain ⟨body,e1,e2⟩:=scn_GT l _ 0 [] ts (Nat.le_refl _) (Nat.zero_le _) hs
    rw[List.nil_append] at e1
    subst e1
    exact ⟨e2 0 (Nat.le_refl _),hb,rfl⟩
  | bad c q=>
    rw[hs] at h
    have:=scn_badc _ l 0 [] (Nat.le_refl _) c q hs
    exact absurd h this.1
end Go.Proofs.YtkjbgggghigapaaGreat


namespace Go.Proofs.YtkjbgggghigapaaGreat
theorem qt_len (q:UInt8):∀(m:Nat) (l:List UInt8) (i:Nat) (acc:List UInt8),l.length≤m→∀v n,qt q l i acc= .ok v n→v.length≤10000:=by
 intro m
 induction m with
 | zero=>
   intro l i acc hl v n h
   have :l=[]:=List.length_eq_zero_iff.1 (by omega)
   subst this
   rw[qt] at h
   cases h
 | succ m ih=>
   intro l i acc hl v n h
   cases l with
   | nil=>rw[qt] at h;cases h
   | cons c t=>
     have hu:∀n,(t.drop n).length≤m:=fun n=>by simp at hl⊢;omega
     rw[qt] at h
     split at h
     ·cases h
     split at h
     ·split at h
      ·cases h
      ·injection h with h1 h2
       rw[←h1]
       omega
     split at h
     ·split at h
      ·cases h
      split at h
      ·cases h
      exact ih _ _ _ (hu _) v n h
     ·exact ih _ _ _ (by simp at hl;exact hl) v n h
theorem parN_in (l:List UInt8):-9223372036854775808≤W.parN l∧W.parN l≤9223372036854775807:=by
 unfold W.parN
 generalize W.numN l 9223372036854775807=x
 unfold Go.RowKit.wrap64
 omega
theorem stp_rtk (l:List UInt8) (hl:l.length≤20000) (k:Int) (t:List UInt8) (v:Int) (n:Nat) (h:stp l= .tok k t v n):t.length≤20000∧ -9223372036854775808≤v∧v≤9223372036854775807:=by
 have hT:∀m,(l.take m).length≤20000:=fun m=>by rw[List.length_take];omega
 unfold stp at h
 split at h
 ·cases h
 split at h
 ·cases h
 split at h
 ·split at h
  ·cases h
  ·injection h with h1 h2 h3 h4
   subst h2 h3
   exact ⟨hT _,by decide,by decide⟩
 split at h
 ·split at h
  ·cases h
  ·injection h with h1 h2 h3 h4
   subst h2 h3
   exact ⟨hT _,parN_in _⟩
 split at h
 ·split at h
  ·next v' n' hq=>
   injection h with h1 h2 h3 h4
   subst h2 h3
   exact ⟨by have:=qt_len _ _ _ _ _ (Nat.le_refl _) _ _ hq;omega,by decide,by decide⟩
  ·cases h
 split at h
 ·cases h
 ·injection h with h1 h2 h3 h4
  subst h2 h3
  exact ⟨hT _,by decide,by decide⟩
theorem scn_rtk:∀(m:Nat) (l:List UInt8) (p:Nat) (acc ts:List Tok),l.length≤m→m≤20000→Rtk acc→scn l p acc= .ok ts→Rtk ts:=by
 intro m
 induction m with
 | zero=>
   intro l p acc ts hl _ ha h
   have :l=[]:=List.length_eq_zero_iff.1 (by omega)
   subst this
   rw[scn] at h
   injection h with h
   subst h
   intro x hx
   rcases List.mem_append.1 hx with hx | hx
   ·exact ha x hx
   ·have:=List.mem_singleton.1 hx;subst this;exact ⟨Nat.zero_le _,by show (-9223372036854775808:Int)≤0;decide,by show (0:Int)≤9223372036854775807;decide⟩
 | succ m ih=>
   intro l p acc ts hl hm ha h
   cases l with
   | nil=>
     rw[scn] at h
     injection h with h
     subst h
     intro x hx
     rcases List.mem_append.1 hx with hx | hx
     ·exact ha x hx
     ·have:=List.mem_singleton.1 hx;subst this;exact ⟨Nat.zero_le _,by show (-9223372036854775808:Int)≤0;decide,by show (0:Int)≤9223372036854775807;decide⟩
   | cons c u=>
     have hu:∀n,(u.drop n).length≤m:=fun n=>by simp at hl⊢;omega
     rw[scn] at h
     split at h
     ·exact ih _ _ _ _ (hu _) (by omega) ha h
     ·next k t v n hs=>
      refine ih _ _ _ _ (hu _) (by omega) (fun x hx=>?_) h
      rcases List.mem_append.1 hx with hx | hx
      ·exact ha x hx
      ·have:=List.mem_singleton.1 hx;subst this;exact stp_rtk _ (by omega) _ _ _ _ hs
     ·cases h
theorem scT_rtk (l:List UInt8):Rtk (scT l).1:=by
 unfold scT
 split
 ·intro x hx;cases hx
 ·next hb=>
  split
  ·next ts h=>exact scn_rtk _ _ _ _ _ (Nat.le_refl _) (by omega) (fun x hx=>by cases hx) h
  ·intro x hx;cases hx
end Go.Proofs.YtkjbgggghigapaaGreat


namespace Go.Proofs.YtkjbgggghigapaaGreat
open Go.RowKit
def HC:Prop:=∀(b m:Nat) (T l:List Tok) (W:World),PS b m T l W→Calls Tryz.prog 29 #[.pointer (some ⟨b,0,none⟩)] W (PN b m T W (chk l))
theorem GT.ends {l:List UInt8}:∀(r:List Tok) (a:Nat),GT l a r→Ends r
 | [],_,h=>h.elim
 | [t],_,h=>⟨[],t,rfl,h.1⟩
 | t::u::r,a,h=>by
   obtain ⟨p,e,h1,h2⟩:=GT.ends (u::r) _ h.2
   exact ⟨t::p,e,by rw[h1];rfl,h2⟩
theorem OT.nxt {l:List UInt8} {a:Nat} {t:Tok} (h:OT l a t):t.p<nxt t:=by
 unfold Go.Proofs.YtkjbgggghigapaaGreat.nxt
 split
 ·omega
 ·rename_i hk
  have:=List.length_pos_iff.2 (h.tx hk).1
  omega
theorem GT.len {l:List UInt8}:∀(r:List Tok) (a:Nat),GT l a r→r.length+a≤l.length+1
 | [],_,h=>h.elim
 | [t],a,h=>by have:=h.2.2.2;simp;omega
 | t::u::r,a,h=>by
   have h1:=GT.len (u::r) _ h.2
   have h2:=h.1.nxt
   have h3:=h.1.lo
   simp only[List.length_cons] at h1⊢
   omega
def noF:F:=one 0 [] 0 0 .nil
def outT:PR→F×Int×Int
 | .ok f _=>(f,0,0)
 | .bad p=>(noF,4,p)
 | .out=>(noF,0,0)
def prT (l:List UInt8):F×Int×Int:=
 if (scT l).2.1≠0 then (noF,(scT l).2.1,(scT l).2.2) else outT (chk (scT l).1)
theorem PS.make {w:World} {v:Value} {ts:List Tok} {b base:Nat} (own:w.ownsRow base 114 4 v ts.length (cellsT ts)) (hp:Bx b 94 #[v,.int .i64 0] w) (hlt:∀g,v.ownBlock=some g→g<b) (ends:Ends ts) (small:ts.length≤20001):PS b (b+1) ts ts w:=by
 have hb:=hp.lt
 rcases own.2 with ⟨rfl,h0⟩ | ⟨g,cap,cur,rfl,h2,h3,r1,r2,r3,r4⟩
 ·exact absurd (List.eq_nil_of_length_eq_zero h0) ends.ne
 ·have hg:=hlt g rfl
  refine ⟨⟨g,cap,hp.c 0 _ rfl,by omega,by omega,fun j u hu=>?_⟩,⟨0,hp.c 1 _ rfl,rfl,by simp⟩,hp.f 1,⟨by omega,by omega⟩,ends,small⟩
  rw[cell_of_row w g j cur 114 (0,0) h3]
  rw[←r4] at hu
  rw[List.getElem?_take] at hu
  split at hu
  ·simpa using hu
  ·cases hu
theorem pa_yes (v:Value) (w:World):(Instr.typeAssert (.iface 91 v) 20 91 true).run Tryz.prog w= .ok (.tuple #[v,.bool true]) w:=by
 have hu:=Tryz.underlying91
 unfold Instr.typeAssert
 simp_all[run_underlying hu,go_sem,Result.andThen]
theorem pa_nil (w:World):(Instr.typeAssert .nilIface 20 91 true).run Tryz.prog w= .ok (.tuple #[.agg #[.int .i64 0,.int .i64 0],.bool false]) w:=by
 have hu:=Tryz.underlying91
 have hz:∀w,(zeroValue 91).run Tryz.prog w= .ok (.agg #[.int .i64 0,.int .i64 0]) w:=fun w=>by kernel_rfl
 unfold Instr.typeAssert
 simp_all[run_underlying hu,go_sem,Result.andThen]
set_option maxHeartbeats 2000000 in
theorem pcatch_idle (a:Nat) (w:World):
 CallsD Tryz.prog 28 #[.pointer (some ⟨a,0,none⟩),.pointer (some ⟨a+1,0,none⟩)] .returning w fun e u' w'=>e= .returned (.tuple #[])∧u'= .returning∧Below w.heap.size w w':=by
 have hta:=pa_nil
 refine callsD_of_wpS Tryz.func28 rfl fun c₀ cs hu=>?_
 apply wpS_seq
 apply wpS_region
 simp[wpOpsS,go_sem,recoverD,hu,Tryz.ntmps28,Exit.thenS,hta]
 refine wpS_of_wp ?_
 change Code.wp Tryz.prog _ _ ⟨#[.pointer (some ⟨a,0,none⟩),.pointer (some ⟨a+1,0,none⟩),.pointer (some ⟨w.heap.size,0,none⟩),.bool false,.tuple #[.agg #[.int .i64 0,.int .i64 0],.bool false],.nilIface,.tuple #[.agg #[.int .i64 0,.int .i64 0],.bool false],.agg #[.int .i64 0,.int .i64 0],.bool false,undef,undef,undef],[]⟩ _
 go_wp2
 refine ⟨rfl,.returning,by cases c₀;simp_all,.tuple #[],by simp[results,Tryz.results28,go_sem],rfl,rfl,(Below.refl _ _).alloc (Nat.le_refl _) _⟩
theorem arr12 (p0 p1 v2 v3 v4 v5 v6 v7 v8:Value):#[p0,p1]++(((((((Array.replicate 10 undef).setIfInBounds 3 v5).setIfInBounds 4 v6).setIfInBounds 2 v4).setIfInBounds 5 v7).setIfInBounds 6 v8).setIfInBounds 0 v2).setIfInBounds 1 v3=#[p0,p1,v2,v3,v4,v5,v6,v7,v8,undef,undef,undef]:=by kernel_rfl
set_option maxHeartbeats 4000000 in
theorem pcatch_panicking (a:Nat) (c x:Int) (older:List PanicEntry) (w:World) {u0 u1 u2 u3 u4 f0 f1:Value} (h0:Bx a 54 #[u0,u1,u2,u3,u4] w) (h1:Bx (a+1) 28 #[f0,f1] w):
 CallsD Tryz.prog 28 #[.pointer (some ⟨a,0,none⟩),.pointer (some ⟨a+1,0,none⟩)] (.panicking ({v:=.iface 91 (.agg #[.int .i64 c,.int .i64 x]),recovered:=false}::older)) w fun e u' w'=>
  e= .returned (.tuple #[])∧u'= .panicking ({v:=.iface 91 (.agg #[.int .i64 c,.int .i64 x]),recovered:=true}::older)∧Bx a 54 #[.int .i64 0,.string ⟨#[]⟩,.int .i64 0,.int .i64 0,.slice none 0 0] w'∧Bx (a+1) 28 #[.int .i64 c,.int .i64 x] w'∧Below a w w':=by
 have hta:=pa_yes
 have hlt:=h1.lt
 obtain ⟨g0,g1,g2,g3,g4⟩:=h0.fiveA
 obtain ⟨k0,k1,k2,k3,k4⟩:=h0.frozen5A
 have e0:=fun o=>(h1.alloc o).c 0 _ rfl
 have e1:=fun o=>(h1.alloc o).c 1 _ rfl
 have l0:=fun o=>(h1.alloc o).f 0
 have l1:=fun o=>(h1.alloc o).f 1
 refine callsD_of_wpS Tryz.func28 rfl fun c₀ cs hu=>?_
 apply wpS_seq
 apply wpS_region
 simp[wpOpsS,go_sem,recoverD,hu,Tryz.ntmps28,Exit.thenS,hta]
 refine wpS_of_wp ?_
 rw[arr12]
 go_wp2
 go_region
 all_goals
  refine ⟨rfl,.panicking ({v:=.iface 91 (.agg #[.int .i64 c,.int .i64 x]),recovered:=true}::older),by cases c₀;simp_all,.tuple #[],by simp[results,Tryz.results28,go_sem],rfl,rfl,?_⟩
  exact ⟨(((((h0.alloc _).five_put _ _ _ _ _).set (by omega) _).set (by omega) _).drew),((((h1.alloc _).five_set (by omega) _ _ _ _ _).put (j:=0) _).put (j:=1) _).drew,(((((((((Below.refl a w).alloc (by omega) _).setCell (Nat.le_refl _) _).setCell (Nat.le_refl _) _).setCell (Nat.le_refl _) _).setCell (Nat.le_refl _) _).setCell (Nat.le_refl _) _).setCell (Nat.le_succ _) _).setCell (Nat.le_succ _) _).drew⟩
set_option maxHeartbeats 4000000 in
theorem fin9 {Post:Ending→World→Prop} {W:World} {a:Nat} {k n p:Int} {t:ByteArray} {sa:Option Addr} {sl sc:Nat} {c x:Int} {x0 x1 x4 x5 x6 x7 x8 x9 x10 x11 x12 x13 x14 x15 x16 x17 x18 x19 x20:Value} (h0:Bx a 54 #[.int .i64 k,.string t,.int .i64 n,.int .i64 p,.slice sa sl sc] W) (h1:Bx (a+1) 28 #[.int .i64 c,.int .i64 x] W)
 (h:Post (.returned (.tuple #[.agg #[.int .i64 k,.string t,.int .i64 n,.int .i64 p,.slice sa sl sc],.agg #[.int .i64 c,.int .i64 x]])) W):
 bodyPostD Tryz.prog Tryz.f16 Post Exit.ret ⟨#[x0,x1,.pointer (some ⟨a,0,none⟩),.pointer (some ⟨a+1,0,none⟩),x4,x5,x6,x7,x8,x9,x10,x11,x12,x13,x14,x15,x16,x17,x18,x19,x20],[]⟩ W:=by
 obtain ⟨z0,z1,z2,z3,z4⟩:=h0.five
 have y0:=h1.c 0 _ rfl
 have y1:=h1.c 1 _ rfl
 simp[bodyPostD,Leaves,results,Tryz.results16,go_sem,z0,z1,z2,z3,z4,y0,y1]
 exact h
set_option maxHeartbeats 4000000 in
theorem Parse_fault (s:ByteArray) (w:World) (hs:s.size≤9223372036854775807) (ts:List Tok) (c x:Int) (hsc:scT s.data.toList=(ts,c,x)) (hc:¬c=0):
 Calls Tryz.prog 16 #[.string s] w fun e W'=>e= .returned (.tuple #[(.agg #[.int .i64 (0),.string ⟨#[]⟩,.int .i64 (0),.int .i64 (0),.slice none 0 0]),.agg #[.int .i64 c,.int .i64 x]])∧Below w.heap.size w W':=by
 have hmf:∀(fn:Go.Fn) (first cap:Array Value) (w:World),(Instr.makeFunc fn first cap).run Tryz.prog w= .ok (.func fn first cap) w:=fun _ _ _ _=>rfl
 have CS:=Scan_any s ((w.alloc (.cells #[.int .i64 0,.string ⟨#[]⟩,.int .i64 0,.int .i64 0,.slice none 0 0] 54)).alloc (.cells #[.int .i64 0,.int .i64 0] 28)) hs
 rw[hsc] at CS
 have hnq:∀W,(binOp .neq 28 (.agg #[.int .i64 c,.int .i64 x]) (.agg #[.int .i64 0,.int .i64 0])).run Tryz.prog W= .ok (.bool true) W:=fun W=>by rw[neq27];simp[hc]
 have B0:=(Bx.new w 54 #[.int .i64 0,.string ⟨#[]⟩,.int .i64 0,.int .i64 0,.slice none 0 0]).alloc (.cells #[.int .i64 0,.int .i64 0] 28)
 have B1:=Bx.new (w.alloc (.cells #[.int .i64 0,.string ⟨#[]⟩,.int .i64 0,.int .i64 0,.slice none 0 0] 54)) 28 #[.int .i64 0,.int .i64 0]
 have e1:(w.alloc (.cells #[.int .i64 0,.string ⟨#[]⟩,.int .i64 0,.int .i64 0,.slice none 0 0] 54)).heap.size=w.heap.size+1:=by simp
 rw[e1] at B1
 have K0:Below w.heap.size w ((w.alloc (.cells #[.int .i64 0,.string ⟨#[]⟩,.int .i64 0,.int .i64 0,.slice none 0 0] 54)).alloc (.cells #[.int .i64 0,.int .i64 0] 28)):=((Below.refl _ w).alloc (Nat.le_refl _) _).alloc (by simp) _
 clear e1
 go_enter_defers Tryz.func16,Tryz.ntmps16
 go_wp2_with (go_at_call 27;refine CS.mono ?_;rintro e w1 ⟨v,rfl,hown,hB⟩;have C0:=B0.below hB;have C1:=B1.below hB;have KB:=K0.trans (hB.mono K0.size);obtain ⟨av,cv,rfl⟩:=slice_shape hown;obtain ⟨q0,q1,q2,q3,q4⟩:=C0.five;obtain ⟨f0,f1,f2,f3,f4⟩:=C0.frozen5;have r0:=C1.c 0 _ rfl;have r1:=C1.c 1 _ rfl;have g0:=C1.f 0;have g1:=C1.f 1;clear hown hB)
 go_region
 all_goals
  go_wp2
  have D0:=((((C0.set (b:=w.heap.size+1) (o:=0) (by omega) (.int .i64 c)).set (b:=w.heap.size+1) (o:=1) (by omega) (.int .i64 x)).five_put (.int .i64 0) (.string ⟨#[]⟩) (.int .i64 0) (.int .i64 0) (.slice none 0 0)).set (b:=w.heap.size+1) (o:=0) (by omega) (.int .i64 c)).set (b:=w.heap.size+1) (o:=1) (by omega) (.int .i64 x)
  have D1:=((((C1.put (j:=0) (.int .i64 c)).put (j:=1) (.int .i64 x)).five_set (Y:=w.heap.size) (by omega) (.int .i64 0) (.string ⟨#[]⟩) (.int .i64 0) (.int .i64 0) (.slice none 0 0)).put (j:=0) (.int .i64 c)).put (j:=1) (.int .i64 x)
  have K9:=((((((((((KB.setCell (p:=⟨w.heap.size+1,0,none⟩) (Nat.le_succ _) (.int .i64 c)).setCell (p:=⟨w.heap.size+1,1,none⟩) (Nat.le_succ _) (.int .i64 x)).setCell (p:=⟨w.heap.size,0,none⟩) (Nat.le_refl _) (.int .i64 0)).setCell (p:=⟨w.heap.size,1,none⟩) (Nat.le_refl _) (.string ⟨#[]⟩)).setCell (p:=⟨w.heap.size,2,none⟩) (Nat.le_refl _) (.int .i64 0)).setCell (p:=⟨w.heap.size,3,none⟩) (Nat.le_refl _) (.int .i64 0)).setCell (p:=⟨w.heap.size,4,none⟩) (Nat.le_refl _) (.slice none 0 0)).setCell (p:=⟨w.heap.size+1,0,none⟩) (Nat.le_succ _) (.int .i64 c)).setCell (p:=⟨w.heap.size+1,1,none⟩) (Nat.le_succ _) (.int .i64 x))).drew
  have D2:=D0.drew
  have D3:=D1.drew
  generalize World.drew _=W3 at D2 D3 K9⊢
  exact fin9 D2 D3 ⟨rfl,K9⟩
set_option maxRecDepth 20000 in
set_option maxHeartbeats 8000000 in
theorem Parse_go (HC0:HC) (s:ByteArray) (w:World) (hs:s.size≤9223372036854775807) (ts:List Tok) (hsc:scT s.data.toList=(ts,0,0)) (ends:Ends ts) (small:ts.length≤20001) (R:PR) (hR:chk ts=R) (hno:R≠ .out):
 Calls Tryz.prog 16 #[.string s] w fun e W'=>∃k t n p a c ks cd x,e= .returned (.tuple #[(.agg #[.int .i64 (k),.string ⟨(t).toArray⟩,.int .i64 (n),.int .i64 (p),.slice a ks.len c]),.agg #[.int .i64 cd,.int .i64 x]])∧(one k t n p ks,cd,x)=outT R∧TN 54 W' (fun g=>w.heap.size≤g) k t n p (.slice a ks.len c) ks∧Below w.heap.size w W':=by
 have hmf:∀(fn:Go.Fn) (first cap:Array Value) (w:World),(Instr.makeFunc fn first cap).run Tryz.prog w= .ok (.func fn first cap) w:=fun _ _ _ _=>rfl
 have CS:=Scan_any s ((w.alloc (.cells #[.int .i64 0,.string ⟨#[]⟩,.int .i64 0,.int .i64 0,.slice none 0 0] 54)).alloc (.cells #[.int .i64 0,.int .i64 0] 28)) hs
 rw[hsc] at CS
 have hnq:∀W,(binOp .neq 28 (.agg #[.int .i64 0,.int .i64 0]) (.agg #[.int .i64 0,.int .i64 0])).run Tryz.prog W= .ok (.bool false) W:=fun W=>by rw[neq27];simp
 have B0:=(Bx.new w 54 #[.int .i64 0,.string ⟨#[]⟩,.int .i64 0,.int .i64 0,.slice none 0 0]).alloc (.cells #[.int .i64 0,.int .i64 0] 28)
 have B1:=Bx.new (w.alloc (.cells #[.int .i64 0,.string ⟨#[]⟩,.int .i64 0,.int .i64 0,.slice none 0 0] 54)) 28 #[.int .i64 0,.int .i64 0]
 have e1:(w.alloc (.cells #[.int .i64 0,.string ⟨#[]⟩,.int .i64 0,.int .i64 0,.slice none 0 0] 54)).heap.size=w.heap.size+1:=by simp
 have e2:((w.alloc (.cells #[.int .i64 0,.string ⟨#[]⟩,.int .i64 0,.int .i64 0,.slice none 0 0] 54)).alloc (.cells #[.int .i64 0,.int .i64 0] 28)).heap.size=w.heap.size+2:=by simp
 rw[e1] at B1
 have K0:Below w.heap.size w ((w.alloc (.cells #[.int .i64 0,.string ⟨#[]⟩,.int .i64 0,.int .i64 0,.slice none 0 0] 54)).alloc (.cells #[.int .i64 0,.int .i64 0] 28)):=((Below.refl _ w).alloc (Nat.le_refl _) _).alloc (by simp) _
 rw[e2] at CS
 have HE2:Hid (((w.alloc (.cells #[.int .i64 0,.string ⟨#[]⟩,.int .i64 0,.int .i64 0,.slice none 0 0] 54)).alloc (.cells #[.int .i64 0,.int .i64 0] 28)).heap.size=w.heap.size+2):=e2
 clear e1 e2
 go_enter_defers Tryz.func16,Tryz.ntmps16
 go_wp2_with (go_at_call 27;refine CS.mono ?_;rintro e w1 ⟨v,rfl,hown,hB⟩;rw[←HE2.out] at hB;have C0:=B0.below hB;have C1:=B1.below hB;have KB:=K0.trans (hB.mono K0.size);have hz1:w.heap.size+2≤w1.heap.size:=(by have:=hB.size;have:=HE2.out;omega);obtain ⟨av,cv,rfl⟩:=slice_shape hown;obtain ⟨q0,q1,q2,q3,q4⟩:=C0.five;obtain ⟨f0,f1,f2,f3,f4⟩:=C0.frozen5;have r0:=C1.c 0 _ rfl;have r1:=C1.c 1 _ rfl;have g0:=C1.f 0;have g1:=C1.f 1)
 have C2:=(C0.set (b:=w.heap.size+1) (o:=0) (by omega) (.int .i64 0)).set (b:=w.heap.size+1) (o:=1) (by omega) (.int .i64 0)
 have C3:=(C1.put (j:=0) (.int .i64 0)).put (j:=1) (.int .i64 0)
 have hw2:((w1.setCell ⟨w.heap.size+1,0,none⟩ (.int .i64 0)).setCell ⟨w.heap.size+1,1,none⟩ (.int .i64 0)).ownsRow (w.heap.size+2) 114 4 (.slice av ts.length cv) ts.length (cellsT ts):=ownsRow_setCell_below (ownsRow_setCell_below hown (by show w.heap.size+1<_;omega) _) (by show w.heap.size+1<_;omega) _
 have hKK:Below w.heap.size w ((w1.setCell ⟨w.heap.size+1,0,none⟩ (.int .i64 0)).setCell ⟨w.heap.size+1,1,none⟩ (.int .i64 0)):=(KB.setCell (Nat.le_succ _) _).setCell (Nat.le_succ _) _
 have hzs:((w1.setCell ⟨w.heap.size+1,0,none⟩ (.int .i64 0)).setCell ⟨w.heap.size+1,1,none⟩ (.int .i64 0)).heap.size=w1.heap.size:=by simp
 obtain ⟨W2,hW2⟩:∃W2,(w1.setCell ⟨w.heap.size+1,0,none⟩ (.int .i64 0)).setCell ⟨w.heap.size+1,1,none⟩ (.int .i64 0)=W2:=⟨_,rfl⟩
 rw[hW2] at C2 C3 hw2 hKK hzs⊢
 have B5:=Bx.new W2 94 #[.slice av ts.length cv,.int .i64 0]
 rw[hzs] at B5
 have P5:=PS.make (own_below hw2 ((Below.refl _ W2).alloc (Nat.le_refl _) (.cells #[.slice av ts.length cv,.int .i64 0] 94))) B5 (fun g e=>by have:=(hw2.lt g e).2;omega) ends small
 have CC5:=HC0 _ _ ts ts _ P5
 rw[hR] at CC5
 have C4:=C2.alloc (.cells #[.slice av ts.length cv,.int .i64 0] 94)
 have C5:=C3.alloc (.cells #[.slice av ts.length cv,.int .i64 0] 94)
 have hK5:=hKK.alloc (by have:=hKK.size;omega) (.cells #[.slice av ts.length cv,.int .i64 0] 94)
 obtain ⟨W5,hW5⟩:∃W5,W2.alloc (.cells #[.slice av ts.length cv,.int .i64 0] 94)=W5:=⟨_,rfl⟩
 rw[hW5] at CC5 C4 C5 hK5⊢
 clear C0 C1 C2 C3 KB hown hB hw2 hKK B5 P5 q0 q1 q2 q3 q4 f0 f1 f2 f3 f4 r0 r1 g0 g1 CS B0 B1 K0 HE2 hW2 hW5 hzs
 refine CC5.mono ?_
 cases R with
 | out=>exact absurd rfl hno
 | bad p=>
   rintro e w6 ⟨he,hk6⟩
   unfold refp at he
   subst he
   have D0:=C4.ky hk6 (by omega)
   have D1:=C5.ky hk6 (by omega)
   have hK6:Below w.heap.size w w6:=hK5.trans ⟨hk6.os,hk6.tape,hk6.output,hk6.size,fun g hg=>hk6.block g (by have:=hK5.size;omega) (by omega)⟩
   go_wp2
   refine leaves_cons (f:=28) (args:=#[.pointer (some ⟨w.heap.size,0,none⟩),.pointer (some ⟨w.heap.size+1,0,none⟩)]) (by simp) (by simp[go_sem]) ?_
   refine (pcatch_panicking w.heap.size 4 p [] w6 D0 D1).mono ?_
   rintro e u' w7 ⟨rfl,rfl,E0,E1,hB7⟩
   obtain ⟨z0,z1,z2,z3,z4⟩:=E0.five
   have y0:=E1.c 0 _ rfl
   have y1:=E1.c 1 _ rfl
   simp[Leaves,settle,results,Tryz.results16,go_sem,z0,z1,z2,z3,z4,y0,y1,outT]
   exact ⟨0,[],0,0,none,0,.nil,4,p,⟨⟨rfl,rfl,rfl,rfl,rfl,rfl,rfl⟩,rfl,rfl⟩,⟨rfl,rfl,rfl⟩,TN.leaf _ _ _ _ _ _ _,hK6.trans hB7⟩
 | ok f l=>
   rintro e w6 ⟨k,tt,n,p,a1,c1,ks,rfl,rfl,hTN,hTk⟩
   have D0:=C4.ky hTk.ky (by omega)
   have D1:=C5.ky hTk.ky (by omega)
   have hz5:W5.heap.size≤w6.heap.size:=hTk.ky.size
   have hz4:=C5.lt
   have hK6:Below w.heap.size w w6:=hK5.trans ⟨hTk.ky.os,hTk.ky.tape,hTk.ky.output,hTk.ky.size,fun g hg=>hTk.ky.block g (by have:=hK5.size;omega) (by omega)⟩
   obtain ⟨q0,q1,q2,q3,q4⟩:=D0.five
   obtain ⟨f0,f1,f2,f3,f4⟩:=D0.frozen5
   have r0:=D1.c 0 _ rfl
   have r1:=D1.c 1 _ rfl
   have g0:=D1.f 0
   have g1:=D1.f 1
   go_wp2
   have E0:=((D0.five_put (.int .i64 k) (.string ⟨tt.toArray⟩) (.int .i64 n) (.int .i64 p) (.slice a1 ks.len c1)).set (b:=w.heap.size+1) (o:=0) (by omega) (.int .i64 0)).set (b:=w.heap.size+1) (o:=1) (by omega) (.int .i64 0)
   have E1:=((D1.five_set (Y:=w.heap.size) (by omega) (.int .i64 k) (.string ⟨tt.toArray⟩) (.int .i64 n) (.int .i64 p) (.slice a1 ks.len c1)).put (j:=0) (.int .i64 0)).put (j:=1) (.int .i64 0)
   have K9:=((((((hK6.setCell (p:=⟨w.heap.size,0,none⟩) (Nat.le_refl _) (.int .i64 k)).setCell (p:=⟨w.heap.size,1,none⟩) (Nat.le_refl _) (.string ⟨tt.toArray⟩)).setCell (p:=⟨w.heap.size,2,none⟩) (Nat.le_refl _) (.int .i64 n)).setCell (p:=⟨w.heap.size,3,none⟩) (Nat.le_refl _) (.int .i64 p)).setCell (p:=⟨w.heap.size,4,none⟩) (Nat.le_refl _) (.slice a1 ks.len c1)).setCell (p:=⟨w.heap.size+1,0,none⟩) (Nat.le_succ _) (.int .i64 0)).setCell (p:=⟨w.heap.size+1,1,none⟩) (Nat.le_succ _) (.int .i64 0)
   have hT6:=((hTN.five (X:=w.heap.size) (by omega) (.int .i64 k) (.string ⟨tt.toArray⟩) (.int .i64 n) (.int .i64 p) (.slice a1 ks.len c1)).set (X:=w.heap.size+1) (o:=0) (by omega) (.int .i64 0)).set (X:=w.heap.size+1) (o:=1) (by omega) (.int .i64 0)
   obtain ⟨W7,hW7⟩:∃W7,((((((w6.setCell ⟨w.heap.size,0,none⟩ (.int .i64 k)).setCell ⟨w.heap.size,1,none⟩ (.string ⟨tt.toArray⟩)).setCell ⟨w.heap.size,2,none⟩ (.int .i64 n)).setCell ⟨w.heap.size,3,none⟩ (.int .i64 p)).setCell ⟨w.heap.size,4,none⟩ (.slice a1 ks.len c1)).setCell ⟨w.heap.size+1,0,none⟩ (.int .i64 0)).setCell ⟨w.heap.size+1,1,none⟩ (.int .i64 0)=W7:=⟨_,rfl⟩
   rw[hW7] at E0 E1 K9 hT6⊢
   clear hW7 q0 q1 q2 q3 q4 f0 f1 f2 f3 f4 r0 r1 g0 g1 D0 D1
   refine leaves_cons (f:=28) (args:=#[.pointer (some ⟨w.heap.size,0,none⟩),.pointer (some ⟨w.heap.size+1,0,none⟩)]) (by simp) (by simp[go_sem]) ?_
   refine (pcatch_idle w.heap.size W7).mono ?_
   rintro e u' w8 ⟨rfl,rfl,hB8⟩
   obtain ⟨z0,z1,z2,z3,z4⟩:=(E0.below hB8).five
   have y0:=(E1.below hB8).c 0 _ rfl
   have y1:=(E1.below hB8).c 1 _ rfl
   refine ⟨.tuple #[(.agg #[.int .i64 (k),.string ⟨(tt).toArray⟩,.int .i64 (n),.int .i64 (p),.slice a1 ks.len c1]),.agg #[.int .i64 0,.int .i64 0]],by simp[results,Tryz.results16,go_sem,z0,z1,z2,z3,z4,y0,y1],?_⟩
   exact ⟨k,tt,n,p,a1,c1,ks,0,0,rfl,rfl,(hT6.below hB8).mono (fun g hg _=>by omega),K9.trans (hB8.mono K9.size)⟩
theorem Parse_any (HC0:HC) (s:ByteArray) (w:World) (hs:s.size≤9223372036854775807):
 Calls Tryz.prog 16 #[.string s] w fun e W'=>∃k t n p a c ks,e= .returned (.tuple #[(.agg #[.int .i64 (k),.string ⟨(t).toArray⟩,.int .i64 (n),.int .i64 (p),.slice a ks.len c]),.agg #[.int .i64 (prT s.data.toList).2.1,.int .i64 (prT s.data.toList).2.2]])∧(prT s.data.toList).1=one k t n p ks∧TN 54 W' (fun g=>w.heap.size≤g) k t n p (.slice a ks.len c) ks∧Below w.heap.size w W':=by
 obtain ⟨⟨ts,cd,x⟩,hsc⟩:∃r,scT s.data.toList=r:=⟨_,rfl⟩
 by_cases hc:cd=0
 ·subst hc
  obtain ⟨h1,h2,h3⟩:=scT_ok s.data.toList (by rw[hsc])
  rw[hsc] at h1 h3
  simp only at h1 h3
  subst h3
  have hl:=GT.len _ _ h1
  rw[scT_len] at h2 hl
  have hno:=chk_some ts
  refine (Parse_go HC0 s w hs ts hsc (GT.ends _ _ h1) (by omega) _ rfl hno).mono fun e W' ⟨k,t,n,p,a,c,ks,cd,x,he,hq,hT,hB⟩=>?_
  have :prT s.data.toList=(one k t n p ks,cd,x):=by
   unfold prT
   rw[hsc,hq]
   simp
  rw[this]
  exact ⟨k,t,n,p,a,c,ks,he,rfl,hT,hB⟩
 ·refine (Parse_fault s w hs ts cd x hsc hc).mono fun e W' ⟨he,hB⟩=>?_
  have :prT s.data.toList=(noF,cd,x):=by
   unfold prT
   rw[hsc]
   simp only[ne_eq]
   rw[if_pos hc]
  rw[this]
  exact ⟨0,[],0,0,none,0,.nil,he,rfl,TN.leaf _ _ _ _ _ _ _,hB⟩
end Go.Proofs.YtkjbgggghigapaaGreat


namespace Go.Proofs.YtkjbgggghigapaaGreat
theorem chk_okT {l:List Tok} (hl:Rtk l):Wok (chk l) fun f _=>∃p ks,f=one 20 [] 0 p ks∧(one 20 [] 0 p ks).okT=true:=by
 have e:8 * l.length+4=(8 * l.length+3)+1:=rfl
 unfold chk
 rw[e,pr_succ]
 refine .bind (Q:=fun f m=>Rtk m∧∃p ks,f=one 20 [] 0 p ks∧(one 20 [] 0 p ks).okT=true) ?_ fun f m ⟨R1,h1⟩=>?_
 ·exact .bind (ok_all _ _ _ hl) fun f m ⟨R1,T1⟩=>.ok ⟨R1,_,f,rfl,okT_mk (by have:=(T1 .nil).al;simpa [okN] using this) (Nat.zero_le _) (T1 .nil).ok⟩
 ·split
  ·exact h1
  ·exact trivial
theorem prT_okT (l:List UInt8) (h:(prT l).2.1=0):∃p ks,(prT l).1=one 20 [] 0 p ks∧(one 20 [] 0 p ks).okT=true:=by
 unfold prT at h⊢
 by_cases hc:(scT l).2.1=0
 ·have hcc:¬(scT l).2.1≠0:=fun x=>x hc
  rw[if_neg hcc] at h⊢
  have hw:=chk_okT (scT_rtk l)
  have hno:=chk_some (scT l).1
  cases hk:chk (scT l).1 with
  | out=>exact absurd hk hno
  | bad p=>rw[hk] at h;exact absurd h (by decide:¬(4:Int)=0)
  | ok f m=>
    rw[hk] at hw
    obtain ⟨p,ks,h1,h2⟩:=hw
    exact ⟨p,ks,h1,h2⟩
 ·rw[if_pos hc] at h
  exact absurd h hc
end Go.Proofs.YtkjbgggghigapaaGreat


namespace Go.Proofs.YtkjbgggghigapaaGreat
theorem F.siz_app:∀f g:F,(f.app g).siz=f.siz+g.siz
 | .nil,g=>by simp[F.app,F.siz]
 | .cons k t n p ks r,g=>by simp only[F.app,F.siz,F.siz_app r g];omega
theorem siz_one (k:Int) (t:List UInt8) (n p:Int) (ks:F):(one k t n p ks).siz=ks.siz+1:=by simp only[one,F.siz]
def Gz (R:F→List Tok→Prop) (x:PR):Prop:=∀f m,x= .ok f m→R f m
theorem Gz.ok {R:F→List Tok→Prop} {f:F} {m:List Tok} (h:R f m):Gz R (.ok f m):=fun f' m' e=>by injection e with e1 e2;rw[←e1,←e2];exact h
theorem Gz.bad {R:F→List Tok→Prop} (p:Int):Gz R (.bad p):=fun f m h=>by cases h
theorem Gz.mono {Q R:F→List Tok→Prop} {x:PR} (h:Gz Q x) (hk:∀f m,Q f m→R f m):Gz R x:=fun f m e=>hk f m (h f m e)
theorem Gz.bind {Q R:F→List Tok→Prop} {x:PR} {k:F→List Tok→PR} (h:Gz Q x) (hk:∀f m,Q f m→Gz R (k f m)):Gz R (x.bind k):=by
 cases x with
 | ok f m=>exact hk f m (h f m rfl)
 | bad p=>exact .bad p
 | out=>exact fun f m h=>by cases h
theorem Gz.need {R:F→List Tok→Prop} {c:Nat} {l:List Tok} {k:List Tok→PR} (hc':c≠56) (h:l.tail.length+1=l.length→Gz R (k l.tail)):Gz R (need c l k):=by
 unfold Go.Proofs.YtkjbgggghigapaaGreat.need
 split
 ·next e=>exact h (tail_len (by rw[e];exact hc'))
 ·exact .bad _
theorem Gz.nam {R:F→List Tok→Prop} {q:Int} {l:List Tok} {k:F→List Tok→PR} (h:∀f,f.siz=1→l.tail.length+1=l.length→Gz R (k f l.tail)):Gz R (nam q l k):=by
 unfold Go.Proofs.YtkjbgggghigapaaGreat.nam
 split
 ·next e=>exact h _ rfl (tail_len (by rw[e];decide))
 ·exact .bad _
theorem Gz.tgt {R:F→List Tok→Prop} {f:F} {x:PR} (h:Gz R x):Gz R (tgt f x):=by
 unfold Go.Proofs.YtkjbgggghigapaaGreat.tgt;split
 ·exact h
 ·exact .bad _
theorem Gz.cnd {R:F→List Tok→Prop} {c:Prop} {i:Decidable c} {a b:PR} (h1:c→Gz R a) (h2:¬c→Gz R b):Gz R (@ite _ c i a b):=by
 split
 ·next h=>exact h1 h
 ·next h=>exact h2 h
@[reducible] def Zs (j:J) (l:List Tok) (f:F) (m:List Tok):Prop:=
  match j with
  | .blk _=>f.siz+3 * m.length≤3 * l.length+1
  | .bk _ a=>f.siz+3 * m.length≤a.siz+3 * l.length
  | .stat=>f.siz+3 * m.length+1≤3 * l.length
  | .lst a=>f.siz+3 * m.length+2≤a.siz+3 * l.length
  | .nms a=>f.siz+3 * m.length≤a.siz+3 * l.length
  | .ifs a=>f.siz+3 * m.length+2≤a.siz+3 * l.length
  | .asg a=>f.siz+3 * m.length≤a.siz+3 * l.length
  | .ex _=>f.siz+3 * m.length+2≤3 * l.length
  | .exl _ g=>f.siz+3 * m.length≤g.siz+3 * l.length
  | .opd=>f.siz+3 * m.length+2≤3 * l.length
  | .suf=>f.siz+3 * m.length+2≤3 * l.length
  | .sufl g=>f.siz+3 * m.length≤g.siz+3 * l.length
  | .tab a=>f.siz+3 * m.length≤a.siz+3 * l.length
  | .fld=>f.siz+3 * m.length+1≤3 * l.length
section
variable {rec:J→List Tok→PR} (ih:∀j l,Gz (Zs j l) (rec j l))
include ih
theorem gz_body {R:F→List Tok→Prop} {l:List Tok} {k:F→List Tok→PR} (h:∀f m,f.siz+3 * m.length+5≤3 * l.length→Gz R (k f m)):Gz R (bodyP rec l k):=
 .need (by decide) fun e=>.bind (ih (.blk false) _) fun f m h1=>.need (by decide) fun e2=>h f _ (by simp only[Zs] at h1;omega)
theorem gz_step (j:J) (l:List Tok):Gz (Zs j l) (stp' rec j l):=by
 have tl:∀c,hc l=c→c≠56→l.tail.length+1=l.length:=fun c h h2=>tail_len (by rw[h];exact h2)
 cases j with
 | blk c=>exact .bind (ih (.bk c .nil) l) fun f m h=>.ok (by simp only[Zs,siz_one,F.siz] at h⊢;omega)
 | bk c a=>
   refine .cnd (fun h=>(ih (.bk c a) _).mono fun f m h1=>by have:=tl _ h (by decide);simp only[Zs] at h1⊢;omega) fun _=>.cnd (fun h=>?_) fun _=>.cnd (fun h=>?_) fun _=>.cnd (fun _=>.ok (by simp only[Zs];omega)) fun _=>.bind (ih .stat l) fun f m h1=>(ih (.bk c _) m).mono fun g m2 h2=>by simp only[Zs,F.siz_app] at h1 h2⊢;omega
   ·have:=tl _ h (by decide)
    refine .bind (Q:=fun f m=>f.siz+3 * m.length≤3 * l.length) ?_ fun f m h1=>.ok (by simp only[Zs,F.siz_app];omega)
    refine .cnd (fun h2=>.ok ?_) fun _=>.cnd (fun _=>.ok (by simp only[siz_one,F.siz];omega)) fun _=>.bind (ih (.lst .nil) _) fun f m h2=>.ok ?_
    ·have :l.tail.tail.length≤l.tail.length:=by simp
     simp only[siz_one,F.siz];omega
    ·simp only[Zs,F.siz] at h2
     have :(if hc m=1 then m.tail else m).length≤m.length:=by split<;>simp
     simp only[siz_one];omega
   ·have:=tl _ h.2 (by decide)
    refine .bind (Q:=fun f m=>f.siz+3 * m.length≤3 * l.length) ?_ fun f m h1=>(ih (.bk c _) m).mono fun g m2 h2=>by simp only[Zs,F.siz_app] at h2⊢;omega
    refine .nam fun f hf e1=>.need (by decide) fun e2=>.bind (Q:=fun ps m=>ps.siz+3 * m.length≤3 * l.tail.tail.tail.length) (.cnd (fun _=>.ok (by simp only[F.siz];omega)) fun _=>.nam fun g hg e3=>(ih (.nms g) _).mono fun ps m h3=>by simp only[Zs] at h3;omega) fun ps m h3=>.need (by decide) fun e4=>.bind (ih (.blk false) _) fun b m2 h4=>.need (by decide) fun e5=>.ok (by simp only[Zs] at h4;simp only[siz_one,F.siz_app];omega)
 | stat=>
   refine .cnd (fun h=>gz_body ih fun f m h1=>.ok (by simp only[Zs,siz_one];omega)) fun _=>.cnd (fun h=>?_) fun _=>.cnd (fun h=>?_) fun _=>.cnd (fun h=>?_) fun _=>.cnd (fun h=>?_) fun _=>.cnd (fun h=>.ok (by have:=tl _ h (by decide);simp only[Zs,siz_one,F.siz];omega)) fun _=>?_
   ·have:=tl _ h (by decide)
    exact .bind (ih (.ex 0) _) fun f m h1=>gz_body ih fun b m2 h2=>.ok (by simp only[Zs,siz_one,F.siz_app] at h1⊢;omega)
   ·have:=tl _ h (by decide)
    exact .bind (ih (.ifs .nil) _) fun f m h1=>.ok (by simp only[Zs,siz_one,F.siz] at h1⊢;omega)
   ·have:=tl _ h (by decide)
    refine .nam fun f hf e1=>.cnd (fun h2=>?_) fun _=>.bind (ih (.nms f) _) fun ns m h2=>.need (by decide) fun e2=>.bind (ih (.lst ns) _) fun g m2 h3=>gz_body ih fun b m3 h4=>.ok (by simp only[Zs,siz_one,F.siz_app] at h2 h3⊢;omega)
    have:=tail_len (l:=l.tail.tail) (by rw[h2];decide)
    exact .bind (ih (.ex 0) _) fun a1 m h3=>.need (by decide) fun e2=>.bind (ih (.ex 0) _) fun a2 m2 h4=>.cnd (fun h5=>.bind (ih (.ex 0) _) fun a3 m3 h6=>gz_body ih fun b m4 h7=>.ok (by have:=tail_len (l:=m2) (by rw[h5];decide);simp only[Zs,siz_one,F.siz_app] at h3 h4 h6⊢;omega)) fun _=>gz_body ih fun b m4 h7=>.ok (by simp only[Zs,siz_one,F.siz_app] at h3 h4⊢;omega)
   ·have:=tl _ h (by decide)
    exact .nam fun f hf e1=>.bind (ih (.nms f) _) fun ns m h2=>.cnd (fun h5=>.bind (ih (.lst ns) _) fun g m2 h3=>.ok (by have:=tail_len (l:=m) (by rw[h5];decide);simp only[Zs,siz_one] at h2 h3⊢;omega)) fun _=>.ok (by simp only[Zs,siz_one] at h2⊢;omega)
   ·exact .bind (ih .suf l) fun f m h1=>.cnd (fun _=>.tgt (.bind (ih (.asg f) _) fun ts m2 h2=>.need (by decide) fun e2=>.bind (ih (.lst ts) _) fun g m3 h3=>.ok (by simp only[Zs,siz_one] at h1 h2 h3⊢;omega))) fun _=>.cnd (fun _=>.ok (by simp only[Zs,siz_one] at h1⊢;omega)) fun _=>.bad _
 | lst a=>exact .bind (ih (.ex 0) l) fun f m h1=>.cnd (fun h=>(ih (.lst _) _).mono fun g m2 h2=>by have:=tail_len (l:=m) (by rw[h];decide);simp only[Zs,F.siz_app] at h1 h2⊢;omega) fun _=>.ok (by simp only[Zs,F.siz_app] at h1⊢;omega)
 | nms a=>exact .cnd (fun h=>.nam fun f hf e1=>(ih (.nms _) _).mono fun g m2 h2=>by have:=tl _ h (by decide);simp only[Zs,F.siz_app] at h2⊢;omega) fun _=>.ok (by simp only[Zs];omega)
 | ifs a=>exact .bind (Q:=fun f m=>f.siz+3 * m.length+2≤a.siz+3 * l.length) (.bind (ih (.ex 0) l) fun f m h1=>.need (by decide) fun e1=>.bind (ih (.blk false) _) fun b m2 h2=>.ok (by simp only[Zs,F.siz_app] at h1 h2⊢;omega)) fun f m h1=>.cnd (fun h=>(ih (.ifs f) _).mono fun g m2 h2=>by have:=tail_len (l:=m) (by rw[h];decide);simp only[Zs] at h2⊢;omega) fun _=>.cnd (fun h=>.bind (ih (.blk false) _) fun b m2 h2=>.need (by decide) fun e2=>.ok (by have:=tail_len (l:=m) (by rw[h];decide);simp only[Zs,F.siz_app] at h2⊢;omega)) fun _=>.need (by decide) fun e2=>.ok (by simp only[Zs];omega)
 | asg a=>exact .cnd (fun h=>.bind (ih .suf _) fun f m h1=>.tgt ((ih (.asg _) m).mono fun g m2 h2=>by have:=tl _ h (by decide);simp only[Zs,F.siz_app] at h1 h2⊢;omega)) fun _=>.ok (by simp only[Zs];omega)
 | ex a=>exact .bind (ih .opd l) fun f m h1=>(ih (.exl a f) m).mono fun g m2 h2=>by simp only[Zs] at h1 h2⊢;omega
 | exl a g=>exact .cnd (fun h=>.bind (ih (.ex _) _) fun f m h1=>(ih (.exl a _) m).mono fun g2 m2 h2=>by have:=tail_len (l:=l) (by intro e;rw[e] at h;exact absurd h (Nat.not_lt_zero a));simp only[Zs,siz_one,F.siz_app] at h1 h2⊢;omega) fun _=>.ok (by simp only[Zs];omega)
 | opd=>exact .cnd (fun _=>ih .suf l) fun _=>.cnd (fun h=>.bind (ih (.tab .nil) _) fun f m h1=>.need (by decide) fun e1=>.ok (by have:=tl _ h (by decide);simp only[Zs,siz_one,F.siz] at h1⊢;omega)) fun _=>.cnd (fun h=>.bind (ih .opd _) fun f m h1=>.ok (by have :l.tail.length+1=l.length:=by {rcases h with h | h | h<;>exact tl _ h (by decide)};simp only[Zs,siz_one] at h1⊢;omega)) fun _=>.cnd (fun h=>.ok (by have:=tl _ h (by decide);simp only[Zs,siz_one,F.siz];omega)) fun _=>.cnd (fun h=>.ok (by have:=tl _ h (by decide);simp only[Zs,siz_one,F.siz];omega)) fun _=>.cnd (fun h=>.ok (by have:=tl _ h (by decide);simp only[Zs,siz_one,F.siz];omega)) fun _=>.cnd (fun h=>.ok (by have:=tl _ h (by decide);simp only[Zs,siz_one,F.siz];omega)) fun _=>.cnd (fun h=>.ok (by have:=tl _ h (by decide);simp only[Zs,siz_one,F.siz];omega)) fun _=>.bad _
 | suf=>exact .bind (Q:=fun f m=>f.siz+3 * m.length+2≤3 * l.length) (.cnd (fun h=>.bind (ih (.ex 0) _) fun f m h1=>.need (by decide) fun e1=>.ok (by have:=tl _ h (by decide);simp only[Zs,siz_one] at h1⊢;omega)) fun _=>.nam fun f hf e1=>.ok (by omega)) fun f m h1=>(ih (.sufl f) m).mono fun g m2 h2=>by simp only[Zs] at h2⊢;omega
 | sufl g=>exact .cnd (fun h=>.bind (ih (.ex 0) _) fun f m h1=>.need (by decide) fun e1=>(ih (.sufl _) _).mono fun g2 m2 h2=>by have:=tl _ h (by decide);simp only[Zs,siz_one,F.siz_app] at h1 h2⊢;omega) fun _=>.cnd (fun h=>.nam fun f hf e1=>(ih (.sufl _) _).mono fun g2 m2 h2=>by have:=tl _ h (by decide);simp only[Zs,siz_one,F.siz_app] at h2⊢;omega) fun _=>.cnd (fun h=>.bind (Q:=fun f m=>f.siz+3 * m.length≤g.siz+3 * l.tail.length) (.cnd (fun h2=>.ok (by have:=tail_len (l:=l.tail) (by rw[h2];decide);omega)) fun _=>.bind (ih (.lst g) _) fun f m h1=>.need (by decide) fun e1=>.ok (by simp only[Zs] at h1⊢;omega)) fun f m h1=>(ih (.sufl _) m).mono fun g2 m2 h2=>by have:=tl _ h (by decide);simp only[Zs,siz_one] at h2⊢;omega) fun _=>.ok (by simp only[Zs];omega)
 | tab a=>exact .cnd (fun _=>.ok (by simp only[Zs];omega)) fun _=>.bind (ih .fld l) fun f m h1=>.cnd (fun h=>(ih (.tab _) _).mono fun g m2 h2=>by have :m.tail.length≤m.length:=by {simp};simp only[Zs,F.siz_app] at h1 h2⊢;omega) fun _=>.ok (by simp only[Zs,F.siz_app] at h1⊢;omega)
 | fld=>exact .cnd (fun h=>.bind (ih (.ex 0) _) fun f m h1=>.need (by decide) fun e1=>.need (by decide) fun e2=>.bind (ih (.ex 0) _) fun v m2 h2=>.ok (by have:=tl _ h (by decide);simp only[Zs,siz_one,F.siz_app] at h1 h2⊢;omega)) fun _=>.cnd (fun h=>.bind (ih (.ex 0) _) fun v m h1=>.ok (by have:=tl _ h.1 (by decide);have:=tail_len (l:=l.tail) (by rw[h.2];decide);simp only[Zs,siz_one,F.siz_app,F.siz] at h1⊢;omega)) fun _=>.bind (ih (.ex 0) l) fun v m h1=>.ok (by simp only[Zs,siz_one] at h1⊢;omega)
end
theorem gz_all:∀(n:Nat) (j:J) (l:List Tok),Gz (Zs j l) (pr n j l)
 | 0,_,_=>fun f m h=>by cases h
 | n+1,j,l=>gz_step (gz_all n) j l
theorem prT_siz (l:List UInt8):(prT l).1.siz≤60010:=by
 unfold prT
 split
 ·show noF.siz≤60010
  decide
 ·next hc=>
  have hc:=Classical.byContradiction hc
  have hG:=(scT_ok l hc).1
  have hl:=(scT_ok l hc).2.1
  have hlen:=GT.len _ _ hG
  cases hk:chk (scT l).1 with
  | bad p=>show noF.siz≤60010;decide
  | out=>show noF.siz≤60010;decide
  | ok f m=>
    show f.siz≤60010
    unfold chk at hk
    cases hx:pr (8 * (scT l).1.length+4) (.blk true) (scT l).1 with
    | bad p=>rw[hx] at hk;cases hk
    | out=>rw[hx] at hk;cases hk
    | ok g m2=>
      have:=gz_all _ _ _ g m2 hx
      rw[hx] at hk
      simp only[PR.bind] at hk
      split at hk
      ·injection hk with h1 h2
       rw[←h1]
       simp only[Zs] at this
       omega
      ·cases hk
end Go.Proofs.YtkjbgggghigapaaGreat


namespace Go.Proofs.YtkjbgggghigapaaGreat
open Go.RowKit
theorem prT_zero (l:List UInt8) (f:F) (x:Int) (h:prT l=(f,0,x)):x=0:=by
 unfold prT at h
 split at h
 ·next hc=>
  injection h with _ h2
  injection h2 with h2 _
  exact absurd h2 hc
 ·cases hk:chk (scT l).1 with
  | ok g m=>
    rw[hk] at h
    injection h with _ h2
    injection h2 with _ h3
    exact h3.symm
  | bad p=>
    rw[hk] at h
    injection h with _ h2
    injection h2 with h2 _
    exact absurd h2 (by decide)
  | out=>exact absurd hk (chk_some _)
end Go.Proofs.YtkjbgggghigapaaGreat
