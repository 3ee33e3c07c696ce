import Derived.Test.YtkjbgggghigapaaGreatCg13
namespace Go.Proofs.YtkjbgggghigapaaGreat
open Go.RowKit
theorem Gw.re {L:Tx} {z z' f f' d d':Nat} {s s':Gs} (h:Gw L z f d s s') (hz:z≤z') (hd:16 * z+d≤16 * z'+d') (hf:f≤f'):Gw L z' f' d' s s':=
 ⟨h.cu,h.ul,h.us,h.gl,by have:=h.wt;omega,by have:=h.be;omega,h.pl,by obtain ⟨q1,q2⟩:=h.ln;exact ⟨by omega,by omega⟩,h.cl⟩
theorem gw_ite {L:Tx} {z f d:Nat} {c:Prop} {i:Decidable c} {s a b:Gs} (h1:c→Gw L z f d s a) (h2:¬c→Gw L z f d s b):Gw L z f d s (@ite _ c i a b):=by
 by_cases h:c
 ·rw[if_pos h];exact h1 h
 ·rw[if_neg h];exact h2 h
section
variable {L:Tx} {z f d:Nat} {s s':Gs}
theorem gw_lnd (j:Int) (s:Gs):Gw L 0 0 0 s (lnd j s):=by
 unfold lnd
 exact (gb_put _ s L 0 0 0 (by simp) (by simp) (by omega)).gw
theorem gw_lea (j:Int) (s:Gs):Gw L 0 0 0 s (lea j s):=by
 unfold lea
 exact (gb_put _ s L 0 0 0 (by simp) (by simp) (by omega)).gw
theorem gw_lnds:∀(l:List Int) (s:Gs),Gw L 0 0 0 s (lnds l s)
 | [],s=>.refl L s
 | j::l,s=>(gw_lnd j s).trans (gw_lnds l _)
theorem gw_take (h:Gw L z f d s s') (m:Nat):Gw L z f d s {s' with lo:=s'.lo.take m}:=
 ⟨h.cu,h.ul,h.us,h.gl,by
  have q:=h.wt
  unfold Gs.wt at q⊢
  have :(s'.lo.take m).length≤s'.lo.length:=by simp;omega
  show cdS s'.us+(s'.lo.take m).length+s'.br.length≤_
  omega,h.be,h.pl,h.ln,h.cl⟩
theorem gw_brk (h:Gw L z f d {s with br:=[]} s'):Gw L z f d s {s' with br:=s.br}:=
 ⟨h.cu,h.ul,h.us,h.gl,by
  have q:=h.wt
  unfold Gs.wt at q⊢
  have q:cdS s'.us+s'.lo.length+s'.br.length≤cdS s.us+s.lo.length+0+16 * z+d:=q
  show cdS s'.us+s'.lo.length+s.br.length≤_
  omega,h.be,h.pl,h.ln,h.cl⟩
theorem gw_unit {c e:Nat} (h:Gw L z f d {s with cu:=c,be:=e,lo:=[],br:=[]} s') (he:e≤s.be+1) (hm:Mo s {s' with cu:=s.cu,lo:=s.lo,br:=s.br}):Gw L z (f+1) d s {s' with cu:=s.cu,lo:=s.lo,br:=s.br}:=
 ⟨rfl,h.ul,h.us,h.gl,by
  have q:=h.wt
  unfold Gs.wt at q⊢
  have q:cdS s'.us+s'.lo.length+s'.br.length≤cdS s.us+0+0+16 * z+d:=q
  show cdS s'.us+s.lo.length+s.br.length≤_
  omega,by have q:s'.be≤e+f:=h.be
           show s'.be≤_
           omega,h.pl,h.ln,hm.code⟩
theorem gb_line {lf:Int→Int→Int} {x p:Int} (hp:0≤p∧p≤(L.length:Int)) (hf:∀a b,0≤lf a b∧lf a b≤30000) (h:Gw L z f 15 (gad 1 x 0 0 (lin lf p s)) s'):Gb L (z+1) f s s':=by
 have G:=(gw_gad 1 x 0 0 (lin lf p s) L).trans h
 have q:=hf s.pl p
 refine ⟨G.cu,G.ul,G.us,G.gl,?_,?_,fun _=>G.pl hp,?_,G.cl⟩
 ·have e:(lin lf p s).wt=s.wt:=rfl
  have:=G.wt
  omega
 ·have e:(lin lf p s).be=s.be:=rfl
  have:=G.be
  omega
 ·have e:(lin lf p s).ln=s.ln+lf s.pl p - 1:=rfl
  obtain ⟨q1,q2⟩:=G.ln
  exact ⟨by omega,by omega⟩
end
theorem F.drop_mono:∀(r:F) (i:Nat),(r.drop (i+1)).siz≤(r.drop i).siz∧(r.drop (i+1)).z31≤(r.drop i).z31
 | .nil,i=>by cases i<;>exact ⟨Nat.le_refl _,Nat.le_refl _⟩
 | .cons k t n p ks r,0=>by
   have e:(F.cons k t n p ks r).drop 1=r:=by cases r<;>rfl
   rw[e]
   show r.siz≤ks.siz+r.siz+1∧r.z31≤(if k=31 then 1 else 0)+ks.z31+r.z31
   exact ⟨by omega,by omega⟩
 | .cons k t n p ks r,i+1=>F.drop_mono r i
theorem z31_1 (k:Int) (t:Tx) (n p:Int) (ks:F):(one k t n p ks).z31=(if k=31 then 1 else 0)+ks.z31:=by simp[one,F.z31]
theorem gw_ndK {L:Tx} {e:Nat} {nd:Jg→Ndg} {j:Jg} (he:e≤1) (H:∀k t n p ks s,(one k t n p ks).wfG L=true→Gw L (ks.siz+1 - e) (one k t n p ks).z31 0 s (nd j k t n p ks s)):∀(ks:F) (i:Nat) (s:Gs),ks.wfG L=true→Gw L ((ks.drop i).siz - (ks.drop (i+1)).siz - e) ((ks.drop i).z31 - (ks.drop (i+1)).z31) 0 s (ndK nd j ks i s)
 | .nil,i,s,_=>by
   have q:ndK nd j .nil i s=s:=by unfold ndK;simp[F.get?]
   rw[q];exact (Gw.refl L s).mono (by omega) (by omega) (by omega)
 | .cons k t n p ks r,0,s,hw=>by
   have q:(F.cons k t n p ks r).drop 1=r:=by cases r<;>rfl
   have q0:(F.cons k t n p ks r).drop 0=F.cons k t n p ks r:=rfl
   rw[q,q0,z31_cons]
   exact (H k t n p ks s (F.wfG_cons hw).1).mono (by simp only[F.siz];omega) (by omega) (by omega)
 | .cons k t n p ks r,i+1,s,hw=>gw_ndK he H r i s (F.wfG_cons hw).2
section
variable {L:Tx} {nd:Jg→Ndg} (H:GG L (nd .val)) (HC:∀r,GG L (nd (.cal r)))
 (HB:∀k t n p ks s,(one k t n p ks).wfG L=true→Gw L ks.siz (one k t n p ks).z31 0 s (nd .blk k t n p ks s))
 (HS:∀k t n p ks s,(one k t n p ks).wfG L=true→Gw L ks.siz (one k t n p ks).z31 15 s (nd .sta k t n p ks s))
include H in
theorem gw_v (ks:F) (i:Nat) (s:Gs) (hw:ks.wfG L=true):Gw L ((ks.drop i).siz - (ks.drop (i+1)).siz) ((ks.drop i).z31 - (ks.drop (i+1)).z31) 0 s (ndK nd .val ks i s):=
 gw_ndK (e:=0) (by omega) (fun k t n p ks s h=>(H k t n p ks s h).gw) ks i s hw
include HC in
theorem gw_c (x:Int) (ks:F) (i:Nat) (s:Gs) (hw:ks.wfG L=true):Gw L ((ks.drop i).siz - (ks.drop (i+1)).siz) ((ks.drop i).z31 - (ks.drop (i+1)).z31) 0 s (ndK nd (.cal x) ks i s):=
 gw_ndK (e:=0) (by omega) (fun k t n p ks s h=>(HC x k t n p ks s h).gw) ks i s hw
include HB in
theorem gw_b (ks:F) (i:Nat) (s:Gs) (hw:ks.wfG L=true):Gw L ((ks.drop i).siz - (ks.drop (i+1)).siz - 1) ((ks.drop i).z31 - (ks.drop (i+1)).z31) 0 s (ndK nd .blk ks i s):=
 gw_ndK (e:=1) (by omega) HB ks i s hw
include H HC in
theorem gw_cal (x:Int) (ks:F) (s:Gs) (hw:ks.wfG L=true):Gw L ks.siz ks.z31 2 s (calG nd x ks s):=by
 have q:=F.drop_mono ks 0
 simp only[Nat.zero_add] at q
 have e:ks.drop 0=ks:=by cases ks<;>rfl
 rw[e] at q
 have g:=gw_v H ks 0 s hw
 simp only[Nat.zero_add] at g
 rw[e] at g
 exact (((g.trans (gw_gad 22 0 0 0 _ L)).trans (gb_opn H (HC _) (ks.drop 1) _ (F.wfG_drop ks 1 hw)).gw).trans (gw_gad 24 x 0 0 _ L)).mono (by omega) (by omega) (by omega)
include H in
theorem gw_eit (op:Int) (ks:F) (s:Gs) (hw:ks.wfG L=true):Gw L ks.siz ks.z31 1 s (eit nd op ks s):=by
 have q:=F.drop_mono ks 0
 simp only[Nat.zero_add] at q
 have q1:=F.drop_mono ks 1
 simp only[Nat.reduceAdd] at q1
 have e:ks.drop 0=ks:=by cases ks<;>rfl
 rw[e] at q
 have g:=gw_v H ks 0 s hw
 simp only[Nat.zero_add] at g
 rw[e] at g
 exact (((g.trans (gw_gad op 0 0 0 _ L)).trans (gw_v H ks 1 _ hw)).trans (gw_lnd _ _)).mono (by omega) (by omega) (by omega)
include H in
theorem gw_bin (t:Tx) (ks:F) (s:Gs) (hw:ks.wfG L=true):Gw L ks.siz ks.z31 1 s (binG nd t ks s):=by
 unfold binG
 split
 ·exact gw_eit H _ _ _ hw
 ·split
  ·exact gw_eit H _ _ _ hw
  ·exact ((gb_vls H ks s hw).gw.trans (gw_gad 17 _ 0 0 _ L)).mono (by omega) (by omega) (by omega)
include H in
theorem gb_flds:∀(r:F) (w k:Int) (s:Gs),r.wfG L=true→Gb L r.siz r.z31 s (flds nd r w k s).1
 | .nil,_,_,s,_=>.refl _ _ _ s
 | .cons kk t n p ks r,w,k,s,hw=>by
   obtain ⟨h1,h2⟩:=F.wfG_cons hw
   have hk:=(F.wfG_one h1).2.2.2
   have ez:=z31_cons kk t n p ks r
   have eo:=z31_1 kk t n p ks
   have A:=fun op a b c=>(((gb_vls H ks s hk).gw.trans (gw_gad op a b c _ L)).gb (z':=ks.siz+1) (f':=ks.z31) (by omega) (by omega) (by omega))
   rw[flds_cons]
   split
   ·exact ((A _ _ _ _).trans (gb_flds r _ _ _ h2)).mono (by simp only[F.siz];omega) (by omega)
   ·split
    ·exact ((A _ _ _ _).trans (gb_flds r _ _ _ h2)).mono (by simp only[F.siz];omega) (by omega)
    ·exact ((gb_vls H ks s hk).trans (gb_flds r _ _ _ h2)).mono (by simp only[F.siz];omega) (by omega)
include H HC in
theorem gw_tab (ks:F) (s:Gs) (hw:ks.wfG L=true):Gw L ks.siz ks.z31 4 s (tabG nd ks s):=by
 obtain ⟨zA,yA,wA,wR,-⟩:=par_facts ks hw
 have A:=(gw_gad 26 (itm (parA ks)) (((parA ks).len:Int) - itm (parA ks)) 0 s L).trans (gb_flds H (parA ks) 0 1 _ wA).gw
 unfold tabG
 generalize flds nd (parA ks) 0 1 (gad 26 (itm (parA ks)) (((parA ks).len:Int) - itm (parA ks)) 0 s)=X at A
 have B:Gw L 0 0 1 X.1 (bat X).1:=by
  unfold bat
  simp only
  split
  ·exact gw_gad _ _ _ _ _ L
  ·exact (Gw.refl L _).mono (by omega) (by omega) (by omega)
 have AB:=A.trans B
 generalize bat X=Y at AB
 have C:Gw L (parR ks).siz (parR ks).z31 2 Y.1 (tabR nd ks Y):=by
  unfold tabR
  split
  ·exact (Gw.refl L _).mono (by omega) (by omega) (by omega)
  ·exact (((gw_gad 22 0 0 0 _ L).trans (gb_opn H (HC _) (parR ks) _ wR).gw).trans (gw_gad 29 _ 0 0 _ L)).mono (by omega) (by omega) (by omega)
 exact (AB.trans C).mono (by omega) (by omega) (by omega)
theorem gw_nm (t:Tx) (a b:Int) (s:Gs):Gw L 0 0 1 s (nmG t a b s):=by unfold nmG;split<;>exact gw_gad _ _ _ _ _ L
include H HC in
set_option maxHeartbeats 4000000 in
theorem gb_val (k:Int) (t:Tx) (n p:Int) (ks:F) (s:Gs) (hw:(one k t n p ks).wfG L=true):Gb L (ks.siz+1) (one k t n p ks).z31 s (valG nd k t n ks s):=by
 have hk:=(F.wfG_one hw).2.2.2
 have eo:=z31_1 k t n p ks
 have e:ks.drop 0=ks:=by cases ks<;>rfl
 have q:=F.drop_mono ks 0
 simp only[Nat.zero_add] at q
 have g:=gw_v H ks 0 s hk
 simp only[Nat.zero_add] at g
 rw[e] at q g
 have key:Gw L ks.siz ks.z31 16 s (valG nd k t n ks s):=by
  unfold valG
  repeat' split
  next h=>exact (gw_gad _ _ _ _ s L).mono (by omega) (by omega) (by omega)
  next h=>exact (gw_gad _ _ _ _ s L).mono (by omega) (by omega) (by omega)
  next h=>exact (gw_gad _ _ _ _ s L).mono (by omega) (by omega) (by omega)
  next h=>exact (gw_gad _ _ _ _ s L).mono (by omega) (by omega) (by omega)
  next h=>exact (gw_gad _ _ _ _ s L).mono (by omega) (by omega) (by omega)
  next h=>exact (gw_nm _ _ _ s).mono (by omega) (by omega) (by omega)
  rotate_left
  next h=>exact (gw_cal H HC _ ks s hk).mono (by omega) (by omega) (by omega)
  next h=>exact g.mono (by omega) (by omega) (by omega)
  next h=>exact (g.trans (gw_gad _ _ _ _ _ L)).mono (by omega) (by omega) (by omega)
  next h=>exact (gw_bin H _ ks s hk).mono (by omega) (by omega) (by omega)
  next h=>exact (gw_tab H HC ks s hk).mono (by omega) (by omega) (by omega)
  next h=>exact (Gw.refl L s).mono (by omega) (by omega) (by omega)
  unfold idxG
  split
  ·exact (gw_gad _ _ _ _ s L).mono (by omega) (by omega) (by omega)
  ·exact ((gb_vls H ks s hk).gw.trans (gw_gad _ _ _ _ _ L)).mono (by omega) (by omega) (by omega)
 exact key.gb (by omega) (by omega) (by omega)
include HS in
theorem gb_sts {lf:Int→Int→Int} (hf:∀a b,0≤lf a b∧lf a b≤30000):∀(r:F) (s:Gs),r.wfG L=true→Gb L r.siz r.z31 s (sts nd lf r s)
 | .nil,s,_=>.refl _ _ _ s
 | .cons k t n p ks r,s,hw=>by
   obtain ⟨h1,h2⟩:=F.wfG_cons hw
   have ez:=z31_cons k t n p ks r
   exact ((gb_line (F.wfG_one h1).2.1 hf (HS k t n p ks _ h1)).trans (gb_sts hf r _ h2)).mono (by simp only[F.siz];omega) (by omega)
include HS in
theorem gw_blk {lf:Int→Int→Int} (hf:∀a b,0≤lf a b∧lf a b≤30000) (ks:F) (s:Gs) (hw:ks.wfG L=true):Gw L ks.siz ks.z31 0 s (blkG nd lf ks s):=gw_take (gb_sts HS hf ks s hw).gw _
theorem gw_setL:∀(c b:Nat) (s:Gs),Gw L 0 0 c s (setL c b s)
 | 0,_,s=>.refl L s
 | c+1,b,s=>((gw_gad _ _ _ _ s L).trans (gw_setL c b _)).mono (by omega) (by omega) (by omega)
include H HC in
theorem gw_dcl (n:Nat) (ks:F) (s:Gs) (hw:ks.wfG L=true) (hn:n≤ks.len):Gw L (ks.drop n).siz (ks.drop n).z31 (3 * n+2) s (dcl nd (n:Nat) ks s):=by
 unfold dcl dclB
 rw[Int.toNat_natCast]
 have A:=gw_exa H (HC _) n (ks.drop n) s (F.wfG_drop ks n hw)
 generalize exa nd (n:Nat) (ks.drop n) s=X at A
 have hl:=brg_lo (ks.take n) X
 rw[F.len_take ks n hn] at hl
 have B:=gw_brg (L:=L) (ks.take n) X
 rw[F.len_take ks n hn] at B
 rw[hl,Nat.add_sub_cancel_left]
 exact ((A.trans B).trans (gw_setL n _ _)).mono (by omega) (by omega) (by omega)
include H in
theorem gw_tgs:∀(r:F) (b:Int) (s:Gs),r.wfG L=true→Gw L (r.siz - r.len) r.z31 0 s (tgs nd r b s).1
 | .nil,_,s,_=>.refl L s
 | .cons k t n p ks r,b,s,hw=>by
   obtain ⟨h1,h2⟩:=F.wfG_cons hw
   have ez:=z31_cons k t n p ks r
   have eo:=z31_1 k t n p ks
   have hl:=r.len_siz
   rw[tgs_cons]
   split
   ·exact ((gb_vls H ks s (F.wfG_one h1).2.2.2).gw.trans (gw_tgs r _ _ h2)).mono (by simp only[F.siz,F.len];omega) (by omega) (by omega)
   ·exact (gw_tgs r _ _ h2).mono (by simp only[F.siz,F.len];omega) (by omega) (by omega)
theorem gw_tg2 (N:Int):∀(r:F) (i d:Int) (s:Gs),Gw L 0 0 (2 * r.len) s (tg2 N r i d s)
 | .nil,_,_,s=>.refl L s
 | .cons k t n p ks r,i,d,s=>by
   rw[tg2_cons]
   split
   ·exact ((gw_gad _ _ _ _ s L).trans (gw_tg2 N r _ _ _)).mono (by omega) (by omega) (by simp only[F.len];omega)
   ·exact (((gw_gad _ _ _ _ s L).trans (gw_nm _ _ _ _)).trans (gw_tg2 N r _ _ _)).mono (by omega) (by omega) (by simp only[F.len];omega)
include H HC in
theorem gw_asg (n:Nat) (ks:F) (s:Gs) (hw:ks.wfG L=true) (hn:n≤ks.len):Gw L (ks.siz - n) ks.z31 (3 * n+3) s (asg nd (n:Nat) ks s):=by
 unfold asg asgB
 rw[Int.toNat_natCast]
 have A:=gw_tgs H (ks.take n) 0 s (F.wfG_take ks n hw)
 have hl:=F.len_take ks n hn
 have hz:=(ks.take n).len_siz
 have z0:=F.td_siz ks n
 have y0:=F.td_z31 ks n
 generalize tgs nd (ks.take n) 0 s=X at A
 have B:=gw_exa H (HC _) n (ks.drop n) X.1 (F.wfG_drop ks n hw)
 have C:=gw_tg2 (L:=L) (n:Nat) (ks.take n) 0 ((n:Nat)+X.2) (exa nd (n:Nat) (ks.drop n) X.1)
 rw[hl] at A C
 exact (((A.trans B).trans C).trans (gw_gad 15 _ 0 0 _ L)).mono (by omega) (by omega) (by omega)
include H HB in
theorem gb_chc:∀(r:F) (es:List Int) (s:Gs),r.wfG L=true→Gb L r.siz r.z31 s (chc nd r es s)
 | .nil,es,s,_=>(gw_lnds es s).gb (by omega) (by simp[F.siz]) (by omega)
 | .cons k t n p ks .nil,es,s,hw=>by
   obtain ⟨h1,h2⟩:=F.wfG_cons hw
   have ez:=z31_cons k t n p ks .nil
   exact ((HB k t n p ks s h1).trans (gw_lnds es _)).gb (by simp only[F.siz];omega) (by simp only[F.siz];omega) (by omega)
 | .cons k t n p ks (.cons k2 t2 n2 p2 ks2 r),es,s,hw=>by
   obtain ⟨h1,h2⟩:=F.wfG_cons hw
   obtain ⟨h2,h3⟩:=F.wfG_cons h2
   have ez:=z31_cons k t n p ks (.cons k2 t2 n2 p2 ks2 r)
   have ez2:=z31_cons k2 t2 n2 p2 ks2 r
   unfold chc
   simp only
   have h3':=(((H k t n p ks s h1).gw.trans (gw_gad 19 0 0 0 _ L)).trans (HB k2 t2 n2 p2 ks2 _ h2))
   split
   ·exact ((h3'.trans (gw_lnd _ _)).trans (gb_chc r _ _ h3).gw).gb (by simp only[F.siz];omega) (by simp only[F.siz];omega) (by omega)
   ·exact (((h3'.trans (gw_gad _ _ _ _ _ L)).trans (gw_lnd _ _)).trans (gb_chc r _ _ h3).gw).gb (by simp only[F.siz];omega) (by simp only[F.siz];omega) (by omega)
include HB in
theorem gw_trn (ks:F) (i:Nat) (op a b:Int) (s:Gs) (hw:ks.wfG L=true):Gw L ((ks.drop i).siz - (ks.drop (i+1)).siz - 1) ((ks.drop i).z31 - (ks.drop (i+1)).z31) 1 s (trn nd ks i op a b s):=by
 unfold trn
 simp only
 exact gw_brk (((gw_b HB ks i {s with br:=[]} hw).trans (gw_gad _ _ _ _ _ L)).trans (gw_lnds _ _))
include H HB in
theorem gw_whl (ks:F) (s:Gs) (hw:ks.wfG L=true):Gw L ks.siz ks.z31 3 s (whl nd ks s):=by
 have q:=F.drop_mono ks 0
 simp only[Nat.zero_add] at q
 have q1:=F.drop_mono ks 1
 simp only[Nat.reduceAdd] at q1
 have e:ks.drop 0=ks:=by cases ks<;>rfl
 have g:=gw_v H ks 0 s hw
 simp only[Nat.zero_add] at g
 rw[e] at q g
 unfold whl
 exact ((((g.trans (gw_gad _ _ _ _ _ L)).trans (gw_gad _ _ _ _ _ L)).trans (gw_trn HB ks 1 _ _ _ _ hw)).trans (gw_lnd _ _)).mono (by omega) (by omega) (by omega)
include H HB in
theorem gw_lpN (ks:F) (s:Gs) (hw:ks.wfG L=true):Gw L ks.siz ks.z31 7 s (lpN nd ks s):=by
 have z0:=F.td_siz ks (ks.len - 1)
 have y0:=F.td_z31 ks (ks.len - 1)
 have z1:=F.td_siz (ks.take (ks.len - 1)) 1
 have y1:=F.td_z31 (ks.take (ks.len - 1)) 1
 have l1:(ks.take 1).len≤1:=by
  cases ks with
  | nil=>simp[F.take,F.len]
  | cons _ _ _ _ _ r=>cases r<;>simp[F.take,F.len]
 unfold lpN
 simp only
 exact gw_take ((((((gb_vls H ((ks.take (ks.len - 1)).drop 1) s (F.wfG_drop _ 1 (F.wfG_take ks _ hw))).gw.trans (gw_gad _ _ _ _ _ L)).trans (gw_brL (ks.take 1) _)).trans (gw_trn HB ks (ks.len - 1) _ _ _ _ hw)).trans (gw_lea _ _)).mono (by omega) (by omega) (by omega)) _
include H HC HB in
theorem gw_lpL (n:Nat) (ks:F) (s:Gs) (hw:ks.wfG L=true) (hn:n+1≤ks.len):Gw L ks.siz ks.z31 15 s (lpL nd (n:Nat) ks s):=by
 obtain ⟨m,hm⟩:∃m,ks.len=m+1:=⟨ks.len - 1,by omega⟩
 have hm1:ks.len - 1=m:=by omega
 have z0:=F.td_siz ks m
 have y0:=F.td_z31 ks m
 have z1:=F.td_siz (ks.take m) n
 have y1:=F.td_z31 (ks.take m) n
 rw[F.take_take ks n m (by omega)] at z1 y1
 have l1:=F.len_take ks n (by omega)
 have l2:=(ks.take n).len_siz
 have l3:=(ks.drop m).len_siz
 have l4:=F.drop_len ks m
 have l5:=F.drop_len ks (m+1)
 have dn:ks.drop (m+1)= .nil:=by
  cases e:ks.drop (m+1) with
  | nil=>rfl
  | cons _ _ _ _ _ _=>rw[e] at l5;simp only[F.len] at l5;omega
 have T:=fun op a b s=>gw_trn HB ks m op a b s hw
 rw[dn] at T
 have q0:F.nil.siz=0:=rfl
 have q1:F.nil.z31=0:=rfl
 unfold lpL
 simp only
 rw[hm1,Int.toNat_natCast]
 have A:=gw_brL (L:=L) (ks.take n)
 rw[l1] at A
 have X:=gw_exa H (HC _) 3 ((ks.take m).drop n) s (F.wfG_drop _ n (F.wfG_take ks m hw))
 exact gw_take (((((((X.trans (gw_gad _ _ _ _ _ L)).trans (gw_lpH _ _ _)).trans (gw_gad _ _ _ _ _ L)).trans (A _)).trans (T _ _ _ _)).trans (gw_lea _ _)).re (by omega) (by omega) (by omega)) _
include HB in
theorem gw_mkU (M:∀j k t n p ks s,Mo s (nd j k t n p ks s)) (pr ks:F) (i:Nat) (s:Gs) (hw:ks.wfG L=true):Gw L ((ks.drop i).siz - (ks.drop (i+1)).siz - 1) ((ks.drop i).z31 - (ks.drop (i+1)).z31+1) (pr.len+2) s (mkU nd pr ks i s):=by
 have hm:=mo_mkU M pr ks i s
 unfold mkU at hm⊢
 simp only at hm⊢
 exact gw_unit (((((gw_brg pr _).trans (gw_b HB ks i _ hw)).trans (gw_gad _ _ _ _ _ L)).trans (gw_gad _ _ _ _ _ L)).mono (by omega) (by omega) (by omega)) (Nat.le_refl _) hm
include H HC HB in
set_option maxHeartbeats 4000000 in
theorem gw_sta (M:∀j k t n p ks s,Mo s (nd j k t n p ks s)) (k:Int) (t:Tx) (n p:Int) (ks:F) (s:Gs) (hw:(one k t n p ks).wfG L=true):Gw L ks.siz (one k t n p ks).z31 15 s (staG nd k t n ks s):=by
 obtain ⟨ha,-,-,hk⟩:=F.wfG_one hw
 have eo:=z31_1 k t n p ks
 have e:ks.drop 0=ks:=by cases ks<;>rfl
 have q:=F.drop_mono ks 0
 simp only[Nat.zero_add] at q
 rw[e] at q
 have T:=fun i=>F.td_siz ks i
 have Y:=fun i=>F.td_z31 ks i
 have P:=fun i=>(ks.take i).len_siz
 have Q:=fun i=>F.len_take ks i
 unfold staG
 refine gw_ite (fun h=>?_) (fun _=>?_)
 ·subst h
  obtain ⟨h1,h2⟩:0≤n∧n≤(ks.len:Int):=by simpa [arG] using ha
  obtain ⟨m,rfl⟩:∃m:Nat,n=(m:Nat):=⟨n.toNat,by omega⟩
  have:=T m;have:=Y m;have:=P m;have:=Q m (by omega)
  exact (gw_dcl H HC m ks s hk (by omega)).re (by omega) (by omega) (by omega)
 refine gw_ite (fun h=>?_) (fun _=>?_)
 ·subst h
  obtain ⟨h1,h2⟩:0≤n∧n≤(ks.len:Int):=by simpa [arG] using ha
  obtain ⟨m,rfl⟩:∃m:Nat,n=(m:Nat):=⟨n.toNat,by omega⟩
  have:=T m;have:=Y m;have:=P m;have:=Q m (by omega)
  exact (gw_asg H HC m ks s hk (by omega)).re (by omega) (by omega) (by omega)
 refine gw_ite (fun h=>?_) (fun _=>?_)
 ·have g:=gw_c HC 0 ks 0 s hk
  simp only[Nat.zero_add] at g
  rw[e] at g
  exact g.re (by omega) (by omega) (by omega)
 refine gw_ite (fun h=>?_) (fun _=>?_)
 ·exact (gb_chc H HB ks [] s hk).gw.re (by omega) (by omega) (by omega)
 refine gw_ite (fun h=>?_) (fun _=>?_)
 ·exact (gw_whl H HB ks s hk).re (by omega) (by omega) (by omega)
 refine gw_ite (fun h=>?_) (fun _=>?_)
 ·exact (gw_lpN H HB ks s hk).re (by omega) (by omega) (by omega)
 refine gw_ite (fun h=>?_) (fun _=>?_)
 ·subst h
  obtain ⟨h1,h2⟩:0≤n∧n+1≤(ks.len:Int):=by simpa [arG] using ha
  obtain ⟨m,rfl⟩:∃m:Nat,n=(m:Nat):=⟨n.toNat,by omega⟩
  exact (gw_lpL H HC HB m ks s hk (by omega)).re (by omega) (by omega) (by omega)
 refine gw_ite (fun h=>?_) (fun _=>?_)
 ·have g:=gw_b HB ks 0 s hk
  simp only[Nat.zero_add] at g
  rw[e] at g
  exact g.re (by omega) (by omega) (by omega)
 refine gw_ite (fun h=>?_) (fun _=>?_)
 ·have G:=gw_gad 18 0 0 0 s L
  refine ⟨G.cu,G.ul,G.us,G.gl,?_,Nat.le_trans G.be (by omega),G.pl,?_,G.cl⟩
  ·have w:=G.wt
   unfold Gs.wt at w⊢
   have eb:(gad 18 0 0 0 s).br=s.br:=(put_us _ s).2.2
   show cdS (gad 18 0 0 0 s).us+(gad 18 0 0 0 s).lo.length+(s.br++[s.nx]).length≤_
   rw[eb] at w
   simp only[List.length_append,List.length_singleton]
   omega
  ·obtain ⟨q1,q2⟩:=G.ln
   show s.ln≤(gad 18 0 0 0 s).ln+_∧(gad 18 0 0 0 s).ln≤_
   exact ⟨by omega,by omega⟩
 refine gw_ite (fun h=>?_) (fun _=>?_)
 ·exact (((gw_gad 22 0 0 0 s L).trans (gb_opn H (HC _) ks _ hk).gw).trans (gw_gad 25 0 0 0 _ L)).re (by omega) (by omega) (by omega)
 refine gw_ite (fun h=>?_) (fun _=>?_)
 ·subst h
  obtain ⟨h1,h2⟩:0≤n∧n+1≤(ks.len:Int):=by simpa [arG] using ha
  obtain ⟨m,rfl⟩:∃m:Nat,n=(m:Nat):=⟨n.toNat,by omega⟩
  rw[Int.toNat_natCast]
  have:=T m;have:=Y m;have:=P m;have:=Q m (by omega)
  have l3:=(ks.drop m).len_siz
  have l4:=F.drop_len ks m
  rw[if_pos rfl] at eo
  exact (((gw_gad 11 _ 0 0 s L).trans (gw_gad 9 _ 0 0 _ L)).trans (gw_mkU HB M (ks.take m) ks m _ hk)).re (by omega) (by omega) (by omega)
 exact (Gw.refl L s).re (by omega) (by omega) (by omega)
end
theorem gw_gn {L:Tx} {lf:Int→Int→Int} (hf:∀a b,0≤lf a b∧lf a b≤30000):∀N,GG L (gn lf N .val)∧(∀r,GG L (gn lf N (.cal r)))∧(∀k t n p ks s,(one k t n p ks).wfG L=true→Gw L ks.siz (one k t n p ks).z31 0 s (gn lf N .blk k t n p ks s))∧(∀k t n p ks s,(one k t n p ks).wfG L=true→Gw L ks.siz (one k t n p ks).z31 15 s (gn lf N .sta k t n p ks s))
 | 0=>⟨fun _ _ _ _ _ s _=>.refl _ _ _ s,fun _ _ _ _ _ _ s _=>.refl _ _ _ s,fun _ _ _ _ _ s _=>(Gw.refl L s).re (by omega) (by omega) (by omega),fun _ _ _ _ _ s _=>(Gw.refl L s).re (by omega) (by omega) (by omega)⟩
 | N+1=>by
   obtain ⟨H,HC,HB,HS⟩:=gw_gn hf N
   refine ⟨fun k t n p ks s hw=>gb_val H HC k t n p ks s hw,fun r k t n p ks s hw=>?_,fun k t n p ks s hw=>?_,fun k t n p ks s hw=>gw_sta H HC HB (mo_gn lf N) k t n p ks s hw⟩
   ·have eo:=z31_1 k t n p ks
    exact (gw_cal H HC r ks s (F.wfG_one hw).2.2.2).gb (by omega) (by omega) (by omega)
   ·have eo:=z31_1 k t n p ks
    exact (gw_blk HS hf ks s (F.wfG_one hw).2.2.2).re (by omega) (by omega) (by omega)
end Go.Proofs.YtkjbgggghigapaaGreat


namespace Go.Proofs.YtkjbgggghigapaaGreat
open Go.RowKit
theorem info3:(Tryz.prog.info? 3).map (fun i=>(i.zero,i.size,i.bytes))=some (some (.int .i64 0),1,8):=by kernel_rfl
theorem Gk.made {No:Nat→Prop} {b:Nat} {t:Tx} {s:Gs} {w w':World} (h:Gk No b t s w) (hs:w.heap.size≤w'.heap.size) (hk:∀g,g<w.heap.size→¬No g→w'.heap[g]?=w.heap[g]?):Gk (fun g=>No g∨(w.heap.size≤g∧g<w'.heap.size)) b t s w':=by
 obtain ⟨x,h⟩:=h
 have h1:=h.relab (fun g=>if w.heap.size≤g then 0 else x.lab g) fun g hg=>if_neg (by omega)
 generalize hx:({x with lab:=fun g=>if w.heap.size≤g then 0 else x.lab g}:Gx)=y at h1
 have k:Tg y (fun l=>l=0) w w':=⟨hs,fun g hg hT=>hk g hg fun e=>hT (h1.no g e).2⟩
 exact ⟨y,h1.sx' k (by decide),h1.mx' k (by decide),h1.ur' k (by decide),h1.lr' k (by decide),h1.br' k (by decide),h1.mp' k (by decide),fun i _ _ hu hv=>h1.cr' k (by decide) hu hv,fun i _ _ hu hv=>h1.kr' k (by omega) hu hv,h1.cl,h1.kl,h1.ub,h1.lS,h1.lb,h1.lU,h1.lm,h1.lL,h1.lB,h1.lc,h1.lk,fun g hg=>hg.elim (fun hg=>h1.no' k.size g hg) (fun hg=>⟨hg.2,by rw[←hx];exact if_pos hg.1⟩),h1.cu,h1.gh⟩
structure Tc (No:Nat→Prop) (b:Nat) (t:Tx) (v:Value) (es:List Int) (s:Gs) (W w:World):Prop where
 gk:Gk (fun g=>No g∨v.ownBlock=some g) b t s w
 er:w.ownsRow 0 3 1 v es.length (nts es)
 kn:Kn No W w
 ge:∀g,v.ownBlock=some g→W.heap.size≤g
section
variable {No:Nat→Prop} {b:Nat} {t:Tx} {v:Value} {es:List Int} {s s':Gs} {W w w':World}
theorem Tc.first (h:Gk No b t s W):Tc No b t (.slice none 0 0) [] s W W:=
 ⟨h.less fun g e=>e.elim id fun e=>by simp[Value.ownBlock] at e,World.ownsRow_nil _ 0 3 1,Kn.refl _ _,fun g e=>by simp[Value.ownBlock] at e⟩
theorem Tc.to (h:Tc No b t v es s W w) (hc:Gk (fun g=>No g∨v.ownBlock=some g) b t s' w') (hk:Kn (fun g=>No g∨v.ownBlock=some g) w w'):Tc No b t v es s' W w':=
 ⟨hc,own_keep h.er fun g hg=>hk.block g (h.er.lt g hg).2 (.inr hg),h.kn.trans (hk.mono fun _ _ e=>.inl e),h.ge⟩
theorem Tc.step {e:Ending} (h:Tc No b t v es s W w) (hc:GP (fun g=>No g∨v.ownBlock=some g) b t w s' e w'):Tc No b t v es s' W w':=h.to hc.2.1 hc.2.2
theorem Tc.rv {a:Option Addr} {r:F} (h:Tc No b t v es s W w) (hr:Rv W No a r):Rv w No a r:=hr.kn h.kn
theorem Tc.app (h:Tc No b t v es s W w) (_hN:∀g,No g→g<W.heap.size) {j:Int} {g' cc:Nat} {w1 w3:World} (hb:Below w.heap.size w w1) (hown:w3.ownsRow 0 3 1 (.slice (some ⟨g',0,none⟩) (es.length+1) cc) (es.length+1) (nts es++[.int .i64 j])) (hg3:w1.grownBy w3 v.ownBlock) (hat:v.ownBlock=some g'∨g'=w1.heap.size):
 Tc No b t (.slice (some ⟨g',0,none⟩) (es.length+1) cc) (es++[j]) s W w3:=by
 have s0:=h.kn.size
 have s1:=hb.size
 have s3:=hg3.size
 have hl:g'<w3.heap.size:=(hown.lt g' rfl).2
 have K:∀g,g<w.heap.size→¬(No g∨v.ownBlock=some g)→w3.heap[g]?=w.heap[g]?:=fun g hg hn=>
  (hg3.block g (by omega) fun e=>hn (.inr e.symm)).trans (hb.block g hg)
 refine ⟨(h.gk.made (by omega) K).less fun g e=>?_,?_,⟨hg3.os.trans (hb.os.trans h.kn.os),hg3.tape.trans (hb.tape.trans h.kn.tape),hg3.output.trans (hb.output.trans h.kn.output),by omega,fun g hg hn=>?_⟩,fun g e=>?_⟩
 ·rcases e with e | e
  ·exact .inl (.inl e)
  ·have e2:g'=g:=by simpa [Value.ownBlock] using e
   rcases hat with q | q
   ·exact .inl (.inr (by rw[←e2];exact q))
   ·exact .inr ⟨by omega,by omega⟩
 ·rw[List.length_append,show nts (es++[j])=nts es++[.int .i64 j] by simp[nts]]
  exact hown
 ·exact (hg3.block g (by omega) fun e=>by have:=h.ge g e.symm;omega).trans ((hb.block g (by omega)).trans (h.kn.block g hg hn))
 ·have e2:g'=g:=by simpa [Value.ownBlock] using e
  rcases hat with q | q
  ·rw[←e2];exact h.ge g' q
  ·omega
theorem Tc.land (h:Tc No b t v es s W w) (hes:∀j∈es,0≤j∧j<(s.code.length:Int)) (hn:es.length≤100000000) (hL:s.code.length≤100000000):
 Calls Tryz.prog 110 #[.pointer (some ⟨b,0,none⟩),v] w (GP No b t W (lnds es s)):=by
 have er:=h.er
 obtain ⟨x,hx⟩:=h.gk
 obtain ⟨a,c,rfl⟩:=row_form er
 refine (land_any _ b t x s w a c es hx (opd_row er) (fun g o e=>?_) hes hn hL).mono fun e w' q=>⟨q.1,⟨x,q.2.1.less fun _ e=>.inl e⟩,h.kn.trans (q.2.2.1.mono fun _ _ e=>.inl e)⟩
 rw[(hx.no g (.inr (by rw[e];rfl))).2]
 omega
end
def vlen:Value→Nat
 | .slice _ n _=>n
 | _=>0
theorem gad_lt {op a b c:Int} {s:Gs} (h:s.cu<s.us.length):s.code.length<(gad op a b c s).code.length:=by
 obtain ⟨u,hu⟩:∃u,s.us[s.cu]?=some u:=⟨_,List.getElem?_eq_getElem h⟩
 unfold gad
 rw[Gs.code_put hu]
 simp
set_option maxRecDepth 20000 in
set_option maxHeartbeats 16000000 in
theorem g_choice_any {L:Tx} {N:Nat} {nd:Jg→Ndg} (H:GG L (nd .val)) (HB:∀k t n p ks s,(one k t n p ks).wfG L=true→Gb L ks.siz (one k t n p ks).z31 s (nd .blk k t n p ks s)) (CE:GN 109 L N (nd .val)) (CB:GN 32 L N (nd .blk)) (No:Nat→Prop) (b:Nat) (tx:Tx) (s:Gs) (W:World) (a:Option Addr) (c:Nat) (ks:F) (hT:Hid (tx=L)) (h:Gk No b tx s W) (hr:Rv W No a ks) (hs:ks.siz≤N) (hw:ks.wfG L=true) (hcc:ks.len≤c) (hL:Okg L (ks.siz+1) ks.z31 s):
 Calls Tryz.prog 73 #[.pointer (some ⟨b,0,none⟩),.slice a ks.len c] W (GP No b tx W (chc nd ks [] s)):=by
 obtain ⟨i0,hi0,hz0,hz1,hz2⟩:=info_parts info3
 have hlen:=ks.len_siz
 have hsz:ks.siz≤6000000:=by have:=hL.wt;omega
 have hN:=h.old
 obtain ⟨R,hR⟩:∃R,chc nd ks [] s=R:=⟨_,rfl⟩
 rw[hR]
 have H0:Hid (Tc No b tx (.slice none 0 0) [] s W W∧Rv W No a ks∧Okg L (ks.siz+1) ks.z31 s∧chc nd ks [] s=R):=⟨Tc.first h,hr,hL,hR⟩
 have HLN:Hid (ks.len≤6000000):=by show _≤_;omega
 obtain ⟨m0,hm0⟩:∃m,ks.len=m:=⟨_,rfl⟩
 rw[hm0] at hcc⊢
 have Hm0:Hid (m0=ks.len):=hm0.symm
 have HC0:Hid (m0≤c):=hcc
 clear h hr hL hR hm0 hlen hcc
 go_enter Tryz.func73,Tryz.ntmps73
 go_wp2_with fail
 go_loopw [1,4,5] (fun kv vv _ wx=>∃(a':Option Addr) (m c':Nat) (ev:Value) (q:F) (es:List Int) (s':Gs),kv= .slice a' m c'∧ev=vv∧Hid (m=q.len∧m≤c'∧Tc No b tx ev es s' W wx∧Rv W No a' q∧Okg L (q.siz+1) q.z31 s'∧chc nd q es s'=R∧q.siz≤ks.siz∧q.wfG L=true∧es.length+q.len≤6000000∧∀j∈es,0≤j∧j<(s'.code.length:Int))) (fun kv _ _ _=>vlen kv)
 case atStart=>exact ⟨a,m0,c,_,ks,[],s,rfl,rfl,Hm0.out,HC0.out,H0.out.1,H0.out.2.1,H0.out.2.2.1,H0.out.2.2.2,Nat.le_refl _,hw,by simpa using HLN.out,fun j hj=>by cases hj⟩
 case round=>
  clear H0 Hm0 HLN HC0
  obtain ⟨a',m,c',ev,q,es,s',rfl,rfl,HQ⟩:=hrel
  cases q with
  | nil=>
    obtain ⟨hm,hc',D,-,qO,qE,-,-,qN,qJ⟩:=HQ.out
    simp only[F.len] at hm qN
    have h1:¬((m:Int)>1):=by omega
    have h0:¬((m:Int)>0):=by omega
    have CL:=D.land qJ (by omega) (by have:=qO.code;omega)
    have HE:Hid (lnds es s'=R):=qE
    clear HQ D qO qE qJ hm
    go_wp2_with fail
    refine CL.mono ?_
    rintro e w2 hq
    have HF:Hid (GP No b tx W R e w2):=by rw[←HE.out];exact hq
    obtain ⟨rfl,-⟩:=hq
    clear HE CL
    go_wp2
    go_end0
    exact HF.out
  | cons k t n p ks' q'=>
    cases q' with
    | nil=>
      obtain ⟨hm,hc',D,hR0,qO,qE,qS,qW,qN,qJ⟩:=HQ.out
      simp only[F.len] at hm qN
      simp only[F.siz] at qO qS
      obtain ⟨hw1,-⟩:=F.wfG_cons qW
      have h1:¬((m:Int)>1):=by omega
      have h0:(m:Int)>0:=by omega
      have h0':(0:Int)<(m:Int):=h0
      obtain ⟨g,o,a1,c1,e1,hg,c0,d1,d2,d3,d4,hKs,hNx,hcc1⟩:=(D.rv hR0).cons
      subst e1
      have C1:=CB (fun g=>No g∨ev.ownBlock=some g) b tx s' wr k t n p a1 c1 ks' hT D.gk (hKs.mono fun _ e=>.inl e) (by omega) hw1 hcc1 (qO.mono (by omega) (by rw[z31_cons];omega))
      have GB:=HB k t n p ks' s' hw1
      have OB:Okg L 1 0 (nd .blk k t n p ks' s'):=(qO.mono (y:=ks'.siz+1) (f:=(one k t n p ks').z31+0) (by omega) (by rw[z31_cons];omega)).step GB
      have hJ:Hid (∀j∈es,0≤j∧j<((nd .blk k t n p ks' s').code.length:Int)):=fun j hj=>by
       have:=qJ j hj
       have:=GB.cl
       omega
      have lB:=OB.code
      have HE:Hid (lnds es (nd .blk k t n p ks' s')=R):=qE
      have HD:Hid (Tc No b tx ev es s' W wr):=D
      clear HQ D qO qE qJ hm GB OB hR0 hKs hNx
      go_wp2_with fail
      refine C1.mono ?_
      rintro e w2 hq
      have CL:=(HD.out.step hq).land hJ.out (by omega) (by omega)
      obtain ⟨rfl,-⟩:=hq
      clear HD C1
      go_wp2_with fail
      refine CL.mono ?_
      rintro e w3 hq
      have HF:Hid (GP No b tx W R e w3):=by rw[←HE.out];exact hq
      obtain ⟨rfl,-⟩:=hq
      clear HE CL
      go_wp2
      go_end0
      exact HF.out
    | cons k2 t2 n2 p2 ks2 r=>
      obtain ⟨hm,hc',D,hR0,qO,qE,qS,qW,qN,qJ⟩:=HQ.out
      obtain ⟨a2,c2,SL0,HRS,hc2⟩:=slice_from2 W a' 2 c' (.cons k t n p ks' (.cons k2 t2 n2 p2 ks2 r)) (by simp only[F.len];omega) (by rw[←hm];exact hc') (P:=No)
      have ed:(F.cons k t n p ks' (.cons k2 t2 n2 p2 ks2 r)).len - 2=r.len:=by simp only[F.len];omega
      rw[←hm] at SL0
      rw[ed] at hc2
      rw[hm,ed,←hm] at SL0
      simp only[F.len] at hm qN
      simp only[F.siz] at qO qS
      rw[z31_cons,z31_cons k2] at qO
      obtain ⟨hw1,hw2⟩:=F.wfG_cons qW
      obtain ⟨hw2,hw3⟩:=F.wfG_cons hw2
      obtain ⟨m2,hm2⟩:∃m,r.len=m:=⟨_,rfl⟩
      rw[hm2] at SL0 hc2 hm qN
      have SL:∀W,(Instr.sliceAt 52 (.slice a' m c') (some (.int .i64 2)) none none).run Tryz.prog W= .ok (.slice a2 m2 c2) W:=SL0
      obtain ⟨z1,hz1'⟩:∃z,(one k t n p ks').z31=z:=⟨_,rfl⟩
      obtain ⟨z2,hz2'⟩:∃z,(one k2 t2 n2 p2 ks2).z31=z:=⟨_,rfl⟩
      rw[hz1',hz2'] at qO
      obtain ⟨s1,hs1⟩:∃s1,nd .val k t n p ks' s'=s1:=⟨_,rfl⟩
      have G1:=H k t n p ks' s' hw1
      rw[hs1,hz1'] at G1
      have O1:Okg L ((1+ks2.siz)+(r.siz+1)) (z2+r.z31) s1:=(qO.mono (y:=(ks'.siz+1)+((1+ks2.siz)+(r.siz+1))) (f:=z1+(z2+r.z31)) (by omega) (by omega)).step G1
      obtain ⟨s2,hs2⟩:∃s2,gad 19 0 0 0 s1=s2:=⟨_,rfl⟩
      have G2:=gb_gad 19 0 0 0 s1 L 1 0 (by omega)
      have W2:=gw_gad 19 0 0 0 s1 L
      have L2:=gad_lt (op:=19) (a:=0) (b:=0) (c:=0) O1.cu
      rw[hs2] at G2 W2 L2
      have O2:Okg L (ks2.siz+(r.siz+1)) (z2+r.z31) s2:=(O1.mono (y:=1+(ks2.siz+(r.siz+1))) (f:=0+(z2+r.z31)) (by omega) (by omega)).step G2
      obtain ⟨s3,hs3⟩:∃s3,nd .blk k2 t2 n2 p2 ks2 s2=s3:=⟨_,rfl⟩
      have G3:=HB k2 t2 n2 p2 ks2 s2 hw2
      rw[hs3,hz2'] at G3
      have O3:Okg L (r.siz+1) r.z31 s3:=O2.step G3
      obtain ⟨s4,hs4⟩:∃s4,gad 18 0 0 0 s3=s4:=⟨_,rfl⟩
      have W4:=gw_gad 18 0 0 0 s3 L
      have L4:=gad_lt (op:=18) (a:=0) (b:=0) (c:=0) O3.cu
      have T4:=gad_len 18 0 0 0 s3
      rw[hs4] at W4 L4 T4
      have l1:=O1.code
      have l2:=O2.code
      have l3:=O3.code
      have j1:s1.code.length<s3.code.length:=by have:=G3.cl;omega
      have cl3:s'.code.length≤s3.code.length:=by have:=G1.cl;omega
      have T5:Hid (s3.code.length≤(lnd s1.nx s3).code.length∧s4.code.length≤(lnd s1.nx s4).code.length):=⟨(gw_lnd (L:=L) s1.nx s3).cl,(gw_lnd (L:=L) s1.nx s4).cl⟩
      have O5:Hid (Okg L (r.siz+1) r.z31 (lnd s1.nx s3)∧Okg L (r.siz+1) r.z31 (lnd s1.nx s4)):=
       ⟨O1.step ((((W2.trans G3.gw).trans (gw_lnd s1.nx s3)).gb (z':=1+ks2.siz) (f':=z2) (by omega) (by omega) (by omega))),
        O1.step (((((W2.trans G3.gw).trans W4).trans (gw_lnd s1.nx s4)).gb (z':=1+ks2.siz) (f':=z2) (by omega) (by omega) (by omega)))⟩
      have HEq:Hid ((if r.len=0 then chc nd r es (lnd s1.nx s3) else chc nd r (es++[s3.nx]) (lnd s1.nx s4))=R):=by
       show _=_
       rw[←qE,←hs4,←hs3,←hs2,←hs1];rfl
      rw[hm2] at HEq
      have h1:(m:Int)>1:=by omega
      have h0:(0:Int)<(m:Int):=by omega
      have h1':(1:Int)<(m:Int):=h1
      obtain ⟨g,o,a1,c1,e1,hg,d0,d1,d2,d3,d4,hKs,hNx,hcc1⟩:=(D.rv hR0).cons
      subst e1
      have C1:=CE (fun g=>No g∨ev.ownBlock=some g) b tx s' wr k t n p a1 c1 ks' hT D.gk (hKs.mono fun _ e=>.inl e) (by omega) hw1 hcc1 (by rw[hz1'];exact qO.mono (by omega) (by omega))
      rw[hs1] at C1
      have HD:Hid (Tc No b tx ev es s' W wr):=D
      have HR0:Hid (Rv W No (some ⟨g,o,none⟩) (.cons k t n p ks' (.cons k2 t2 n2 p2 ks2 r))∧Rv W No a2 r∧m2=r.len):=⟨hR0,by have q:=HRS W hR0;rw[show (F.cons k t n p ks' (.cons k2 t2 n2 p2 ks2 r)).drop 2=r by cases r<;>rfl] at q;exact q,hm2.symm⟩
      have HJ:Hid (∀j∈es,0≤j∧j<(s'.code.length:Int)):=qJ
      have CBK:Hid (∀(No':Nat→Prop) (w:World) (a1:Option Addr) (c1:Nat),Gk No' b tx s2 w→Rv w No' a1 ks2→(ks2.len≤c1∧c1≤maxLen)→Calls Tryz.prog 32 #[.pointer (some ⟨b,0,none⟩),(.agg #[.int .i64 (k2),.string ⟨(t2).toArray⟩,.int .i64 (n2),.int .i64 (p2),.slice a1 ks2.len c1])] w (GP No' b tx w s3)):=fun No' w a1 c1 hg hv hc=>by
       have q:=CB No' b tx s2 w k2 t2 n2 p2 a1 c1 ks2 hT hg hv (by omega) hw2 hc (by rw[hz2'];exact O2.mono (by omega) (by omega))
       rw[hs3] at q
       exact q
      have HS2:Hid (gad 19 0 0 0 s1=s2∧gad 18 0 0 0 s3=s4):=⟨hs2,hs4⟩
      have HSZ:Hid (r.siz≤ks.siz∧es.length+1+m2≤6000000):=⟨by omega,by omega⟩
      have hle:es.length≤6000000:=by omega
      have HLT:Hid (m2<m):=by show _<_;omega
      clear HQ D qO qE qJ hR0 hKs hNx HRS SL0 hm hm2 G1 G2 G3 W2 W4 O1 O2 O3 hs1 hs2 hs3 hs4 hw1 hw2 qW CE CB ed qN hz1' hz2' L2 hc'
      go_wp2_with fail
      refine C1.mono ?_
      rintro e w2 hq
      have D2:=HD.out.step hq
      obtain ⟨rfl,-⟩:=hq
      have C2:=D2.gk.add0 19 (by omega)
      rw[HS2.out.1] at C2
      have HD2:Hid (Tc No b tx ev es s1 W w2):=D2
      clear HD C1 D2
      go_wp2_with fail
      refine C2.mono ?_
      rintro e w3 ⟨rfl,hq1,hq2⟩
      have D3:=HD2.out.to hq1 hq2
      obtain ⟨g',o',a3,c3,eq,hg1,r0,r1,r2,r3,r4,hv1,hc1⟩:=Rv.nth (k:=k2) (t:=t2) (n:=n2) (p:=p2) (ks:=ks2) _ 1 (D3.rv HR0.out.1) rfl
      injection eq with eq
      injection eq with eq1 eq2
      subst eq1 eq2
      simp only[Nat.one_mul] at r0 r1 r2 r3 r4
      have C3:=CBK.out _ w3 a3 c3 D3.gk (hv1.mono fun _ e=>.inl e) hc1
      have HD3:Hid (Tc No b tx ev es s2 W w3):=D3
      clear HD2 C2 D3 hq1 hq2 hv1 CBK d0 d1 d2 d3 d4
      go_wp2_with fail
      refine C3.mono ?_
      rintro e w4 hq
      have D4:=HD3.out.step hq
      obtain ⟨rfl,-⟩:=hq
      have HD4:Hid (Tc No b tx ev es s3 W w4):=D4
      by_cases hz:m2=0
      ·have h2:¬((m2:Int)>0):=by omega
       have CL:=D4.gk.land1 s1.nx (by show (0:Int)≤(s1.code.length:Int);omega) (by show (s1.code.length:Int)<_;omega) (by omega)
       have HE:Hid (chc nd r es (lnd s1.nx s3)=R):=by have q:=HEq.out;rw[if_pos hz] at q;exact q
       clear C3 HD3 HEq D4 HS2 hz
       go_wp2_with fail
       refine CL.mono ?_
       rintro e w5 hq
       have D5:=HD4.out.step hq
       obtain ⟨rfl,-⟩:=hq
       have HF:Hid (m2=r.len∧m2≤c2∧Tc No b tx ev es (lnd s1.nx s3) W w5∧Rv W No a2 r∧Okg L (r.siz+1) r.z31 (lnd s1.nx s3)∧chc nd r es (lnd s1.nx s3)=R∧r.siz≤ks.siz∧r.wfG L=true∧es.length+r.len≤6000000∧∀j∈es,0≤j∧j<((lnd s1.nx s3).code.length:Int)):=
        ⟨HR0.out.2.2,hc2,D5,HR0.out.2.1,O5.out.1,HE.out,HSZ.out.1,hw3,by have:=HSZ.out.2;have:=HR0.out.2.2;omega,fun j hj=>by have:=HJ.out j hj;have:=T5.out.1;omega⟩
       clear CL HD4 D5 HE HR0 O5 HSZ HJ T5
       go_wp2
       exact ⟨⟨a2,m2,c2,_,r,es,_,rfl,rfl,HF.out⟩,by simp[vlen];omega⟩
      ·have h2:(m2:Int)>0:=by omega
       have C5:=D4.gk.add0 18 (by omega)
       rw[HS2.out.2] at C5
       have HE:Hid (chc nd r (es++[s3.nx]) (lnd s1.nx s4)=R):=by have q:=HEq.out;rw[if_neg hz] at q;exact q
       clear C3 HD3 HEq D4 HS2
       go_wp2_with fail
       refine C5.mono ?_
       rintro e w5 ⟨rfl,hq1,hq2⟩
       have D5:=HD4.out.to hq1 hq2
       have er:=D5.er
       have HD5:Hid (Tc No b tx ev es s4 W w5):=D5
       clear C5 hq1 hq2 HD4 D5
       go_wp2_with (at_builtin;refine wpList_append_lies _ rfl _ _ 82 rfl 0 3 i0 _ 1 8 Tryz.underlying82 hi0 hz0 hz1 hz2 rfl (by omega) ev es.length (nts es) rfl (er.alloc _) ⟨w5.heap.size,0,none⟩ 1 1 [.int .i64 s3.nx] rfl rfl (World.news_of_block (cs:=#[.int .i64 s3.nx]) (t:=3) (fr:=(0,0)) (Bx.new w5 3 #[.int .i64 s3.nx]).blk) (by simp[Value.oneCell']) (by omega) (by unfold maxLen;omega) (by omega) (by omega) _ rfl ?_;intro gg cc w6 hown3 hg3 hat3 hlt3)
       have D6:=HD5.out.app hN (w1:=w5.alloc (.cells #[.int .i64 s3.nx] 3)) (b1 _ _) hown3 hg3 hat3
       have CL:=D6.gk.land1 s1.nx (by show (0:Int)≤(s1.code.length:Int);omega) (by show (s1.code.length:Int)<_;omega) (by omega)
       have HD6:Hid (Tc No b tx (.slice (some ⟨gg,0,none⟩) (es.length+1) cc) (es++[s3.nx]) s4 W w6):=D6
       clear hown3 hg3 hat3 hlt3 HD5 D6 er
       go_wp2_with fail
       refine CL.mono ?_
       rintro e w7 hq
       have D7:=HD6.out.step hq
       obtain ⟨rfl,-⟩:=hq
       have HF:Hid (m2=r.len∧m2≤c2∧Tc No b tx (.slice (some ⟨gg,0,none⟩) (es.length+1) cc) (es++[s3.nx]) (lnd s1.nx s4) W w7∧Rv W No a2 r∧Okg L (r.siz+1) r.z31 (lnd s1.nx s4)∧chc nd r (es++[s3.nx]) (lnd s1.nx s4)=R∧r.siz≤ks.siz∧r.wfG L=true∧(es++[s3.nx]).length+r.len≤6000000∧∀j∈es++[s3.nx],0≤j∧j<((lnd s1.nx s4).code.length:Int)):=
        ⟨HR0.out.2.2,hc2,D7,HR0.out.2.1,O5.out.2,HE.out,HSZ.out.1,hw3,by have:=HSZ.out.2;have:=HR0.out.2.2;simp;omega,fun j hj=>by
         have q:=T5.out.2
         rcases List.mem_append.1 hj with hj | hj
         ·have:=HJ.out j hj;omega
         ·have e:j=(s3.code.length:Int):=by simpa [Gs.nx] using hj
          rw[e];omega⟩
       clear CL HD6 D7 HE HR0 O5 HSZ HJ T5
       go_wp2
       exact ⟨⟨a2,m2,c2,_,r,es++[s3.nx],_,rfl,rfl,HF.out⟩,by have:=HLT.out;simp[vlen];omega⟩
end Go.Proofs.YtkjbgggghigapaaGreat


namespace Go.Proofs.YtkjbgggghigapaaGreat
open Go.RowKit
def lfT (tx:Tx) (a p:Int):Int:=if 0≤p - a∧p≤(tx.length:Int) then (((S.lcA (p - a).toNat (S.rest ((⟨tx.toArray⟩:ByteArray).extract a.toNat tx.length) 0)).1:Nat):Int) else 0
theorem lfT_rng (tx:Tx) (a p:Int):0≤lfT tx a p∧lfT tx a p≤(tx.length:Int)+1:=by
 unfold lfT
 split
 ·have q:=(S.lcA_le (p - a).toNat (S.rest ((⟨tx.toArray⟩:ByteArray).extract a.toNat tx.length) 0)).2.1
  have r:=S.rest_len ((⟨tx.toArray⟩:ByteArray).extract a.toNat tx.length) 0
  have z:((⟨tx.toArray⟩:ByteArray).extract a.toNat tx.length).size≤tx.length:=by rw[ByteArray.size_extract];show min tx.length tx.toArray.size - _≤_;simp
  omega
 ·omega
theorem place_T (tx:Tx) (a:Nat) (p:Int) (w:World) (ha:a≤tx.length) (hT:tx.length≤1048576):Calls Tryz.prog 69 #[.string ((⟨tx.toArray⟩:ByteArray).extract a tx.length),.int .i64 (p - (a:Nat))] w fun e w'=>(∃c v,e= .returned (.tuple #[.int .i64 (lfT tx (a:Nat) p),c,v]))∧Below w.heap.size w w':=by
 have z:((⟨tx.toArray⟩:ByteArray).extract a tx.length).size=tx.length - a:=by rw[ByteArray.size_extract];show min tx.length tx.toArray.size - _=_;simp
 by_cases h:0≤p - (a:Nat)∧p≤(tx.length:Int)
 ·obtain ⟨m,hm⟩:∃m:Nat,p - (a:Nat)=(m:Nat):=⟨(p - (a:Nat)).toNat,by omega⟩
  have e:lfT tx (a:Nat) p=(((S.lcA m (S.rest ((⟨tx.toArray⟩:ByteArray).extract a tx.length) 0)).1:Nat):Int):=by unfold lfT;rw[if_pos h,hm];rfl
  rw[e,hm]
  exact (S.place_yes _ m w (by omega) (by omega)).mono fun _ _ q=>⟨⟨_,_,q.1⟩,q.2⟩
 ·have e:lfT tx (a:Nat) p=0:=by unfold lfT;rw[if_neg h]
  rw[e]
  exact (S.place_err _ (p - (a:Nat)) w (by omega)).mono fun _ _ q=>⟨⟨_,_,q.1⟩,q.2⟩
set_option maxRecDepth 20000 in
set_option maxHeartbeats 8000000 in
theorem lineOf_any {No:Nat→Prop} {b:Nat} {tx:Tx} {x:Gx} {s:Gs} {W:World} (p:Int) (h:GK No b tx x s W) (hT:tx.length≤1048576) (hp:0≤p∧p≤1048576) (hs:0≤s.pl∧s.pl≤(tx.length:Int)) (hl:-2000000000000≤s.ln∧s.ln≤2000000000000):
 Calls Tryz.prog 46 #[.pointer (some ⟨x.S,0,none⟩),.int .i64 p] W fun e w'=>e= .returned (.int .i64 (lin (lfT tx) p s).ln)∧GK No b tx x (lin (lfT tx) p s) w'∧Kn No W w':=by
 obtain ⟨a,ha⟩:∃a:Nat,s.pl=(a:Nat):=⟨s.pl.toNat,by omega⟩
 have hr:=lfT_rng tx (a:Nat) p
 have c0:W.cell? ⟨x.S,0,none⟩=some (.string ⟨tx.toArray⟩):=h.sx.c 0 _ rfl
 have c4:W.cell? ⟨x.S,4,none⟩=some (.int .i64 (a:Nat)):=by rw[←ha];exact h.sx.c 4 _ rfl
 have w1:IntKind.i64.wrap (p - (a:Nat))=p - (a:Nat):=by rw[IntKind.wrap_i64];omega
 have w2:IntKind.i64.wrap (s.ln+lfT tx (a:Nat) p)=s.ln+lfT tx (a:Nat) p:=by rw[IntKind.wrap_i64];omega
 have w3:IntKind.i64.wrap (s.ln+lfT tx (a:Nat) p - 1)=s.ln+lfT tx (a:Nat) p - 1:=by rw[IntKind.wrap_i64];omega
 have hz:(⟨tx.toArray⟩:ByteArray).size=tx.length:=by show tx.toArray.size=_;simp
 have C:=fun w=>place_T tx a p w (by omega) hT
 have hE:(lin (lfT tx) p s)={s with pl:=p,ln:=s.ln+lfT tx (a:Nat) p - 1}:=by unfold lin;rw[ha]
 rw[hE]
 obtain ⟨ℓ,hℓ⟩:∃z,lfT tx (a:Nat) p=z:=⟨_,rfl⟩
 rw[hℓ] at w2 w3 C hr⊢
 have HG:Hid (GK No b tx x s W):=h
 have hn:(a:Int)≤(tx.length:Int):=by omega
 have hn':a≤tx.length:=by omega
 have h0:(0:Int)≤(a:Int):=by omega
 have SL:∀V,(Instr.sliceAt 9 (.string ⟨tx.toArray⟩) (some (.int .i64 (a:Nat))) none none).run Tryz.prog V= .ok (.string ((⟨tx.toArray⟩:ByteArray).extract a tx.length)) V:=fun V=>by
  simp[go_sem,Instr.sliceAt,hz,hn']
 have HC:Hid (W.drew.cell? ⟨x.S,0,none⟩=some (.string ⟨tx.toArray⟩)∧W.drew.cell? ⟨x.S,4,none⟩=some (.int .i64 (a:Nat))):=⟨c0,c4⟩
 clear h hs hl hE hℓ hT
 go_enter Tryz.func46,Tryz.ntmps46
 go_wp2_with fail
 go_region_held3 (fun V=>V.cell? ⟨x.S,0,none⟩=some (.string ⟨tx.toArray⟩)∧V.cell? ⟨x.S,4,none⟩=some (.int .i64 (a:Nat))) (first | exact HC.out | exact ⟨y0,y4⟩)
  (first | (go_at_call 69;refine (C _).mono ?_;rintro e w4 ⟨⟨c,v,rfl⟩,hb⟩;have H4:=HG.out.drew.below hb;have y0:w4.cell? ⟨x.S,0,none⟩=some (.string ⟨tx.toArray⟩):=H4.sx.c 0 _ rfl;have y4:w4.cell? ⟨x.S,4,none⟩=some (.int .i64 (a:Nat)):=by (rw[←ha];exact H4.sx.c 4 _ rfl)))
 all_goals
  have c5:w4.cell? ⟨x.S,5,none⟩=some (.int .i64 s.ln):=H4.sx.c 5 _ rfl
  have f4:=H4.sx.f 4
  have f5:=H4.sx.f 5
  have HF:Hid (GK No b tx x {s with pl:=p,ln:=s.ln+ℓ - 1} ((w4.setCell ⟨x.S,4,none⟩ (.int .i64 p)).setCell ⟨x.S,5,none⟩ (.int .i64 (s.ln+ℓ - 1)))∧Kn No W ((w4.setCell ⟨x.S,4,none⟩ (.int .i64 p)).setCell ⟨x.S,5,none⟩ (.int .i64 (s.ln+ℓ - 1)))):=by
   have q:=H4.line p (s.ln+ℓ - 1)
   exact ⟨q.1,((Kn.refl No W).drew.trans (.of_below hb)).trans q.2⟩
  clear H4 hb C HG
  go_wp2_with fail
  go_ret
  exact ⟨rfl,HF.out⟩
end Go.Proofs.YtkjbgggghigapaaGreat


namespace Go.Proofs.YtkjbgggghigapaaGreat
open Go.RowKit
theorem gad_lo (op a b c:Int) (s:Gs):(gad op a b c s).lo=s.lo:=put_lo _ _
set_option maxRecDepth 20000 in
set_option maxHeartbeats 16000000 in
theorem g_block_any {L:Tx} {N:Nat} {nd:Jg→Ndg} (HS:∀k t n p ks s,(one k t n p ks).wfG L=true→Gw L ks.siz (one k t n p ks).z31 15 s (nd .sta k t n p ks s)) (HLS:∀k t n p ks s,s.lo.length≤(nd .sta k t n p ks s).lo.length) (CS:GN 47 L N (nd .sta)) (h20:L.length≤20000) (No:Nat→Prop) (b:Nat) (tx:Tx) (s:Gs) (W:World) (k:Int) (t:Tx) (n p:Int) (a:Option Addr) (c:Nat) (ks:F) (hT:Hid (tx=L)) (h:Gk No b tx s W) (hr:Rv W No a ks) (hs:ks.siz≤N) (hw:ks.wfG L=true) (hcc:ks.len≤c∧c≤maxLen) (hL:Okg L (ks.siz+1) ks.z31 s):
 Calls Tryz.prog 32 #[.pointer (some ⟨b,0,none⟩),(.agg #[.int .i64 (k),.string ⟨(t).toArray⟩,.int .i64 (n),.int .i64 (p),.slice a ks.len c])] W (GP No b tx W (blkG nd (lfT L) ks s)):=by
 have hlen:=ks.len_siz
 have hsz:ks.siz≤6000000:=by have:=hL.wt;omega
 have HF0:Hid (∀a b,0≤lfT L a b∧lfT L a b≤30000):=fun a b=>by have:=lfT_rng L a b;omega
 have B:=h.gy #[.int .i64 k,.string ⟨t.toArray⟩,.int .i64 n,.int .i64 p,.slice a ks.len c]
 obtain ⟨X,hX⟩:∃X,W.heap.size=X:=⟨_,rfl⟩
 obtain ⟨W1,hW1⟩:∃W1,W.alloc (.cells #[.int .i64 (k),.string ⟨(t).toArray⟩,.int .i64 (n),.int .i64 (p),.slice a ks.len c] 54)=W1:=⟨_,rfl⟩
 rw[hX,hW1] at B
 have hrB:=B.rv hr
 obtain ⟨x0,x1,x2,x3,x4⟩:=B.bx.five
 obtain ⟨xB,hxB⟩:=B.gk
 obtain ⟨aB,cB,hvB⟩:=row_form hxB.lr
 have q2:W1.cell? ⟨b,2,none⟩=some (.slice aB s.lo.length cB):=by
  have q:W1.cell? ⟨b,2,none⟩=some xB.vL:=hxB.mx.c 2 _ rfl
  rw[hvB] at q
  exact q
 have HA:Hid (ks= .nil∨∃g o,a=some ⟨g,o,none⟩):=by
  cases ks with
  | nil=>exact .inl rfl
  | cons k t n p ks' r'=>obtain ⟨g,o,_,_,e,_⟩:=hr.cons;exact .inr ⟨g,o,e⟩
 obtain ⟨R,hR⟩:∃R,sts nd (lfT L) ks s=R:=⟨_,rfl⟩
 have hE:blkG nd (lfT L) ks s={R with lo:=R.lo.take s.lo.length}:=by unfold blkG;rw[hR]
 rw[hE]
 have HB:Hid (Gy No b tx s W X #[.int .i64 k,.string ⟨t.toArray⟩,.int .i64 n,.int .i64 p,.slice a ks.len c] W1∧Rv W1 (fun g=>No g∨g=X) a ks∧Okg L (ks.siz+1) ks.z31 s∧sts nd (lfT L) ks s=R):=⟨B,hrB,hL,hR⟩
 have hlo0:s.lo.length≤90000000:=by have:=hL.wt;unfold Gs.wt at this;omega
 clear h hr B hE hrB hL hR hxB hvB
 go_enter Tryz.func32,Tryz.ntmps32
 go_wp2_with fail
 go_loopw [6,15] (fun _ iv wx=>∃(i:Nat) (q:F) (s':Gs),iv= .int .i64 (i:Nat)∧i+q.len=ks.len∧Hid (Gy No b tx s' W X #[.int .i64 k,.string ⟨t.toArray⟩,.int .i64 n,.int .i64 p,.slice a ks.len c] wx∧(∀g o,a=some ⟨g,o,none⟩→Rv wx (fun g=>No g∨g=X) (some ⟨g,o+i * 5,none⟩) q)∧sts nd (lfT L) q s'=R∧q.siz≤ks.siz∧q.wfG L=true∧Okg L (q.siz+1) q.z31 s'∧s.lo.length≤s'.lo.length)) (fun _ iv _=>ks.len - (intOf iv).toNat)
 case atStart=>exact ⟨0,ks,s,rfl,by omega,HB.out.1,fun g o e=>by have:=HB.out.2.1;rw[e] at this;simpa using this,HB.out.2.2.2,Nat.le_refl _,hw,HB.out.2.2.1,Nat.le_refl _⟩
 case round=>
  clear HB x0 x1 x2 x3 x4 q2
  obtain ⟨i,q,s',rfl,hi,HQ⟩:=hrel
  cases q with
  | nil=>
    have h1:¬(i:Int)<(ks.len:Int):=by simp only[F.len] at hi;omega
    obtain ⟨D,-,qE,-,-,-,qlo⟩:=HQ.out
    obtain ⟨y7,hy7⟩:=D.gk
    obtain ⟨a7,c7,hv7⟩:=row_form hy7.lr
    have q7:wr.cell? ⟨b,2,none⟩=some (.slice a7 s'.lo.length c7):=by
     have q:wr.cell? ⟨b,2,none⟩=some y7.vL:=hy7.mx.c 2 _ rfl
     rw[hv7] at q
     exact q
    have f7:=hy7.mx.f 2
    have hcap:s'.lo.length≤c7:=by
     have q:=hy7.lr
     rw[hv7] at q
     exact (own_cut q (Nat.zero_le _)).2.2
    have SL7:∀W,(Instr.sliceAt 23 (.slice a7 s'.lo.length c7) none (some (.int .i64 (s.lo.length:Nat))) none).run Tryz.prog W= .ok (.slice a7 s.lo.length c7) W:=fun W=>by
     have e1:s.lo.length≤c7:=by omega
     simp[go_sem,Instr.sliceAt,e1]
    have K7:=hy7.cutL hv7 qlo
    have H7:Hid (Gy No b tx {R with lo:=R.lo.take s.lo.length} W X #[.int .i64 k,.string ⟨t.toArray⟩,.int .i64 n,.int .i64 p,.slice a ks.len c] (wr.setCell ⟨b,2,none⟩ (.slice a7 s.lo.length c7))):=by
     have e:s'=R:=qE
     rw[←e]
     exact D.to K7.1 K7.2
    clear D hy7 hv7 K7 qE HQ
    go_wp2_with fail
    go_end0
    exact H7.out.out
  | cons kk t' n' p' ks' q'=>
    simp only[F.len] at hi
    obtain ⟨D,qA,qE,qS,qW,qO,qlo⟩:=HQ.out
    simp only[F.siz] at qS qO
    rw[z31_cons] at qO
    obtain ⟨g,o,rfl⟩:∃g o,a=some ⟨g,o,none⟩:=HA.out.resolve_left fun e=>by rw[e] at hi;simp only[F.len] at hi;omega
    obtain ⟨g',o',a',c',e1,hg,d0,d1,d2,d3,d4,hKs,hNx,hcc'⟩:=(qA g o rfl).cons
    injection e1 with e1
    injection e1 with e1 e2
    subst e1 e2
    obtain ⟨hf1,hf2⟩:=F.wfG_cons qW
    obtain ⟨-,hp',-,-⟩:=F.wfG_one hf1
    have h1:(i:Int)<(ks.len:Int):=by omega
    have wi:IntKind.i64.wrap ((i:Int)+1)=(i:Int)+1:=by rw[IntKind.wrap_i64];omega
    have GA:=D.with (.cells #[.int .i64 kk,.string ⟨t'.toArray⟩,.int .i64 n',.int .i64 p',.slice a' ks'.len c'] 54)
    have DA:=D.alloc (.cells #[.int .i64 kk,.string ⟨t'.toArray⟩,.int .i64 n',.int .i64 p',.slice a' ks'.len c'] 54)
    have XA:=Bx.new wr 54 #[.int .i64 kk,.string ⟨t'.toArray⟩,.int .i64 n',.int .i64 p',.slice a' ks'.len c']
    have NA:=hNx.kn ((Kn.refl (fun g=>No g∨g=X) wr).alloc (.cells #[.int .i64 kk,.string ⟨t'.toArray⟩,.int .i64 n',.int .i64 p',.slice a' ks'.len c'] 54))
    have KA:=hKs.kn ((Kn.refl (fun g=>No g∨g=X) wr).alloc (.cells #[.int .i64 kk,.string ⟨t'.toArray⟩,.int .i64 n',.int .i64 p',.slice a' ks'.len c'] 54))
    obtain ⟨Y,hY⟩:∃Y,wr.heap.size=Y:=⟨_,rfl⟩
    obtain ⟨wa,hwa⟩:∃wa,wr.alloc (.cells #[.int .i64 kk,.string ⟨t'.toArray⟩,.int .i64 n',.int .i64 p',.slice a' ks'.len c'] 54)=wa:=⟨_,rfl⟩
    rw[hwa] at GA DA XA NA KA
    rw[hY] at GA XA
    obtain ⟨x,hx⟩:=GA
    have hln:=qO.ln
    have hpl:=qO.pl
    have hcd:=qO.code
    have eT:tx=L:=hT.out
    have CL:=lineOf_any p' hx.drew (by rw[eT];omega) (by omega) (by rw[eT];exact hpl) (by omega)
    rw[show lin (lfT tx) p' s'=lin (lfT L) p' s' by rw[eT]] at CL
    obtain ⟨sl,hsl⟩:∃sl,lin (lfT L) p' s'=sl:=⟨_,rfl⟩
    rw[hsl] at CL
    have hcl:sl.code.length≤90000000:=by rw[←hsl];exact hcd
    obtain ⟨s1,hs1⟩:∃s1,gad 1 sl.ln 0 0 sl=s1:=⟨_,rfl⟩
    have G0:Gb L 1 0 s' s1:=by
     rw[←hs1,←hsl]
     exact gb_line (z:=0) (f:=0) hp' HF0.out ((Gw.refl L _).re (by omega) (by omega) (by omega))
    have G1:Gb L (ks'.siz+1) (one kk t' n' p' ks').z31 s' (nd .sta kk t' n' p' ks' s1):=by
     rw[←hs1,←hsl]
     exact gb_line hp' HF0.out (HS kk t' n' p' ks' _ hf1)
    have O1:Okg L (ks'.siz+1) (one kk t' n' p' ks').z31 s1:=((qO.mono (y:=1+(ks'.siz+1+q'.siz)) (f:=0+((one kk t' n' p' ks').z31+q'.z31)) (by omega) (by omega)).step G0).mono (by omega) (by omega)
    have O2:Okg L (q'.siz+1) q'.z31 (nd .sta kk t' n' p' ks' s1):=(qO.mono (y:=(ks'.siz+1)+(q'.siz+1)) (f:=(one kk t' n' p' ks').z31+q'.z31) (by omega) (by omega)).step G1
    have elo:s1.lo=s'.lo:=by rw[←hs1,←hsl];exact gad_lo _ _ _ _ _
    have l2:=HLS kk t' n' p' ks' s1
    rw[elo] at l2
    have eE:sts nd (lfT L) q' (nd .sta kk t' n' p' ks' s1)=R:=by rw[←qE,←hs1,←hsl];rfl
    have HK:Hid (Gy No b tx s' W X #[.int .i64 k,.string ⟨t.toArray⟩,.int .i64 n,.int .i64 p,.slice (some ⟨g,o,none⟩) ks.len c] wa∧Bx Y 54 #[.int .i64 kk,.string ⟨t'.toArray⟩,.int .i64 n',.int .i64 p',.slice a' ks'.len c'] wa∧Rv wa (fun g=>No g∨g=X) (some ⟨g,o+i * 5+5,none⟩) q'∧Rv wa (fun g=>No g∨g=X) a' ks'):=⟨DA,XA,NA,KA⟩
    have HO:Hid (Okg L (ks'.siz+1) (one kk t' n' p' ks').z31 s1∧Okg L (q'.siz+1) q'.z31 (nd .sta kk t' n' p' ks' s1)∧sts nd (lfT L) q' (nd .sta kk t' n' p' ks' s1)=R∧s.lo.length≤(nd .sta kk t' n' p' ks' s1).lo.length∧gad 1 sl.ln 0 0 sl=s1):=⟨O1,O2,eE,by omega,hs1⟩
    have u0:wa.drew.cell? ⟨b,0,none⟩=some (.pointer (some ⟨x.S,0,none⟩)):=hx.drew.mx.c 0 _ rfl
    have u3:wa.drew.cell? ⟨Y,3,none⟩=some (.int .i64 p'):=XA.drew.c 3 _ rfl
    have HU:Hid (wa.drew.cell? ⟨b,0,none⟩=some (.pointer (some ⟨x.S,0,none⟩))∧wa.drew.cell? ⟨Y,3,none⟩=some (.int .i64 p')):=⟨u0,u3⟩
    have v0:wa.cell? ⟨b,0,none⟩=some (.pointer (some ⟨x.S,0,none⟩)):=u0
    have v3:wa.cell? ⟨Y,3,none⟩=some (.int .i64 p'):=u3
    clear D qA qE qW qO HQ hKs hNx hx DA XA NA KA G0 G1 O1 O2 eE elo eT hsl hln hpl hcd u0 u3
    go_wp2_with fail
    go_region_with
     (first
      | (go_at_call 46;refine CL.mono ?_;rintro e w2 ⟨rfl,hq1,hq2⟩;have y0:w2.cell? ⟨b,0,none⟩=some (.pointer (some ⟨x.S,0,none⟩)):=hq1.mx.c 0 _ rfl;have X2:=(HK.out.2.1.drew.kn hq2 (.inr rfl));have y3:w2.cell? ⟨Y,3,none⟩=some (.int .i64 p'):=X2.c 3 _ rfl;have y0A:∀o,(w2.alloc o).cell? ⟨b,0,none⟩=some (.pointer (some ⟨x.S,0,none⟩)):=fun o=>(hq1.alloc o).mx.c 0 _ rfl;have y3A:∀o,(w2.alloc o).cell? ⟨Y,3,none⟩=some (.int .i64 p'):=fun o=>(X2.alloc o).c 3 _ rfl;have CA:=Gk.add1 1 sl.ln (⟨x,hq1⟩:Gk (fun g=>(No g∨g=X)∨g=Y) b tx sl w2) (by omega);have HQ2:Hid (Kn (fun g=>(No g∨g=X)∨g=Y) wa w2):=((Kn.refl _ wa).drew.trans hq2);clear hq1 hq2 X2)
      | (go_at_call 33;refine CA.mono ?_;rintro e w3 ⟨rfl,hq1,hq2⟩;have HQ3:Hid (Gk (fun g=>(No g∨g=X)∨g=Y) b tx s1 w3∧Kn (fun g=>(No g∨g=X)∨g=Y) wa w3):=⟨by rw[←HO.out.2.2.2.2];exact hq1,HQ2.out.trans hq2⟩;clear hq1 hq2))
    all_goals
     have D3:=HK.out.1.to (HQ3.out.1.less fun _ e=>.inl e) (HQ3.out.2.mono fun _ _ e=>.inl e)
     obtain ⟨z0,z1,z2,z3,z4⟩:=(HK.out.2.1.kn HQ3.out.2 (.inr rfl)).five
     have K3:Kn (fun g=>No g∨g=X) wa w3:=HQ3.out.2.mono fun _ _ e=>.inl e
     have C3:=CS (fun g=>No g∨g=X) b tx s1 w3 kk t' n' p' a' c' ks' hT D3.gk (HK.out.2.2.2.kn K3) (by omega) hf1 hcc' HO.out.1
     have HD3:Hid (Gy No b tx s1 W X #[.int .i64 k,.string ⟨t.toArray⟩,.int .i64 n,.int .i64 p,.slice (some ⟨g,o,none⟩) ks.len c] w3∧Rv w3 (fun g=>No g∨g=X) (some ⟨g,o+i * 5+5,none⟩) q'):=⟨D3,HK.out.2.2.1.kn K3⟩
     clear D3 K3 HQ3 HQ2 HK HU v0 v3 y0 y3 y0A y3A CL CA
     go_wp2_with fail
     refine C3.mono ?_
     rintro e w4 ⟨rfl,hq1,hq2⟩
     have HF:Hid (Gy No b tx (nd .sta kk t' n' p' ks' s1) W X #[.int .i64 k,.string ⟨t.toArray⟩,.int .i64 n,.int .i64 p,.slice (some ⟨g,o,none⟩) ks.len c] w4∧(∀g' o',some (⟨g,o,none⟩:Addr)=some ⟨g',o',none⟩→Rv w4 (fun g=>No g∨g=X) (some ⟨g',o'+(i+1) * 5,none⟩) q')∧sts nd (lfT L) q' (nd .sta kk t' n' p' ks' s1)=R∧q'.siz≤ks.siz∧q'.wfG L=true∧Okg L (q'.siz+1) q'.z31 (nd .sta kk t' n' p' ks' s1)∧s.lo.length≤(nd .sta kk t' n' p' ks' s1).lo.length):=⟨HD3.out.1.to hq1 hq2,fun g' o' e=>by
      injection e with e
      injection e with e1 e2
      subst e1 e2
      rw[show o+(i+1) * 5=o+i * 5+5 by omega]
      exact HD3.out.2.kn hq2,HO.out.2.2.1,by omega,hf2,HO.out.2.1,HO.out.2.2.2.1⟩
     clear C3 hq1 hq2 HD3 HO
     go_wp2
     refine ⟨⟨i+1,q',_,by go_num,by omega,HF.out⟩,?_⟩
     simp[intOf];omega
end Go.Proofs.YtkjbgggghigapaaGreat


namespace Go.Proofs.YtkjbgggghigapaaGreat
open Go.RowKit
structure SK (No:Nat→Prop) (t:Tx) (x:Gx) (s:Gs) (w:World):Prop where
 sx:Bx x.S 71 (scl x t s) w
 ur:w.ownsRow 0 41 5 x.vU s.us.length (ucl s.us x.vc x.vk)
 mp:Mi w x.m s.gl
 cr:∀(i:Nat) (u:Gu) (v:Value),s.us[i]?=some u→x.vc[i]?=some v→w.ownsRow 0 79 3 v u.cs.length (vcl u.cs)
 kr:∀(i:Nat) (u:Gu) (v:Value),s.us[i]?=some u→x.vk[i]?=some v→w.ownsRow 0 48 4 v u.cd.length (icl u.cd)
 cl:x.vc.length=s.us.length
 kl:x.vk.length=s.us.length
 ub:x.vU.ownBlock=some x.U
 lS:x.lab x.S=1
 lU:x.lab x.U=3
 lm:x.lab x.m=4
 lc:∀(i:Nat) (v:Value) (g:Nat),x.vc[i]?=some v→v.ownBlock=some g→x.lab g=7
 lk:∀(i:Nat) (v:Value) (g:Nat),x.vk[i]?=some v→v.ownBlock=some g→x.lab g=8+i
 no:∀g,No g→g<w.heap.size∧x.lab g=0
 gh:x.S=s.gS∧x.U=s.gU
section
variable {No:Nat→Prop} {b:Nat} {t:Tx} {x y:Gx} {s s':Gs} {w w' W:World}
theorem GK.sk (h:GK No b t x s w):SK No t x s w:=⟨h.sx,h.ur,h.mp,h.cr,h.kr,h.cl,h.kl,h.ub,h.lS,h.lU,h.lm,h.lc,h.lk,h.no,h.gh⟩
def Aside (No:Nat→Prop) (b:Nat) (x:Gx) (g:Nat):Prop:=No g∨g=b∨x.vL.ownBlock=some g∨x.vB.ownBlock=some g
theorem GK.aside (h:GK No b t x s w):∃y,SK (Aside No b x) t y s w∧y.S=x.S:=by
 have e:∀g l,x.lab g=l→l≠2→l≠5→l≠6→(if g=b∨x.vL.ownBlock=some g∨x.vB.ownBlock=some g then 0 else x.lab g)=l:=fun g l q h2 h5 h6=>by
  rw[if_neg]
  ·exact q
  ·rintro (r | r | r)
   ·rw[r,h.lb] at q;exact h2 q.symm
   ·rw[h.lL g r] at q;exact h5 q.symm
   ·rw[h.lB g r] at q;exact h6 q.symm
 refine ⟨{x with lab:=fun g=>if g=b∨x.vL.ownBlock=some g∨x.vB.ownBlock=some g then 0 else x.lab g},⟨h.sx,h.ur,h.mp,h.cr,h.kr,h.cl,h.kl,h.ub,e _ _ h.lS (by decide) (by decide) (by decide),e _ _ h.lU (by decide) (by decide) (by decide),e _ _ h.lm (by decide) (by decide) (by decide),fun i v g hv hg=>e _ _ (h.lc i v g hv hg) (by decide) (by decide) (by decide),fun i v g hv hg=>e _ _ (h.lk i v g hv hg) (by omega) (by omega) (by omega),fun g hg=>?_,h.gh⟩,rfl⟩
 have hl:g<w.heap.size:=by
  rcases hg with hg | hg | hg | hg
  ·exact (h.no g hg).1
  ·rw[hg];exact h.lt
  ·exact (h.lr.lt g hg).2
  ·exact (h.br.lt g hg).2
 refine ⟨hl,?_⟩
 show (if g=b∨x.vL.ownBlock=some g∨x.vB.ownBlock=some g then 0 else x.lab g)=0
 by_cases q:g=b∨x.vL.ownBlock=some g∨x.vB.ownBlock=some g
 ·rw[if_pos q]
 ·rw[if_neg q];exact (h.no g (hg.resolve_right q)).2
theorem GK.again (h:GK No b t x s W) (k:SK (Aside No b x) t y s' w) (hk:Kn (Aside No b x) W w) (e1:s'.cu=s.cu) (e2:s'.lo=s.lo) (e3:s'.br=s.br) (e4:s'.gS=s.gS) (e5:s'.gU=s.gU) (hc:s.cu<s'.us.length):Gk No b t s' w∧Kn No W w:=by
 have eS:y.S=x.S:=k.gh.1.trans (e4.trans h.gh.1.symm)
 have eU:y.U=x.U:=k.gh.2.trans (e5.trans h.gh.2.symm)
 have e:∀g l,y.lab g=l→l≠0→(if g=b then 2 else if x.vL.ownBlock=some g then 5 else if x.vB.ownBlock=some g then 6 else y.lab g)=l:=fun g l q h0=>by
  have n:¬Aside No b x g:=fun r=>h0 (q.symm.trans (k.no g r).2)
  rw[if_neg (fun r=>n (.inr (.inl r))),if_neg (fun r=>n (.inr (.inr (.inl r)))),if_neg (fun r=>n (.inr (.inr (.inr r))))]
  exact q
 refine ⟨⟨{y with vL:=x.vL,vB:=x.vB,lab:=fun g=>if g=b then 2 else if x.vL.ownBlock=some g then 5 else if x.vB.ownBlock=some g then 6 else y.lab g},?_⟩,hk.mono fun g _ hg=>.inl hg⟩
 refine ⟨k.sx,?_,k.ur,?_,?_,k.mp,k.cr,k.kr,k.cl,k.kl,k.ub,e _ _ k.lS (by decide),if_pos rfl,e _ _ k.lU (by decide),e _ _ k.lm (by decide),fun g hg=>?_,fun g hg=>?_,fun i v g hv hg=>e _ _ (k.lc i v g hv hg) (by decide),fun i v g hv hg=>e _ _ (k.lk i v g hv hg) (by omega),fun g hg=>⟨Nat.lt_of_lt_of_le (h.no g hg).1 hk.size,?_⟩,by rw[e1];exact hc,k.gh⟩
 ·have q:w.heap[b]?=W.heap[b]?:=hk.block b h.lt (.inr (.inl rfl))
  have r:mcl {y with vL:=x.vL,vB:=x.vB,lab:=fun g=>if g=b then 2 else if x.vL.ownBlock=some g then 5 else if x.vB.ownBlock=some g then 6 else y.lab g} s'=mcl x s:=by
   unfold mcl
   rw[e1,eS,eU]
  rw[r]
  exact ⟨q.trans h.mx.blk⟩
 ·rw[e2];exact own_keep h.lr fun g hg=>hk.block g (h.lr.lt g hg).2 (.inr (.inr (.inl hg)))
 ·rw[e3];exact own_keep h.br fun g hg=>hk.block g (h.br.lt g hg).2 (.inr (.inr (.inr hg)))
 ·have n:g≠b:=fun r=>by have:=h.lL g hg;rw[r,h.lb] at this;omega
  show (if g=b then 2 else if x.vL.ownBlock=some g then 5 else if x.vB.ownBlock=some g then 6 else y.lab g)=5
  rw[if_neg n,if_pos hg]
 ·have n:g≠b:=fun r=>by have:=h.lB g hg;rw[r,h.lb] at this;omega
  have n2:x.vL.ownBlock≠some g:=fun r=>by have:=h.lB g hg;rw[h.lL g r] at this;omega
  show (if g=b then 2 else if x.vL.ownBlock=some g then 5 else if x.vB.ownBlock=some g then 6 else y.lab g)=6
  rw[if_neg n,if_neg n2,if_pos hg]
 ·have z:=(h.no g hg).2
  have n:g≠b:=fun r=>by rw[r,h.lb] at z;omega
  have n2:x.vL.ownBlock≠some g:=fun r=>by rw[h.lL g r] at z;omega
  have n3:x.vB.ownBlock≠some g:=fun r=>by rw[h.lB g r] at z;omega
  show (if g=b then 2 else if x.vL.ownBlock=some g then 5 else if x.vB.ownBlock=some g then 6 else y.lab g)=0
  rw[if_neg n,if_neg n2,if_neg n3]
  exact (k.no g (.inl hg)).2
theorem SK.ltU (h:SK No t x s w):x.U<w.heap.size:=(h.ur.lt _ h.ub).2
theorem SK.fresh (h:SK No t x s W) (k:Below W.heap.size W w) (hb:W.heap.size≤b) {n:Nat} (hm:Bx b 101 #[.pointer (some ⟨x.S,0,none⟩),.pointer (some ⟨x.U,n * 5,none⟩),.slice none 0 0,.slice none 0 0] w) (hn:n<s.us.length):
 GK (fun g=>No g∨(W.heap.size≤g∧g<w.heap.size∧g≠b)) b t {x with vL:=.slice none 0 0,vB:=.slice none 0 0,lab:=fun g=>if g=b then 2 else if W.heap.size≤g then 0 else x.lab g} {s with cu:=n,lo:=[],br:=[]} w:=by
 have e:∀g l,g<W.heap.size→x.lab g=l→(if g=b then 2 else if W.heap.size≤g then 0 else x.lab g)=l:=fun g l hg q=>by rw[if_neg (by omega),if_neg (by omega)];exact q
 have hcu:∀i v,x.vc[i]?=some v→∃u,s.us[i]?=some u:=fun i v hv=>by
  have:=(List.getElem?_eq_some_iff.1 hv).1
  rw[h.cl] at this
  exact ⟨_,List.getElem?_eq_getElem this⟩
 have hku:∀i v,x.vk[i]?=some v→∃u,s.us[i]?=some u:=fun i v hv=>by
  have:=(List.getElem?_eq_some_iff.1 hv).1
  rw[h.kl] at this
  exact ⟨_,List.getElem?_eq_getElem this⟩
 exact ⟨h.sx.below k,hm,own_keep h.ur fun g hg=>k.block g (h.ur.lt g hg).2,World.ownsRow_nil _ 0 9 1,World.ownsRow_nil _ 0 3 1,h.mp.keep (k.block _ h.mp.lt),fun i u v hu hv=>own_keep (h.cr i u v hu hv) fun g hg=>k.block g ((h.cr i u v hu hv).lt g hg).2,fun i u v hu hv=>own_keep (h.kr i u v hu hv) fun g hg=>k.block g ((h.kr i u v hu hv).lt g hg).2,h.cl,h.kl,h.ub,e _ _ h.sx.lt h.lS,if_pos rfl,e _ _ h.ltU h.lU,e _ _ h.mp.lt h.lm,fun g hg=>by simp[Value.ownBlock] at hg,fun g hg=>by simp[Value.ownBlock] at hg,
  fun i v g hv hg=>by obtain ⟨u,hu⟩:=hcu i v hv;exact e _ _ ((h.cr i u v hu hv).lt g hg).2 (h.lc i v g hv hg),
  fun i v g hv hg=>by obtain ⟨u,hu⟩:=hku i v hv;exact e _ _ ((h.kr i u v hu hv).lt g hg).2 (h.lk i v g hv hg),
  fun g hg=>by
   rcases hg with hg | ⟨h1,h2,h3⟩
   ·exact ⟨Nat.lt_of_lt_of_le (h.no g hg).1 k.size,e _ _ (h.no g hg).1 (h.no g hg).2⟩
   ·exact ⟨h2,by show (if g=b then 2 else if W.heap.size≤g then 0 else x.lab g)=0;rw[if_neg h3,if_pos h1]⟩,hn,h.gh⟩
end
