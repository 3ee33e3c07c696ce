import Derived.Test.YtkmopcanaalemabGreatCg18
import Derived.Deep.AppendLies
namespace Go.Proofs.YtkmopcanaalemabGreat
open Go.RowKit
def rst (m:Nat) (on:Bool) (l:List Nat):List Nat:=if on then l else from_ m l
theorem drop_getD {l:List Nat} {i:Nat} (h:i<l.length):l.drop i=l.getD i 0::l.drop (i+1):=by
 rw[List.drop_eq_getElem_cons h]
 congr 1
 simp[List.getD,h]
theorem rst_in {m x:Nat} {on:Bool} {l:List Nat} (h:on=true∨x=m):rst m on (x::l)=x::l:=by
 unfold rst
 cases on with
 | true=>rfl
 | false=>
   rcases h with h | h
   ·cases h
   ·simp[from_,h]
theorem rst_out {m x:Nat} {l:List Nat} (h:x≠m):rst m false (x::l)=rst m false l:=by
 unfold rst
 simp[from_,h]
set_option maxRecDepth 100000 in
set_option maxHeartbeats 8000000 in
theorem rfind_any {S ka va ca z:Nat} {g:G} {cb:Nat→Nat} (k:V) (w:World) (h:Rp w S ka va ca z g cb) (hi:Inv z (pl z) KOK g) (hz:Rt z) (hr:Rng k):
 Calls Tryz.prog 93 #[pp S,vl k.1 k.2.1 k.2.2] w fun e w'=>e= .returned (.tuple #[.int .i64 (fi (fnd z g k).1),.int .i64 ((fnd z g k).2:Nat)])∧Below w.heap.size w w':=by
 have hb0:=b1 w (vb k.1 k.2.1 k.2.2)
 have X0:=Bx.made w k
 have P0:=h.below hb0
 have CK:=rkey_any k _ P0
 by_cases hbad:z=0∨fm k=false∨k.1=0
 ·have e:fnd z g k=(none,0):=by rw[fnd,if_pos hbad]
  have e2:(decide (z≠0) && (fm k && decide (k.1≠0)))=false:=by
   rcases hbad with q | q | q
   ·simp[q]
   ·simp[q]
   ·simp[q]
  rw[e2] at CK
  rw[e]
  have HB0:Hid _:=hb0
  clear e e2 hbad X0 P0 h hi hz hr hb0
  unfold pp vl vb at *
  go_enter Tryz.func93,Tryz.ntmps93
  go_wp2_with fail
  refine CK.mono ?_;rintro e w1 ⟨rfl,hb1⟩
  have HB1:Hid _:=bthen HB0.out HB0.out.size hb1
  clear CK hb1
  go_wp2_with fail
  go_ret2
  exact ⟨rfl,HB1.out⟩
 ·have hbad':=hbad
  simp only[not_or,Bool.not_eq_false] at hbad'
  obtain ⟨hz0,hfk,hk0⟩:=hbad'
  have hp:pw z=true:=hz.resolve_left hz0
  have hk:KOK k:=⟨hfk,hk0,hr.1,hr.2⟩
  have e2:(decide (z≠0) && (fm k && decide (k.1≠0)))=true:=by simp[hz0,hfk,hk0]
  rw[e2] at CK
  rw[fnd_good hz0 hk]
  have CPl:=fun w=>rplace_any k.1 k.2.1 k.2.2 z w hr.1 hr.2 hfk hp hk0
  rw[←pl_cast hp k] at CPl
  have hm:=pl_lt hp k
  have hzb:=(pw_bounds z hp).2
  obtain ⟨m,hmm⟩:∃m,pl z k=m:=⟨_,rfl⟩
  have HM:Hid (pl z k=m):=hmm
  rw[hmm] at CPl hm
  have HI:Hid _:=hi
  have HK:Hid (KOK k):=hk
  have HP:Hid (pw z=true):=hp
  have HP0:Hid _:=P0
  have HX0:Hid _:=X0
  have HB0:Hid _:=hb0
  clear e2 hbad hmm h hi hz hr hk hp hfk hk0 hb0 P0 X0
  unfold pp vl vb at *
  go_enter Tryz.func93,Tryz.ntmps93
  go_wp2_with fail
  refine CK.mono ?_;rintro e w1 ⟨rfl,hb1⟩
  have HP1:Hid _:=HP0.out.below hb1
  have HX1:Hid _:=HX0.out.below hb1
  have HB1:Hid (Below w.heap.size w w1):=bthen HB0.out HB0.out.size hb1
  clear CK hb1 HP0 HX0 HB0
  obtain ⟨X,F,F1,F2⟩:=class_of w1
  have e0:=fun x=>(HX1.out.below (F1 x)).c0
  have e1:=fun x=>(HX1.out.below (F1 x)).c1
  have e2:=fun x=>(HX1.out.below (F1 x)).c2
  have q0:=fun x=>(HP1.out.below (F1 x)).s0
  have hM:∀x,Calls Tryz.prog 94 #[.agg #[.int .i64 k.1,.int .i64 k.2.1,.string k.2.2],.int .i64 (z:Nat)] (F x) fun e w''=>e= .returned (.int .i64 (m:Nat))∧∃y,w''=F y:=fun x=>
   (CPl (F x)).mono fun e w' ⟨he,hw⟩=>⟨he,F2 w' (hw▸bthen (F1 x) (F1 x).size (b1 _ _))⟩
  have HC:Hid (∃x,w1.drew=F x):=F2 _ (Below.refl _ _).drew
  have HF1:Hid _:=F1
  clear F1 F2 CPl
  go_wp2_with fail
  haveI:Nonempty X:=HC.out.elim fun x _=>⟨x⟩
  refine wp_class (F:=F) (by kernel_rfl) (by kernel_rfl) HC.out ?_
  repeat (go_big_quiet_step (exact hM _))
  refine wpQuiet_nil ?_
  intro _ hw'
  obtain ⟨x,rfl⟩:=hw'
  have HP2:Hid _:=HP1.out.below (HF1.out x)
  have HX2:Hid _:=HX1.out.below (HF1.out x)
  have HB2:Hid _:=bthen HB1.out HB1.out.size (HF1.out x)
  generalize F x=w2 at *
  clear hM HC HF1 e0 e1 e2 q0 HP1 HX1 HB1
  have hmz:(m:Int)<(z:Int):=by omega
  have q0:=HP2.out.s0
  obtain ⟨y0,y1,y2⟩:=HP2.out.k.at hm
  by_cases hE:g.K m=nil
  ·have HR:Hid (find (pl z) g k=(none,1)):=by
    show _=_
    rw[find,HM.out,suf,if_pos hE,scan,if_neg (by rw[hE];exact fun q=>HK.out.ne q.symm),scan]
   rw[hE] at y0
   have y0':w2.cell? ⟨ka,m * 3,none⟩=some (.int .i64 0):=y0
   clear y0 y1 y2 hE
   go_wp2_with fail
   go_ret2
   rw[HR.out]
   exact ⟨rfl,HB2.out⟩
  ·have hkd:((g.K m).1==0)=false:=by
    have :¬(g.K m).1=0:=fun e=>hE ((HI.out.kind hm).1 e)
    simpa using this
   have hkm:KOK (g.K m):=(HI.out.key m hm).resolve_left hE
   have CPm:=fun w=>rplace_any (g.K m).1 (g.K m).2.1 (g.K m).2.2 z w hkm.2.2.1 hkm.2.2.2 hkm.1 HP.out hkm.2.1
   rw[←pl_cast HP.out (g.K m)] at CPm
   have ho:=pl_lt HP.out (g.K m)
   have hin:=HI.out.inC m hm hE
   obtain ⟨o,hoo⟩:∃o,pl z (g.K m)=o:=⟨_,rfl⟩
   rw[hoo] at CPm ho hin
   have HFi:Hid (find (pl z) g k=scan g.K k (from_ m (g.C o)) 0):=by show _=_;rw[find,HM.out,suf,if_neg hE,hoo]
   have hoz:(o:Int)<(z:Int):=by omega
   obtain ⟨u,hu,hul⟩:=HP2.out.c o ho
   obtain ⟨cap,hcne,hue,hcl,hcf,hcc⟩:∃cap,g.C o≠[]∧u= .slice (some ⟨cb o,0,none⟩) (g.C o).length cap∧cb o<w2.heap.size∧(∀j,w2.frozen? ⟨cb o,j,none⟩=false)∧∀t,t<(g.C o).length→w2.cell? ⟨cb o,t,none⟩=some (.int .i64 (((g.C o).getD t 0:Nat):Int)):=by
    rcases hul with ⟨q,_⟩ | q
    ·rw[q] at hin;cases hin
    ·exact q
   subst hue
   have hlen:(g.C o).length≤z:=nodup_len (HI.out.nd o ho) (fun x hx=>(HI.out.cok o ho x hx).1)
   have HCK:Hid (∀t,t<(g.C o).length→(g.C o).getD t 0<z):=fun t ht=>(HI.out.cok o ho _ (by simp[List.getD,ht])).1
   have HCC:Hid (∀w',Below w2.heap.size w2 w'→∀t,t<(g.C o).length→w'.cell? ⟨cb o,t,none⟩=some (.int .i64 (((g.C o).getD t 0:Nat):Int))):=fun w' hw' t ht=>by rw[hw'.cell (by exact hcl)];exact hcc t ht
   obtain ⟨Y,H,F1,F2⟩:=class_of w2
   have e0:=fun x=>(HP2.out.below (F1 x)).s0
   have e2:=fun x=>(HP2.out.below (F1 x)).s2
   have e3:=fun x=>((HP2.out.below (F1 x)).k.at hm).1
   have e4:=fun x=>((HP2.out.below (F1 x)).k.at hm).2.1
   have e5:=fun x=>((HP2.out.below (F1 x)).k.at hm).2.2
   have e6:∀x,(H x).cell? ⟨ca,o,none⟩=some (.slice (some ⟨cb o,0,none⟩) (g.C o).length cap):=fun x=>by rw[(F1 x).cell (by exact HP2.out.lt.2.2.2)];exact hu
   have hM:∀x,Calls Tryz.prog 94 #[.agg #[.int .i64 (g.K m).1,.int .i64 (g.K m).2.1,.string (g.K m).2.2],.int .i64 (z:Nat)] (H x) fun e w''=>e= .returned (.int .i64 (o:Nat))∧∃y,w''=H y:=fun x=>
    (CPm (H x)).mono fun e w' ⟨he,hw⟩=>⟨he,F2 w' (hw▸bthen (F1 x) (F1 x).size (b1 _ _))⟩
   have HC:Hid (∃x,w2.drew=H x):=F2 _ (Below.refl _ _).drew
   have HF1:Hid _:=F1
   clear F1 F2 CPm hkm hin hoo hu hul hcc hcf hE
   go_wp2_with fail
   haveI:Nonempty Y:=HC.out.elim fun x _=>⟨x⟩
   refine wp_class (F:=H) (by kernel_rfl) (by kernel_rfl) HC.out ?_
   repeat (go_big_quiet_step (exact hM _))
   refine wpQuiet_nil ?_
   intro _ hw'
   obtain ⟨x3,rfl⟩:=hw'
   have HB3:Hid (Below w2.heap.size w2 (H x3)):=HF1.out x3
   clear hM HC HF1 e0 e2 e3 e4 e5 e6 y0 y1 y2 q0
   go_wp2_with fail
   have HP3:Hid _:=HP2.out.below HB3.out
   have HX3:Hid _:=HX2.out.below HB3.out
   generalize H x3=w3 at *
   obtain ⟨c,hc⟩:∃c,g.C o=c:=⟨_,rfl⟩
   rw[hc] at HFi HCK HCC hlen⊢
   clear hc HP2 HX2 hcne
   go_loopw [8,9,10] (fun rw ow iw wr=>∃(r i:Nat) (on:Bool),rw= .int .i64 (r:Nat)∧ow= .bool on∧iw= .int .i64 (i:Nat)∧r≤i∧i≤c.length∧Hid (find (pl z) g k=scan g.K k (rst m on (c.drop i)) r)∧Hid (Below w3.heap.size w3 wr)) (fun _ _ iw _=>c.length - (intOf iw).toNat)
   case atStart=>exact ⟨0,0,false,rfl,rfl,rfl,by omega,by omega,HFi,Below.refl _ _⟩
   case round=>
    obtain ⟨r,i,on,rfl,rfl,rfl,hri,hil,HFd,HBr⟩:=hrel
    have HBw:Hid (Below w.heap.size w wr):=bthen (bthen HB2.out HB2.out.size HB3.out) (bthen HB2.out HB2.out.size HB3.out).size HBr.out
    by_cases hlt:i<c.length
    ·have hlt':(i:Int)<(c.length:Int):=by omega
     have hx:=HCC.out wr (bthen HB3.out HB3.out.size HBr.out) i hlt
     have hxz:=HCK.out i hlt
     have HFd2:Hid (find (pl z) g k=scan g.K k (rst m on (c.getD i 0::c.drop (i+1))) r):=by rw[←drop_getD hlt];exact HFd.out
     obtain ⟨xx,hxx⟩:∃xx,c.getD i 0=xx:=⟨_,rfl⟩
     rw[hxx] at hx hxz HFd2
     have hxz':(xx:Int)<(z:Int):=by omega
     clear hxx HFd
     have HPr:=HP3.out.below HBr.out
     have HXr:=HX3.out.below HBr.out
     have q0:=HPr.s0
     obtain ⟨y0,y1,y2⟩:=HPr.k.at hxz
     have d0:=HXr.c0
     have d1:=HXr.c1
     have d2:=HXr.c2
     have N:=eql32 (g.K xx).1 (g.K xx).2.1 k.1 k.2.1 (g.K xx).2.2 k.2.2
     unfold vl at N
     have g32:=guard32
     clear HPr HXr
     by_cases hon:on=true∨xx=m
     ·have HFd3:Hid (find (pl z) g k=scan g.K k (xx::c.drop (i+1)) r):=by rw[←rst_in hon];exact HFd2.out
      have hob:(on || ((xx:Int)==(m:Int)))=true:=by
       rcases hon with q | q
       ·rw[q];rfl
       ·rw[q];simp
      by_cases hq:g.K xx=k
      ·rw[decide_eq_true (show ((g.K xx).1,(g.K xx).2.1,(g.K xx).2.2)=(k.1,k.2.1,k.2.2) from hq)] at N
       have HR:Hid (find (pl z) g k=(some xx,r+1)):=by show _=_;rw[HFd3.out,scan,if_pos hq]
       clear HFd2 HFd3 hq
       cases on with
       | true=>
         go_wp2_with fail
         go_quiet (fail)
         go_wp2_with fail
         go_ret2
         rw[HR.out]
         exact ⟨rfl,HBw.out.trans (bdrew _ _ _)⟩
       | false=>
         have hxm:xx=m:=by simpa using hon
         subst hxm
         go_wp2_with fail
         go_quiet (fail)
         go_wp2_with fail
         go_ret2
         rw[HR.out]
         exact ⟨rfl,HBw.out.trans (bdrew _ _ _)⟩
      ·rw[decide_eq_false (show ¬((g.K xx).1,(g.K xx).2.1,(g.K xx).2.2)=(k.1,k.2.1,k.2.2) from hq)] at N
       have HR:Hid (find (pl z) g k=scan g.K k (rst m true (c.drop (i+1))) (r+1)):=by show _=_;rw[HFd3.out,scan,if_neg hq];rfl
       clear HFd2 HFd3 hq
       cases on with
       | true=>
         go_wp2_with fail
         go_quiet (fail)
         go_wp2_with fail
         go_round
         case rel=>exact ⟨r+1,i+1,true,by go_num,rfl,by go_num,by omega,by omega,HR,HBr.out.trans (bdrew _ _ _)⟩
         case measure=>simp[intOf];omega
       | false=>
         have hxm:xx=m:=by simpa using hon
         subst hxm
         go_wp2_with fail
         go_quiet (fail)
         go_wp2_with fail
         go_round
         case rel=>exact ⟨r+1,i+1,true,by go_num,rfl,by go_num,by omega,by omega,HR,HBr.out.trans (bdrew _ _ _)⟩
         case measure=>simp[intOf];omega
     ·simp only[not_or,Bool.not_eq_true] at hon
      obtain ⟨rfl,hxm⟩:=hon
      have HR:Hid (find (pl z) g k=scan g.K k (rst m false (c.drop (i+1))) r):=by rw[←rst_out hxm];exact HFd2.out
      have hxm':((xx:Int)==(m:Int))=false:=by simp;omega
      clear HFd2 N
      go_wp2_with fail
      go_round
      case rel=>exact ⟨r,i+1,false,rfl,rfl,by go_num,by omega,by omega,HR,HBr⟩
      case measure=>simp[intOf];omega
    ·have hlt':¬(i:Int)<(c.length:Int):=by omega
     have HR:Hid (find (pl z) g k=(none,r)):=by
      show _=_
      rw[HFd.out,List.drop_eq_nil_of_le (by omega)]
      cases on<;>rfl
     clear HFd
     go_wp2_with fail
     go_ret2
     rw[HR.out]
     exact ⟨rfl,HBw.out⟩
end Go.Proofs.YtkmopcanaalemabGreat


namespace Go.Proofs.YtkmopcanaalemabGreat
open Go.RowKit
abbrev set3i (w:World) (b i:Nat) (x:V):World:=((w.setCell ⟨b,i * 3,none⟩ (.int .i64 x.1)).setCell ⟨b,i * 3+1,none⟩ (.int .i64 x.2.1)).setCell ⟨b,i * 3+2,none⟩ (.string x.2.2)
theorem set3i_keep (w:World) (b i:Nat) (x:V):Keep (fun y=>y≠b) w (set3i w b i x):=
 (((Keep.refl _ _).set (p:=⟨b,_,none⟩) (fun q=>q rfl) _).set (p:=⟨b,_,none⟩) (fun q=>q rfl) _).set (p:=⟨b,_,none⟩) (fun q=>q rfl) _
theorem Rv.seti {w:World} {b z:Nat} {F:Nat→V} (h:Rv w b z F) {i:Nat} (hi:i<z) (x:V):Rv (set3i w b i x) b z (upd F i x):=⟨fun i2 hi2 j hj=>by
 have c0:=h.c i hi 0 (by omega)
 have c1:=h.c i hi 1 (by omega)
 have c2:=h.c i hi 2 (by omega)
 by_cases e:i2=i
 ·subst e
  rw[upd_at]
  rcases lt3 hj with rfl | rfl | rfl
  ·rw[World.cell?_setCell_other _ _ _ _ (fun q=>by injection q with _ q2;omega),World.cell?_setCell_other _ _ _ _ (fun q=>by injection q with _ q2;omega)]
   exact World.cell?_setCell_same _ _ _ c0
  ·rw[World.cell?_setCell_other _ _ _ _ (fun q=>by injection q with _ q2;omega)]
   exact World.cell?_setCell_same _ _ _ (by rw[World.cell?_setCell_other _ _ _ _ (fun q=>by injection q with _ q2;omega)];exact c1)
  ·exact World.cell?_setCell_same _ _ _ (by rw[World.cell?_setCell_other _ _ _ _ (fun q=>by injection q with _ q2;omega),World.cell?_setCell_other _ _ _ _ (fun q=>by injection q with _ q2;omega)];exact c2)
 ·rw[upd_ne _ _ e,World.cell?_setCell_other _ _ _ _ (fun q=>by injection q with _ q2;omega),World.cell?_setCell_other _ _ _ _ (fun q=>by injection q with _ q2;omega),World.cell?_setCell_other _ _ _ _ (fun q=>by injection q with _ q2;omega)]
  exact h.c i2 hi2 j hj⟩
theorem set3i_frozen (w:World) (b i:Nat) (x:V) (p:Addr):(set3i w b i x).frozen? p=w.frozen? p:=by simp
variable {w w':World} {S ka va ca z:Nat} {g:G} {cb:Nat→Nat}
theorem Rp.setX (h:Rp w S ka va ca z g cb) {i:Nat} (hi:i<z) (x:V):Rp (set3i w va i x) S ka va ca z {g with X:=upd g.X i x} cb:=by
 have hk:=set3i_keep w va i x
 have hv:=h.v.seti hi x
 have hfz:=set3i_frozen w va i x
 generalize set3i w va i x=w' at *
 have bS:=hk.block S h.lt.1 (fun e=>h.ne.2.2.2.2.1 e)
 have bk:=hk.block ka h.lt.2.1 (fun e=>h.ne.1 e)
 have bc:=hk.block ca h.lt.2.2.2 (fun e=>h.ne.2.2.1 e.symm)
 have hs:=hk.size
 refine ⟨by rw[World.cell?_of_block (w:=w) bS];exact h.s0,by rw[World.cell?_of_block (w:=w) bS];exact h.s1,by rw[World.cell?_of_block (w:=w) bS];exact h.s2,by rw[World.cell?_of_block (w:=w) bS];exact h.s3,h.k.block bk,hv,fun m hm=>?_,
  fun j=>by rw[hfz];exact h.fS j,fun j=>by rw[hfz];exact h.fk j,fun j=>by rw[hfz];exact h.fv j,fun j=>by rw[hfz];exact h.fc j,h.ne,h.nb,h.inj,by have:=h.lt;omega⟩
 obtain ⟨u,h1,h2⟩:=h.c m hm
 refine ⟨u,by rw[World.cell?_of_block (w:=w) bc];exact h1,?_⟩
 by_cases he:g.C m=[]
 ·rcases h2 with q | ⟨cap,q0,_⟩
  ·exact .inl q
  ·exact absurd he q0
 ·exact h2.block hs (fun hlt=>hk.block _ hlt (h.nb m hm he).2.2.1)
theorem Rp.setK (h:Rp w S ka va ca z g cb) {i:Nat} (hi:i<z) (x:V):Rp (set3i w ka i x) S ka va ca z {g with K:=upd g.K i x} cb:=by
 have hk:=set3i_keep w ka i x
 have hv:=h.k.seti hi x
 have hfz:=set3i_frozen w ka i x
 generalize set3i w ka i x=w' at *
 have bS:=hk.block S h.lt.1 (fun e=>h.ne.2.2.2.1 e)
 have bv:=hk.block va h.lt.2.2.1 (fun e=>h.ne.1 e.symm)
 have bc:=hk.block ca h.lt.2.2.2 (fun e=>h.ne.2.1 e.symm)
 have hs:=hk.size
 refine ⟨by rw[World.cell?_of_block (w:=w) bS];exact h.s0,by rw[World.cell?_of_block (w:=w) bS];exact h.s1,by rw[World.cell?_of_block (w:=w) bS];exact h.s2,by rw[World.cell?_of_block (w:=w) bS];exact h.s3,hv,h.v.block bv,fun m hm=>?_,
  fun j=>by rw[hfz];exact h.fS j,fun j=>by rw[hfz];exact h.fk j,fun j=>by rw[hfz];exact h.fv j,fun j=>by rw[hfz];exact h.fc j,h.ne,h.nb,h.inj,by have:=h.lt;omega⟩
 obtain ⟨u,h1,h2⟩:=h.c m hm
 refine ⟨u,by rw[World.cell?_of_block (w:=w) bc];exact h1,?_⟩
 by_cases he:g.C m=[]
 ·rcases h2 with q | ⟨cap,q0,_⟩
  ·exact .inl q
  ·exact absurd he q0
 ·exact h2.block hs (fun hlt=>hk.block _ hlt (h.nb m hm he).2.1)
theorem Rp.setF (h:Rp w S ka va ca z g cb) (f:Nat):Rp (w.setCell ⟨S,3,none⟩ (.int .i64 (f:Nat))) S ka va ca z {g with f:=f} cb:=by
 have hk:Keep (fun y=>y≠S) w (w.setCell ⟨S,3,none⟩ (.int .i64 (f:Nat))):=(Keep.refl _ _).set (p:=⟨S,3,none⟩) (fun q=>q rfl) _
 have bk:=hk.block ka h.lt.2.1 (fun e=>h.ne.2.2.2.1 e.symm)
 have bv:=hk.block va h.lt.2.2.1 (fun e=>h.ne.2.2.2.2.1 e.symm)
 have bc:=hk.block ca h.lt.2.2.2 (fun e=>h.ne.2.2.2.2.2 e.symm)
 have hs:=hk.size
 refine ⟨by rw[World.cell?_setCell_other _ _ _ _ (fun q=>by injection q with _ q2;omega)];exact h.s0,by rw[World.cell?_setCell_other _ _ _ _ (fun q=>by injection q with _ q2;omega)];exact h.s1,by rw[World.cell?_setCell_other _ _ _ _ (fun q=>by injection q with _ q2;omega)];exact h.s2,World.cell?_setCell_same _ _ _ h.s3,h.k.block bk,h.v.block bv,fun m hm=>?_,
  fun j=>by simpa using h.fS j,fun j=>by simpa using h.fk j,fun j=>by simpa using h.fv j,fun j=>by simpa using h.fc j,h.ne,h.nb,h.inj,by have:=h.lt;omega⟩
 obtain ⟨u,h1,h2⟩:=h.c m hm
 refine ⟨u,by rw[World.cell?_of_block (w:=w) bc];exact h1,?_⟩
 by_cases he:g.C m=[]
 ·rcases h2 with q | ⟨cap,q0,_⟩
  ·exact .inl q
  ·exact absurd he q0
 ·exact h2.block hs (fun hlt=>hk.block _ hlt (h.nb m hm he).1)
theorem Rp.setC (h:Rp w S ka va ca z g cb) {m b cap:Nat} {l:List Nat} (hm:m<z) (hr:Rl w (.slice (some ⟨b,0,none⟩) l.length cap) b l) (hn:b≠S∧b≠ka∧b≠va∧b≠ca) (hnc:∀m',m'<z→m'≠m→g.C m'≠[]→cb m'≠b):
 Rp (w.setCell ⟨ca,m,none⟩ (.slice (some ⟨b,0,none⟩) l.length cap)) S ka va ca z {g with C:=upd g.C m l} (upd cb m b):=by
 have hk:Keep (fun y=>y≠ca) w (w.setCell ⟨ca,m,none⟩ (.slice (some ⟨b,0,none⟩) l.length cap)):=(Keep.refl _ _).set (p:=⟨ca,m,none⟩) (fun q=>q rfl) _
 have bS:=hk.block S h.lt.1 (fun e=>h.ne.2.2.2.2.2 e)
 have bk:=hk.block ka h.lt.2.1 (fun e=>h.ne.2.1 e)
 have bv:=hk.block va h.lt.2.2.1 (fun e=>h.ne.2.2.1 e)
 have hs:=hk.size
 refine ⟨by rw[World.cell?_of_block (w:=w) bS];exact h.s0,by rw[World.cell?_of_block (w:=w) bS];exact h.s1,by rw[World.cell?_of_block (w:=w) bS];exact h.s2,by rw[World.cell?_of_block (w:=w) bS];exact h.s3,h.k.block bk,h.v.block bv,fun m2 hm2=>?_,
  fun j=>by simpa using h.fS j,fun j=>by simpa using h.fk j,fun j=>by simpa using h.fv j,fun j=>by simpa using h.fc j,h.ne,fun m2 hm2 he=>?_,fun m1 m2 h1 h2 e1 e2 e=>?_,by have:=h.lt;omega⟩
 ·obtain ⟨u,h1,h2⟩:=h.c m2 hm2
  by_cases e:m2=m
  ·subst e
   refine ⟨_,World.cell?_setCell_same _ _ _ h1,?_⟩
   simp only[upd_at]
   exact hr.block hs (fun hlt=>hk.block _ hlt hn.2.2.2)
  ·refine ⟨u,by rw[World.cell?_setCell_other _ _ _ _ (fun q=>by injection q with _ q2;omega)];exact h1,?_⟩
   simp only[upd_ne _ _ e]
   by_cases he:g.C m2=[]
   ·rcases h2 with q | ⟨cap,q0,_⟩
    ·exact .inl q
    ·exact absurd he q0
   ·exact h2.block hs (fun hlt=>hk.block _ hlt (h.nb m2 hm2 he).2.2.2)
 ·by_cases e:m2=m
  ·rw[e,upd_at];exact hn
  ·simp only[upd_ne _ _ e] at he⊢;exact h.nb m2 hm2 he
 ·by_cases q1:m1=m<;>by_cases q2:m2=m
  ·omega
  ·simp only[q1,upd_at,upd_ne _ _ q2] at e e2;exact absurd e.symm (hnc m2 h2 q2 e2)
  ·simp only[q2,upd_at,upd_ne _ _ q1] at e e1;exact absurd e (hnc m1 h1 q1 e1)
  ·simp only[upd_ne _ _ q1,upd_ne _ _ q2] at e e1 e2;exact h.inj m1 m2 h1 h2 e1 e2 e
theorem Rp.setN (h:Rp w S ka va ca z g cb) {o t x:Nat} (ho:o<z) (ht:t<(g.C o).length):Rp (w.setCell ⟨cb o,t,none⟩ (.int .i64 (x:Nat))) S ka va ca z {g with C:=upd g.C o ((g.C o).set t x)} cb:=by
 have hne:g.C o≠[]:=fun e=>by rw[e] at ht;simp at ht
 have hnb:=h.nb o ho hne
 have hk:Keep (fun y=>y≠cb o) w (w.setCell ⟨cb o,t,none⟩ (.int .i64 (x:Nat))):=(Keep.refl _ _).set (p:=⟨cb o,t,none⟩) (fun q=>q rfl) _
 have bS:=hk.block S h.lt.1 (fun e=>hnb.1 e.symm)
 have bk:=hk.block ka h.lt.2.1 (fun e=>hnb.2.1 e.symm)
 have bv:=hk.block va h.lt.2.2.1 (fun e=>hnb.2.2.1 e.symm)
 have bc:=hk.block ca h.lt.2.2.2 (fun e=>hnb.2.2.2 e.symm)
 have hs:=hk.size
 have hnz:∀m2,upd g.C o ((g.C o).set t x) m2≠[]↔g.C m2≠[]:=fun m2=>by
  by_cases e:m2=o
  ·rw[e,upd_at];simp
  ·rw[upd_ne _ _ e]
 refine ⟨by rw[World.cell?_of_block (w:=w) bS];exact h.s0,by rw[World.cell?_of_block (w:=w) bS];exact h.s1,by rw[World.cell?_of_block (w:=w) bS];exact h.s2,by rw[World.cell?_of_block (w:=w) bS];exact h.s3,h.k.block bk,h.v.block bv,fun m2 hm2=>?_,
  fun j=>by simpa using h.fS j,fun j=>by simpa using h.fk j,fun j=>by simpa using h.fv j,fun j=>by simpa using h.fc j,h.ne,fun m2 hm2 he=>h.nb m2 hm2 ((hnz m2).1 he),fun m1 m2 h1 h2 e1 e2 e=>h.inj m1 m2 h1 h2 ((hnz m1).1 e1) ((hnz m2).1 e2) e,by have:=h.lt;omega⟩
 obtain ⟨u,h1,h2⟩:=h.c m2 hm2
 refine ⟨u,by rw[World.cell?_of_block (w:=w) bc];exact h1,?_⟩
 by_cases e:m2=o
 ·subst e
  simp only[upd_at]
  rcases h2 with ⟨q,_⟩ | ⟨cap,q0,q1,q2,q3,q4⟩
  ·exact absurd q hne
  ·refine .inr ⟨cap,by simpa using q0,by rw[List.length_set];exact q1,by omega,fun j=>by simpa using q3 j,fun t2 ht2=>?_⟩
   rw[List.length_set] at ht2
   by_cases e2:t2=t
   ·subst e2
    rw[World.cell?_setCell_same _ _ _ (q4 t2 ht2)]
    simp[List.getD,ht2]
   ·rw[World.cell?_setCell_other _ _ _ _ (fun q=>by injection q with _ q2;omega),q4 t2 ht2]
    unfold List.getD
    rw[List.getElem?_set_ne (fun q=>e2 q.symm)]
 ·simp only[upd_ne _ _ e]
  by_cases he:g.C m2=[]
  ·rcases h2 with q | ⟨cap,q0,_⟩
   ·exact .inl q
   ·exact absurd he q0
  ·exact h2.block hs (fun hlt=>hk.block _ hlt (fun q=>e (h.inj m2 o hm2 ho he hne q)))
end Go.Proofs.YtkmopcanaalemabGreat


namespace Go.Proofs.YtkmopcanaalemabGreat
open Go.RowKit
set_option maxRecDepth 100000 in
set_option maxHeartbeats 4000000 in
theorem rput_form {p : Value} (k v : V) (w : World) (hf : ¬ (fm k = true ∧ fm v = true)) :
    Calls Tryz.prog 55 #[p,vl k.1 k.2.1 k.2.2,vl v.1 v.2.1 v.2.2] w fun e w'=>e = .returned (.tuple #[.int .i64 0,.int .i64 2]) ∧ Below w.heap.size w w':=by
  have C1:=rcheck_any k.1 k.2.1 k.2.2
  have C2:=rcheck_any v.1 v.2.1 v.2.2
  rw [chk_of] at C1 C2
  have B2:=fun o=>bthen (b2 w (vb k.1 k.2.1 k.2.2) (vb v.1 v.2.1 v.2.2)) (by simp;omega) (b1 _ o)
  have B3:=fun o o'=>bthen (B2 o) (by simp;omega) (b1 _ o')
  by_cases h1 : fm k = true
  · have h2 : fm v = false:=by cases h0 : fm v;rfl;exact absurd ⟨h1,h0⟩ hf
    rw [if_pos h1] at C1
    rw [h2,if_neg (by simp)] at C2
    have B4:=B3 (vb k.1 k.2.1 k.2.2) (vb v.1 v.2.1 v.2.2)
    clear hf h1 h2 B2 B3
    unfold vl vb at *
    go_enter Tryz.func55,Tryz.ntmps55
    go_wp2_with fail
    refine (C1 _).mono ?_;rintro e w' ⟨rfl,rfl⟩
    go_wp2_with fail
    refine (C2 _).mono ?_;rintro e w' ⟨rfl,rfl⟩
    go_wp2_with fail
    go_ret2
    exact ⟨rfl,B4⟩
  · rw [if_neg h1] at C1
    have B4:=B2 (vb k.1 k.2.1 k.2.2)
    clear hf h1 B2 B3 C2
    unfold vl vb at *
    go_enter Tryz.func55,Tryz.ntmps55
    go_wp2_with fail
    refine (C1 _).mono ?_;rintro e w' ⟨rfl,rfl⟩
    go_wp2_with fail
    go_ret2
    exact ⟨rfl,B4⟩
set_option maxRecDepth 100000 in
set_option maxHeartbeats 4000000 in
theorem rput_key {p : Value} (k v : V) (w : World) (hf : fm k = true ∧ fm v = true) (hk : k.1 = 0) :
    Calls Tryz.prog 55 #[p,vl k.1 k.2.1 k.2.2,vl v.1 v.2.1 v.2.2] w fun e w'=>e = .returned (.tuple #[.int .i64 0,.int .i64 9]) ∧ Below w.heap.size w w':=by
  have C1:=rcheck_any k.1 k.2.1 k.2.2
  have C2:=rcheck_any v.1 v.2.1 v.2.2
  rw [chk_of,if_pos hf.1] at C1
  rw [chk_of,if_pos hf.2] at C2
  have B4:=bthen (bthen (b2 w (vb k.1 k.2.1 k.2.2) (vb v.1 v.2.1 v.2.2)) (by simp;omega) (b1 _ (vb k.1 k.2.1 k.2.2))) (by simp;omega) (b1 _ (vb v.1 v.2.1 v.2.2))
  clear hf
  unfold vl vb at *
  rw [hk] at *
  go_enter Tryz.func55,Tryz.ntmps55
  go_wp2_with fail
  refine (C1 _).mono ?_;rintro e w' ⟨rfl,rfl⟩
  go_wp2_with fail
  refine (C2 _).mono ?_;rintro e w' ⟨rfl,rfl⟩
  go_wp2_with fail
  go_ret2
  exact ⟨rfl,B4⟩
set_option maxRecDepth 100000 in
set_option maxHeartbeats 4000000 in
theorem rput_zero {S ka va ca : Nat} {g : G} {cb : Nat → Nat} (k v : V) (w : World) (h : Rp w S ka va ca 0 g cb) (hi : Inv 0 (pl 0) KOK g) (hf : fm k = true ∧ fm v = true) (hk : k.1 ≠ 0) (hr : Rng k) :
    Calls Tryz.prog 55 #[pp S,vl k.1 k.2.1 k.2.2,vl v.1 v.2.1 v.2.2] w fun e w'=>e = .returned (.tuple #[.int .i64 0,.int .i64 (if v.1 = 0 then 0 else 12)]) ∧ Below w.heap.size w w':=by
  have C1:=rcheck_any k.1 k.2.1 k.2.2
  have C2:=rcheck_any v.1 v.2.1 v.2.2
  rw [chk_of,if_pos hf.1] at C1
  rw [chk_of,if_pos hf.2] at C2
  have X1:=putW_k w k v
  have X2:=putW_v w k v
  have B0:=putW_below w k v
  obtain ⟨W0,hW0⟩ : ∃ W0,putW w k v = W0:=⟨_,rfl⟩
  rw [hW0] at X1 X2 B0
  have P0:=h.below B0
  have CF:=rfind_any k W0 P0 hi (.inl rfl) hr
  have e0 : fnd 0 g k = (none,0):=by rw [fnd,if_pos (.inl rfl)]
  rw [e0] at CF
  have HX2 : Hid _:=X2
  have HB0 : Hid _:=B0
  have HP0 : Hid _:=P0
  have d0:=X1.c0
  have d1:=X1.c1
  have d2:=X1.c2
  obtain ⟨E,hE⟩ : ∃ E,(if v.1 = 0 then (0 : Int) else 12) = E:=⟨_,rfl⟩
  rw [hE]
  have HE : Hid _:=hE
  clear hf hr X1 X2 B0 P0 hE e0 h hi
  unfold putW at hW0
  unfold pp vl vb at *
  generalize hsz : w.heap.size = B at *
  have hsz2 : (w.alloc (.cells #[.int .i64 k.1,.int .i64 k.2.1,.string k.2.2] 36)).heap.size = B + 1:=by rw [← hsz];simp
  have HSZ : Hid (w.heap.size = B):=hsz
  simp only [fi] at CF
  go_enter Tryz.func55,Tryz.ntmps55
  go_wp2_with fail
  refine (C1 _).mono ?_;rintro e w' ⟨rfl,rfl⟩
  go_wp2_with fail
  refine (C2 _).mono ?_;rintro e w' ⟨rfl,rfl⟩
  go_wp2_with fail
  refine CF.mono ?_;rintro e W1 ⟨rfl,hb⟩
  have hb1 : Below B w W1:=bthen HB0.out (HSZ.out ▸ HB0.out.size) hb
  have Y2:=HX2.out.below hb
  have P1:=HP0.out.below hb
  have q0 : W1.cell? ⟨S,0,none⟩ = some (.slice (some ⟨ka,0,none⟩) 0 0):=P1.s0
  have v0:=Y2.c0
  have v1:=Y2.c1
  have v2:=Y2.c2
  have HB1 : Hid _:=hb1
  clear hb hb1 Y2 CF P1
  by_cases hv : v.1 = 0
  · have e1 : Hid (E = 0):=by rw [← HE.out,if_pos hv];rfl
    clear HE
    go_wp2_with fail
    go_ret2
    rw [e1.out]
    exact ⟨rfl,HB1.out⟩
  · have e1 : Hid (E = 12):=by rw [← HE.out,if_neg hv];rfl
    clear HE
    go_wp2_with fail
    go_ret2
    rw [e1.out]
    exact ⟨rfl,HB1.out⟩
end Go.Proofs.YtkmopcanaalemabGreat
