import Derived.Test.YtkmopcanaalemabGreatCg23
import Derived.Test.YtkmopcanaalemabGreatCg17
import Derived.Test.YtkmopcanaalemabGreatCg21
import Derived.Test.YtkmopcanaalemabGreatCg22
import Derived.Test.YtkmopcanaalemabGreatCg18
namespace Go.Proofs.YtkmopcanaalemabGreat
open Go.RowKit
theorem set_12 {t:TS} {s:H.St} {k v:V} (h:TI t.p) (hk:KOK k) (he:(pset t.p k v).2.2=12) (hR:(reh (one t k v) s k).2.2=0):(pset (reh (one t k v) s k).1.p k v).2.2=0:=by
 obtain ⟨hA,hv,hv0,hnew,hfull,hg,hp,ha⟩:=h.full hk he
 have h1:TI (pset t.p k v).1:=h.set ⟨hk.2.2.1,hk.2.2.2⟩ hv
 have ep:(one t k v).p=(pset t.p k v).1:=rfl
 have hA1:¬inA (pset t.p k v).1.n k:=by rw[(pset_nz t.p k v).1];exact hA
 have hnew1:∀i,i<(pset t.p k v).1.z→(pset t.p k v).1.g.K i≠k:=fun i hi e=>by
  have hz:=(pset_nz t.p k v).2
  rw[hz] at hi
  have e1:pset t.p k v=({t.p with g:=(put t.p.z t.p.g k v).1},(put t.p.z t.p.g k v).2.1,(put t.p.z t.p.g k v).2.2):=by unfold pset;rw[if_neg hA]
  have he':(put t.p.z t.p.g k v).2.2=12:=by rw[e1] at he;exact he
  have e2:=(put_12 h.inv h.rt hk he').2.2.2.2.1
  rw[e1] at e
  have e3:(put t.p.z t.p.g k v).1.K i=k:=e
  rw[e2] at e3
  exact hnew i hi e3
 generalize one t k v=u at *
 have e0:rsE u.p k=0:=by
  unfold reh at hR
  by_cases q:rsE u.p k=0
  ·exact q
  ·rw[if_pos q] at hR;exact absurd hR q
 have e1:(reh u s k).1.p=fill u.p (fresh (rsA u.p k) (rsZ u.p k)):=by
  unfold reh at hR⊢
  rw[if_neg (fun q=>q e0)] at hR⊢
  by_cases q:tpE s (rsA u.p k) (rsZ u.p k)=0
  ·rw[if_neg (fun x=>x q)]
  ·rw[if_pos q] at hR;exact absurd hR q
 rw[←ep] at ha h1 hA1 hnew1
 obtain ⟨_,i1,i2,i3,i4,i5⟩:=h1.behind hk hv hv0 hA1 hnew1 ha e0
 rw[e1]
 exact i5
set_option maxRecDepth 20000 in
set_option maxHeartbeats 4000000 in
theorem rset_any {No:Nat→Prop} {w:World} {RT A P ka va ca:Nat} {cb:Nat→Nat} {G c:Nat} {t:TS} {s:H.St} (h:RQ No w RT A P ka va ca cb G c t s) (hc:c≤700000) (k v:V) (hr:Rng k):
 Calls Tryz.prog 27 #[.pointer (some ⟨RT,0,none⟩),vv k,vv v] w fun e w'=>e= .returned (.int .i64 (tset t s k v).2.2)∧(∃A' P' ka' va' ca' cb',RQ No w' RT A' P' ka' va' ca' cb' G (c+7) (tset t s k v).1 (tset t s k v).2.1)∧Keep No w w':=by
 have C1:=rcheck_any k.1 k.2.1 k.2.2
 have C2:=rcheck_any v.1 v.2.1 v.2.2
 rw[chk_of] at C1 C2
 have X1:=(Bx.made w k).below (b1 _ (vb v.1 v.2.1 v.2.2))
 have X2:=Bx.made (w.alloc (vb k.1 k.2.1 k.2.2)) v
 have eX:(w.alloc (vb k.1 k.2.1 k.2.2)).heap.size=w.heap.size+1:=by simp
 rw[eX] at X2
 have B0:=b2 w (vb k.1 k.2.1 k.2.2) (vb v.1 v.2.1 v.2.2)
 obtain ⟨W0,hW0⟩:∃W0,(w.alloc (vb k.1 k.2.1 k.2.2)).alloc (vb v.1 v.2.1 v.2.2)=W0:=⟨_,rfl⟩
 rw[hW0] at X1 X2 B0
 have d0:=X1.c0
 have d1:=X1.c1
 have d2:=X1.c2
 have HX1:Hid (Bx W0 w.heap.size k):=X1
 have HX2:Hid (Bx W0 (w.heap.size+1) v):=X2
 have HB0:Hid (Below w.heap.size w W0):=B0
 have HT0:Hid (RQ No W0 RT A P ka va ca cb G c t s):=h.below B0
 have HTN:Hid (∀W,Below w.heap.size w W→RQ (fun g=>No g∨(w.heap.size≤g∧g<W.heap.size)) W RT A P ka va ca cb G c t s):=fun W hW=>h.news hW
 clear X1 X2 B0 eX h
 obtain ⟨R,hR⟩:∃R,tset t s k v=R:=⟨_,rfl⟩
 have HR:Hid (tset t s k v=R):=hR
 rw[hR]
 clear hR
 unfold vb at hW0
 unfold vv vl
 unfold vl vb at C1 C2
 generalize hsz:w.heap.size=N at *
 have hsz2:(w.alloc (.cells #[.int .i64 k.1,.int .i64 k.2.1,.string k.2.2] 36)).heap.size=N+1:=by rw[←hsz];simp
 have HSZ:Hid (w.heap.size=N):=hsz
 have Y1:=HX2.out.below (b1 W0 (.cells #[.int .i64 k.1,.int .i64 k.2.1,.string k.2.2] 36))
 have Z1:=HX1.out.below (b2 W0 (.cells #[.int .i64 k.1,.int .i64 k.2.1,.string k.2.2] 36) (.cells #[.int .i64 v.1,.int .i64 v.2.1,.string v.2.2] 36))
 have Z2:=HX2.out.below (b2 W0 (.cells #[.int .i64 k.1,.int .i64 k.2.1,.string k.2.2] 36) (.cells #[.int .i64 v.1,.int .i64 v.2.1,.string v.2.2] 36))
 have HT1:Hid (RQ No (W0.alloc (.cells #[.int .i64 k.1,.int .i64 k.2.1,.string k.2.2] 36)) RT A P ka va ca cb G c t s):=HT0.out.below (b1 _ _)
 have HT2:Hid (RQ No ((W0.alloc (.cells #[.int .i64 k.1,.int .i64 k.2.1,.string k.2.2] 36)).alloc (.cells #[.int .i64 v.1,.int .i64 v.2.1,.string v.2.2] 36)) RT A P ka va ca cb G c t s):=HT0.out.below (b2 _ _ _)
 have HB1:Hid (Below N w (W0.alloc (.cells #[.int .i64 k.1,.int .i64 k.2.1,.string k.2.2] 36))):=bthen HB0.out (HSZ.out▸HB0.out.size) (b1 _ _)
 have HB2:Hid (Below N w ((W0.alloc (.cells #[.int .i64 k.1,.int .i64 k.2.1,.string k.2.2] 36)).alloc (.cells #[.int .i64 v.1,.int .i64 v.2.1,.string v.2.2] 36))):=bthen HB0.out (HSZ.out▸HB0.out.size) (b2 _ _ _)
 obtain ⟨W1,hW1⟩:∃W1,W0.alloc (.cells #[.int .i64 k.1,.int .i64 k.2.1,.string k.2.2] 36)=W1:=⟨_,rfl⟩
 rw[hW1] at Y1 Z1 Z2 HT1 HT2 HB1 HB2
 obtain ⟨W2,hW2⟩:∃W2,W1.alloc (.cells #[.int .i64 v.1,.int .i64 v.2.1,.string v.2.2] 36)=W2:=⟨_,rfl⟩
 rw[hW2] at Z1 Z2 HT2 HB2
 have y0:=Y1.c0
 have y1:=Y1.c1
 have y2:=Y1.c2
 have z0:=Z1.c0
 have z1:=Z1.c1
 have z2:=Z1.c2
 have HZ1:Hid (Bx W2 N k):=Z1
 have HZ2:Hid (Bx W2 (N+1) v):=Z2
 clear Y1 Z1 Z2
 by_cases hf1:fm k=true
 ·rw[if_pos hf1] at C1
  by_cases hf2:fm v=true
  ·rw[if_pos hf2] at C2
   by_cases hk0:k.1=0
   ·have hkb:(k.1==0)=true:=by simp[hk0]
    have HRe:Hid (tset t s k v=(t,s,9)):=by show _=_;unfold tset;rw[if_neg (by simp[hf1,hf2]),if_pos hk0]
    clear hk0
    go_enter Tryz.func27,Tryz.ntmps27
    go_wp2_with fail
    refine (C1 _).mono ?_;rintro e w' ⟨rfl,rfl⟩
    go_wp2_with fail
    refine (C2 _).mono ?_;rintro e w' ⟨rfl,rfl⟩
    go_wp2_with fail
    go_ret
    rw[←HR.out,HRe.out]
    exact ⟨rfl,⟨A,P,ka,va,ca,cb,HT2.out.more (by omega)⟩,Keep.of (HSZ.out.symm▸HB2.out)⟩
   ·have hkb:(k.1==0)=false:=by simp[hk0]
    have HKO:Hid (KOK k):=⟨hf1,hk0,hr.1,hr.2⟩
    have HTW:Hid (RQ (fun g=>No g∨(N≤g∧g<W2.heap.size)) W2 RT A P ka va ca cb G c t s):=HTN.out W2 HB2.out
    have HNN:Hid (N<W2.heap.size∧N+1<W2.heap.size):=⟨HZ1.out.lt,HZ2.out.lt⟩
    obtain ⟨No2,hNo2⟩:∃No2,(fun g=>No g∨(N≤g∧g<W2.heap.size))=No2:=⟨_,rfl⟩
    have HNo:Hid ((∀g,No g→No2 g)∧No2 N∧No2 (N+1)):=by
     have hl:=HNN.out
     subst hNo2
     exact ⟨fun g q=>.inl q,.inr ⟨Nat.le_refl _,hl.1⟩,.inr ⟨by omega,hl.2⟩⟩
    rw[hNo2] at HTW
    clear hNo2 HTN
    have CW:=rwithin_any k W2 HTW.out.rb.c0 HTW.out.rb.ltR
    have HRe:Hid (tset t s k v=if (pset t.p k v).2.2≠12 then (one t k v,s,(pset t.p k v).2.2) else if (reh (one t k v) s k).2.2≠0 then reh (one t k v) s k
     else ({(reh (one t k v) s k).1 with p:=(pset (reh (one t k v) s k).1.p k v).1},(reh (one t k v) s k).2.1,(pset (reh (one t k v) s k).1.p k v).2.2)):=by
     show _=_;unfold tset;rw[if_neg (by simp[hf1,hf2]),if_neg hk0]
    have hle:=HTW.out.ti.le
    have HTS:Hid (TI (pset t.p k v).1):=HTW.out.ti.set hr hf2
    have HTI:Hid (TI t.p):=HTW.out.ti
    have HP0:Hid (0≤t.pr∧t.pr≤(c:Int) * 65536):=⟨HTW.out.p0,HTW.out.p1⟩
    unfold vv vl at CW
    clear hk0 HX1 HX2 HB0 HT0 HT1 HT2 HB1
    by_cases hA:inA t.p.n k
    ·rw[decide_eq_true hA] at CW
     have hix:ix k<t.p.n:=by have:=hA.2.2;unfold ix;omega
     have hp:pset t.p k v=({t.p with F:=upd t.p.F (ix k) v},0,0):=by unfold pset;rw[if_pos hA]
     have Hk1:Hid (k.2.1=(ix k:Int)+1):=by have:=hA.2.2;show k.2.1=(ix k:Int)+1;unfold ix;omega
     have hwr:IntKind.i64.wrap (k.2.1 - 1)=(ix k:Int):=by have:=Hk1.out;rw[IntKind.wrap_i64];omega
     have HRf:Hid (tset t s k v=({t with p:={t.p with F:=upd t.p.F (ix k) v}},s,0)):=by
      show _=_;rw[HRe.out,hp,if_pos (show (0:Int)≠12 by decide)];unfold one;rw[hp];simp
     rw[hp] at HTS
     have hixi:(ix k:Int)<(t.p.n:Int):=by omega
     clear hA hp HRe
     go_enter Tryz.func27,Tryz.ntmps27
     go_wp2_with fail
     refine (C1 _).mono ?_;rintro e w' ⟨rfl,rfl⟩
     go_wp2_with fail
     refine (C2 _).mono ?_;rintro e w' ⟨rfl,rfl⟩
     go_wp2_with fail
     refine CW.mono ?_;rintro e W3 ⟨rfl,hb3⟩
     have HQ3:Hid (RQ No2 W3 RT A P ka va ca cb G c t s):=HTW.out.below hb3
     have x1:=HZ1.out.below hb3
     have x2:=HZ2.out.below hb3
     have e0:=HQ3.out.rb.c0
     have e1:=x1.c1
     have v0:=x2.c0
     have v1:=x2.c1
     have v2:=x2.c2
     obtain ⟨s1,s2⟩:=HQ3.out.slot hix v HTS.out
     obtain ⟨c0',c1',c2'⟩:=HQ3.out.rb.sl.at hix
     have fA:=HQ3.out.rb.fA
     have HK3:Hid (Keep No2 W2 W3):=Keep.of hb3
     obtain ⟨W4,hW4⟩:∃W4,set3i W3 A (ix k) v=W4:=⟨_,rfl⟩
     rw[hW4] at s1 s2
     have HS:Hid (RQ No2 W4.drew RT A P ka va ca cb G c {t with p:={t.p with F:=upd t.p.F (ix k) v}} s∧Keep No2 W2 W4.drew):=⟨s1.below (bdrew1 W4),(HK3.out.trans s2).trans (Keep.of (bdrew1 W4))⟩
     unfold set3i at hW4
     clear s1 s2 x1 x2 hb3 CW HQ3 HTS d0 d1 d2 hW0 hW1 hW2 y0 y1 y2 z0 z1 z2 C1 C2 hsz2
     go_wp2_with fail
     go_region
     all_goals
      go_wp2_with fail
      go_ret
      rw[←HR.out,HRf.out]
      exact ⟨rfl,⟨A,P,ka,va,ca,cb,(HS.out.1.sub HNo.out.1).more (by omega)⟩,(Keep.of (HSZ.out.symm▸HB2.out)).trans (HS.out.2.sub HNo.out.1)⟩
    ·rw[decide_eq_false hA] at CW
     have hp:pset t.p k v=({t.p with g:=(put t.p.z t.p.g k v).1},(put t.p.z t.p.g k v).2.1,(put t.p.z t.p.g k v).2.2):=by unfold pset;rw[if_neg hA]
     have HRd:Hid ((pset t.p k v).2.1≤65536):=pset_rd HTI.out k v
     have HFu:Hid ((pset t.p k v).2.2=12→Ask (pset t.p k v).1 k):=fun e=>(HTI.out.full HKO.out e).2.2.2.2.2.2.2
     have HCP:Hid (∀W,RQ No2 W RT A P ka va ca cb G c t s→Calls Tryz.prog 55 #[.pointer (some ⟨P,0,none⟩),.agg #[.int .i64 k.1,.int .i64 k.2.1,.string k.2.2],.agg #[.int .i64 v.1,.int .i64 v.2.1,.string v.2.2]] W fun e w'=>e= .returned (.tuple #[.int .i64 ((pset t.p k v).2.1:Nat),.int .i64 (pset t.p k v).2.2])∧(∃cb',RQ No2 w' RT A P ka va ca cb' G c {t with p:=(pset t.p k v).1} s)∧Keep No2 W w'):=fun W hW=>by
      have h1:=HTS.out
      rw[hp] at h1⊢
      exact hW.put k v hr h1
     have HSet:Hid ((pset t.p k v).2.2=12→(reh (one t k v) s k).2.2=0→(pset (reh (one t k v) s k).1.p k v).2.2=0):=fun e1 e2=>set_12 HTI.out HKO.out e1 e2
     clear hA hp
     obtain ⟨ps,hps⟩:∃ps,pset t.p k v=ps:=⟨_,rfl⟩
     rw[hps] at HCP HRd HFu HTS HSet
     have HPs:Hid (pset t.p k v=ps):=hps
     clear hps
     go_enter Tryz.func27,Tryz.ntmps27
     go_wp2_with fail
     refine (C1 _).mono ?_;rintro e w' ⟨rfl,rfl⟩
     go_wp2_with fail
     refine (C2 _).mono ?_;rintro e w' ⟨rfl,rfl⟩
     go_wp2_with fail
     refine CW.mono ?_;rintro e W3 ⟨rfl,hb3⟩
     have HQ3:Hid (RQ No2 W3 RT A P ka va ca cb G c t s):=HTW.out.below hb3
     have x1:=HZ1.out.below hb3
     have x2:=HZ2.out.below hb3
     have e1:=HQ3.out.rb.c1
     have k0:=x1.c0
     have k1:=x1.c1
     have k2:=x1.c2
     have v0:=x2.c0
     have v1:=x2.c1
     have v2:=x2.c2
     have CP:=HCP.out W3.drew (HQ3.out.below (bdrew1 W3))
     have HK3:Hid (Keep No2 W2 W3.drew):=(Keep.of hb3).trans (Keep.of (bdrew1 W3))
     clear x1 x2 hb3 CW HCP HQ3 d0 d1 d2 hW0 hW1 hW2 y0 y1 y2 z0 z1 z2 C1 C2 hsz2
     go_upto_region 8 with fail
     go_cut [7,8] from 32 to 41 (fun rw ew wx=>rw= .int .i64 (ps.2.1:Nat)∧ew= .int .i64 ps.2.2∧Hid ((∃cb',RQ No2 wx RT A P ka va ca cb' G c {t with p:=ps.1} s)∧Keep No2 W2 wx))
     case first=>
      go_region_with (go_at_call 55;refine CP.mono ?_;rintro e W4 ⟨rfl,q1,q2⟩;have HX:Hid ((∃cb',RQ No2 W4 RT A P ka va ca cb' G c {t with p:=ps.1} s)∧Keep No2 W2 W4):=⟨q1,HK3.out.trans q2⟩;clear q1 q2)
      all_goals
       go_wp2_with fail
       go_meet
       exact ⟨rfl,rfl,HX⟩
     case rest=>
      obtain ⟨rfl,rfl,HX⟩:=hcut
      clear CP e1 k0 k1 k2 v0 v1 v2 HK3
      obtain ⟨cb1,hq5⟩:=HX.out.1
      have p5:=hq5.rb.c5
      have f5:=hq5.rb.fz
      have hrd:=HRd.out
      have hp0:=HP0.out
      have hwr:IntKind.i64.wrap (t.pr+(ps.2.1:Int))=t.pr+(ps.2.1:Int):=by rw[IntKind.wrap_i64];omega
      have HY:Hid _:=(hq5.more (c':=c+1) (by omega)).probe (t.pr+(ps.2.1:Int)) (by omega) (by push_cast;omega)
      obtain ⟨W4,hW4⟩:∃W4,wc.setCell ⟨RT,5,none⟩ (.int .i64 (t.pr+(ps.2.1:Int)))=W4:=⟨_,rfl⟩
      have HY4:Hid (RQ No2 W4 RT A P ka va ca cb1 G (c+1) (one t k v) s∧Keep No2 W2 W4):=by
       have h0:=HY.out
       rw[hW4] at h0
       have e1:one t k v={t with p:=ps.1,pr:=t.pr+(ps.2.1:Int)}:=by unfold one;rw[HPs.out]
       rw[e1]
       exact ⟨h0.1,HX.out.2.trans h0.2⟩
      have q1:=HZ1.out.kept HY4.out.2 HNo.out.2.1
      clear HY hrd hp0 hq5 HX
      by_cases h12:ps.2.2=12
      ·have h12b:(ps.2.2 !=12)=false:=by simp[h12]
       have CR:=rreh_any HY4.out.1 (by omega) k (by have:=HFu.out h12;rwa [show (one t k v).p=ps.1 by unfold one;rw[HPs.out]])
       unfold vv vl at CR
       have r0:=q1.c0
       have r1:=q1.c1
       have r2:=q1.c2
       have HRe2:Hid (tset t s k v=if (reh (one t k v) s k).2.2≠0 then reh (one t k v) s k
        else ({(reh (one t k v) s k).1 with p:=(pset (reh (one t k v) s k).1.p k v).1},(reh (one t k v) s k).2.1,(pset (reh (one t k v) s k).1.p k v).2.2)):=by
        show _=_;rw[HRe.out,HPs.out,if_neg (by simp[h12])]
       have HS2:Hid ((reh (one t k v) s k).2.2=0→(pset (reh (one t k v) s k).1.p k v).2.2=0):=HSet.out h12
       clear h12
       go_wp2_with fail
       refine CR.mono ?_;rintro e W5 ⟨rfl,⟨A5,P5,ka5,va5,ca5,cb5,h5⟩,k5⟩
       have HY5:Hid (RQ No2 W5 RT A5 P5 ka5 va5 ca5 cb5 G (c+1+6) (reh (one t k v) s k).1 (reh (one t k v) s k).2.1∧Keep No2 W2 W5):=⟨h5,HY4.out.2.trans k5⟩
       clear CR h5 k5 r0 r1 r2 q1 HSet
       generalize reh (one t k v) s k=rr at *
       by_cases hrr:rr.2.2=0
       ·have hrb:(rr.2.2 !=0)=false:=by simp[hrr]
        have HRe3:Hid (tset t s k v=({rr.1 with p:=(pset rr.1.p k v).1},rr.2.1,0)):=by
         show _=_;rw[HRe2.out,if_neg (by simpa using hrr),HS2.out hrr]
        have Q1:=HZ1.out.kept HY5.out.2 HNo.out.2.1
        have Q2:=HZ2.out.kept HY5.out.2 HNo.out.2.2
        have r0:=Q1.c0
        have r1:=Q1.c1
        have r2:=Q1.c2
        have s0:=Q2.c0
        have s1:=Q2.c1
        have s2:=Q2.c2
        have CL:=rlay_any HY5.out.1 k v hr hf2
        unfold vv vl at CL
        clear Q1 Q2 hrr HS2 HRe2
        go_wp2_with fail
        refine CL.mono ?_;rintro e W6 ⟨rfl,h6,k6⟩
        have HY6:Hid ((∃cb',RQ No2 W6 RT A5 P5 ka5 va5 ca5 cb' G (c+1+6) {rr.1 with p:=(pset rr.1.p k v).1} rr.2.1)∧Keep No2 W2 W6):=⟨h6,HY5.out.2.trans k6⟩
        clear CL h6 k6
        go_wp2_with fail
        go_ret
        rw[←HR.out,HRe3.out]
        obtain ⟨⟨cb6,g6⟩,g7⟩:=HY6.out
        exact ⟨rfl,⟨A5,P5,ka5,va5,ca5,cb6,g6.sub HNo.out.1⟩,(Keep.of (HSZ.out.symm▸HB2.out)).trans (g7.sub HNo.out.1)⟩
       ·have hrb:(rr.2.2 !=0)=true:=by simp[hrr]
        have HRe3:Hid _:=HRe2.out.trans (if_pos hrr)
        go_wp2_with fail
        go_ret
        rw[←HR.out,HRe3.out]
        exact ⟨rfl,⟨A5,P5,ka5,va5,ca5,cb5,(HY5.out.1.sub HNo.out.1).more (by omega)⟩,(Keep.of (HSZ.out.symm▸HB2.out)).trans (HY5.out.2.sub HNo.out.1)⟩
      ·have h12b:(ps.2.2 !=12)=true:=by simp[h12]
       have HRe2:Hid (tset t s k v=(one t k v,s,ps.2.2)):=by show _=_;rw[HRe.out,HPs.out,if_pos h12]
       go_wp2_with fail
       go_ret
       rw[←HR.out,HRe2.out]
       exact ⟨rfl,⟨A,P,ka,va,ca,cb1,(HY4.out.1.sub HNo.out.1).more (by omega)⟩,(Keep.of (HSZ.out.symm▸HB2.out)).trans (HY4.out.2.sub HNo.out.1)⟩
  ·rw[if_neg hf2] at C2
   have HRe:Hid (tset t s k v=(t,s,2)):=by show _=_;unfold tset;rw[if_pos (by simp[hf2])]
   go_enter Tryz.func27,Tryz.ntmps27
   go_wp2_with fail
   refine (C1 _).mono ?_;rintro e w' ⟨rfl,rfl⟩
   go_wp2_with fail
   refine (C2 _).mono ?_;rintro e w' ⟨rfl,rfl⟩
   go_wp2_with fail
   go_ret
   rw[←HR.out,HRe.out]
   exact ⟨rfl,⟨A,P,ka,va,ca,cb,HT2.out.more (by omega)⟩,Keep.of (HSZ.out.symm▸HB2.out)⟩
 ·rw[if_neg hf1] at C1
  have HRe:Hid (tset t s k v=(t,s,2)):=by show _=_;unfold tset;rw[if_pos (by simp[hf1])]
  go_enter Tryz.func27,Tryz.ntmps27
  go_wp2_with fail
  refine (C1 _).mono ?_;rintro e w' ⟨rfl,rfl⟩
  go_wp2_with fail
  go_ret
  rw[←HR.out,HRe.out]
  exact ⟨rfl,⟨A,P,ka,va,ca,cb,HT1.out.more (by omega)⟩,Keep.of (HSZ.out.symm▸HB1.out)⟩
end Go.Proofs.YtkmopcanaalemabGreat


namespace Go.Proofs.YtkmopcanaalemabGreat
open Go.RowKit
set_option maxRecDepth 20000 in
set_option maxHeartbeats 2000000 in
theorem rget_any {S ka va ca z : Nat} {g : G} {cb : Nat → Nat} (k : V) (w : World) (h : Rp w S ka va ca z g cb) (hi : Inv z (pl z) KOK g) (hz : Rt z) (hr : Rng k) :
    Calls Tryz.prog 119 #[pp S,vl k.1 k.2.1 k.2.2] w fun e w'=>e = .returned (.tuple #[vl (xAt g (fnd z g k).1).1 (xAt g (fnd z g k).1).2.1 (xAt g (fnd z g k).1).2.2,.int .i64 ((fnd z g k).2 : Nat)]) ∧ Below w.heap.size w w':=by
  obtain ⟨W0,hW0⟩ : ∃ W0,(w.alloc (vb k.1 k.2.1 k.2.2)).alloc (vb 0 0 ⟨#[]⟩) = W0:=⟨_,rfl⟩
  have B0 : Below w.heap.size w W0:=by rw [← hW0];exact b2 _ _ _
  have P0:=h.below B0
  have CF:=rfind_any k W0 P0 hi hz hr
  have HL : Hid (∀ i n,fnd z g k = (some i,n) → i < z):=fun i n hf=>(fnd_lt hi hz hr hf).1
  have X2 : Bx W0 (w.heap.size + 1) nil:=by
    have h0:=Bx.made (w.alloc (vb k.1 k.2.1 k.2.2)) nil
    have e : (w.alloc (vb k.1 k.2.1 k.2.2)).heap.size = w.heap.size + 1:=by simp
    rw [e] at h0
    rw [← hW0];exact h0
  have F2 : ∀ j,W0.frozen? ⟨w.heap.size + 1,j,none⟩ = false:=fun j=>by
    have h0:=new_free (w.alloc (vb k.1 k.2.1 k.2.2)) #[.int .i64 0,.int .i64 0,.string ⟨#[]⟩] 36 j
    have e : (w.alloc (vb k.1 k.2.1 k.2.2)).heap.size = w.heap.size + 1:=by simp
    rw [e] at h0
    rw [← hW0];exact h0
  have HP0 : Hid _:=P0
  have HB0 : Hid _:=B0
  have HX2 : Hid _:=X2
  have HF2 : Hid _:=F2
  clear h hi hz hr B0 P0 X2 F2
  unfold pp vl vb at *
  generalize hsz : w.heap.size = B at *
  have hsz2 : (w.alloc (.cells #[.int .i64 k.1,.int .i64 k.2.1,.string k.2.2] 36)).heap.size = B + 1:=by rw [← hsz];simp
  have d0 : ((w.alloc (.cells #[.int .i64 k.1,.int .i64 k.2.1,.string k.2.2] 36)).alloc (.cells #[.int .i64 0,.int .i64 0,.string ⟨#[]⟩] 36)).cell? ⟨B,0,none⟩ = some (.int .i64 k.1):=by rw [← hsz];simp [go_sem]
  have d1 : ((w.alloc (.cells #[.int .i64 k.1,.int .i64 k.2.1,.string k.2.2] 36)).alloc (.cells #[.int .i64 0,.int .i64 0,.string ⟨#[]⟩] 36)).cell? ⟨B,1,none⟩ = some (.int .i64 k.2.1):=by rw [← hsz];simp [go_sem]
  have d2 : ((w.alloc (.cells #[.int .i64 k.1,.int .i64 k.2.1,.string k.2.2] 36)).alloc (.cells #[.int .i64 0,.int .i64 0,.string ⟨#[]⟩] 36)).cell? ⟨B,2,none⟩ = some (.string k.2.2):=by rw [← hsz];simp [go_sem]
  rw [hW0] at d0 d1 d2
  have HSZ : Hid (w.heap.size = B):=hsz
  cases hf : fnd z g k with
  | mk o n =>
    rw [hf] at CF
    go_enter Tryz.func119,Tryz.ntmps119
    go_wp2_with fail
    refine CF.mono ?_;rintro e W1 ⟨rfl,hb⟩
    have hb1 : Below B w W1:=bthen HB0.out (HSZ.out ▸ HB0.out.size) hb
    have P1:=HP0.out.below hb
    have Y2:=HX2.out.below hb
    have ff : ∀ j,W1.frozen? ⟨B + 1,j,none⟩ = false:=fun j=>by rw [hb.frozen (by exact HX2.out.lt)];exact HF2.out j
    have c0:=Y2.c0
    have c1:=Y2.c1
    have c2:=Y2.c2
    cases o with
    | some i =>
      have hiz:=HL.out i n hf
      have hiz' : (i : Int) < (z : Int):=by omega
      have s1:=P1.s1
      obtain ⟨x0,x1,x2⟩:=P1.v.at hiz
      have S3 : Hid _:=Keep.bel (No:=fun x=>x < B) (((Keep.of (No:=fun x=>x < B) (HSZ.out ▸ hb1)).set (p:=⟨B + 1,0,none⟩) (by simp) (.int .i64 (g.X i).1)).set (p:=⟨B + 1,1,none⟩) (by simp) (.int .i64 (g.X i).2.1) |>.set (p:=⟨B + 1,2,none⟩) (by simp) (.string (g.X i).2.2)) (Below.refl _ _)
      simp only [fi]
      clear hb1 hb CF Y2 P1
      go_wp2_with fail
      refine bodyPost_ret (v:=.tuple #[.agg #[.int .i64 (g.X i).1,.int .i64 (g.X i).2.1,.string (g.X i).2.2],.int .i64 (n : Nat)]) (by simp [results,Tryz.results119,go_sem,c0,c1,c2]) rfl ⟨rfl,?_⟩
      exact S3.out.below (HSZ.out ▸ Nat.le_refl _) (fun g hg=>hg)
    | none =>
      have S3 : Hid _:=Keep.bel (No:=fun x=>x < B) (((Keep.of (No:=fun x=>x < B) (HSZ.out ▸ hb1)).set (p:=⟨B + 1,0,none⟩) (by simp) (.int .i64 nil.1)).set (p:=⟨B + 1,1,none⟩) (by simp) (.int .i64 nil.2.1) |>.set (p:=⟨B + 1,2,none⟩) (by simp) (.string nil.2.2)) (Below.refl _ _)
      simp only [fi]
      clear hb1 hb CF Y2 P1
      go_wp2_with fail
      refine bodyPost_ret (v:=.tuple #[.agg #[.int .i64 nil.1,.int .i64 nil.2.1,.string nil.2.2],.int .i64 (n : Nat)]) (by simp [results,Tryz.results119,go_sem,c0,c1,c2,nil]) rfl ⟨rfl,?_⟩
      exact S3.out.below (HSZ.out ▸ Nat.le_refl _) (fun g hg=>hg)
end Go.Proofs.YtkmopcanaalemabGreat


namespace Go.Proofs.YtkmopcanaalemabGreat
open Go.RowKit
set_option maxRecDepth 20000 in
set_option maxHeartbeats 2000000 in
theorem rplaces_any {w : World} {RT A P ka va ca : Nat} {cb : Nat → Nat} {G : Nat} {t : TS} (h : Rb w RT A P ka va ca cb G t) (ti : TI t.p) :
    Calls Tryz.prog 35 #[.pointer (some ⟨RT,0,none⟩)] w fun e w'=>e = .returned (.int .i64 ((t.p.n + t.p.z : Nat) : Int)) ∧ Below w.heap.size w w':=by
  have c0:=h.c0
  have c1:=h.c1
  have CS : ∀ m,Calls Tryz.prog 75 #[.pointer (some ⟨P,0,none⟩)] (w.drewN m) fun e w'=>e = .returned (.int .i64 (t.p.z : Nat)) ∧ w' = w.drewN m:=fun m=>rpsize_any _ (h.rp.below (bdrew _ _ m))
  have hw : IntKind.i64.wrap ((t.p.n : Int) + (t.p.z : Int)) = ((t.p.n + t.p.z : Nat) : Int):=by have:=ti.le;have:=ti.rt.le;rw [IntKind.wrap_i64];omega
  generalize ((t.p.n + t.p.z : Nat) : Int) = nz at *
  clear h ti
  go_enter Tryz.func35,Tryz.ntmps35
  go_wp2_with fail
  go_quiet (exact Calls.quiet_of_same (CS _))
  go_wp2_with fail
  go_ret
  exact ⟨rfl,bdrew _ _ _⟩
end Go.Proofs.YtkmopcanaalemabGreat





namespace Go.Proofs.YtkmopcanaalemabGreat
open Go.RowKit
set_option maxRecDepth 20000 in
set_option maxHeartbeats 2000000 in
theorem rstats_any {w : World} {RT A P ka va ca : Nat} {cb : Nat → Nat} {G : Nat} {t : TS} (h : Rb w RT A P ka va ca cb G t) :
    Calls Tryz.prog 34 #[.pointer (some ⟨RT,0,none⟩)] w fun e w'=>e = .returned (ts t) ∧ Below w.heap.size w w':=by
  have R:=R4.made w (.int .i64 0) (.int .i64 0) (.int .i64 0) (.int .i64 0) 90
  have B0:=b1 w (.cells #[.int .i64 0,.int .i64 0,.int .i64 0,.int .i64 0] 90)
  obtain ⟨W0,hW0⟩ : ∃ W0,w.alloc (.cells #[.int .i64 0,.int .i64 0,.int .i64 0,.int .i64 0] 90) = W0:=⟨_,rfl⟩
  rw [hW0] at R B0
  have h0:=h.below B0
  have c0:=h0.c0
  have c1:=h0.c1
  have c4:=h0.c4
  have s3:=h0.rp.s3
  have CS : ∀ m,Calls Tryz.prog 75 #[.pointer (some ⟨P,0,none⟩)] (W0.drewN m) fun e w'=>e = .returned (.int .i64 (t.p.z : Nat)) ∧ w' = W0.drewN m:=fun m=>rpsize_any _ (h0.rp.below (bdrew _ _ m))
  have HB : Hid (Below w.heap.size w W0):=B0
  unfold ts sv
  generalize t.hint = hh at *
  generalize t.p.g.f = ff at *
  generalize t.p.n = nn at *
  generalize t.p.z = zz at *
  have r0:=R.c0
  have r1:=R.c1
  have r2:=R.c2
  have r3:=R.c3
  have rf:=R.fz
  generalize hsz : w.heap.size = N at *
  have HSZ : Hid (w.heap.size = N):=hsz
  have R2 : Hid _:=R.set (.int .i64 (nn : Nat)) (.int .i64 (zz : Nat)) (.int .i64 (ff : Nat)) (.int .i64 hh)
  have K2 : Hid _:=Keep.set4 (Keep.of (No:=fun g=>g < N) (HSZ.out.symm ▸ HB.out)) (N:=N) (Nat.lt_irrefl _) (.int .i64 (nn : Nat)) (.int .i64 (zz : Nat)) (.int .i64 (ff : Nat)) (.int .i64 hh)
  obtain ⟨W1,hW1⟩ : ∃ W1,set4 W0 N (.int .i64 (nn : Nat)) (.int .i64 (zz : Nat)) (.int .i64 (ff : Nat)) (.int .i64 hh) = W1:=⟨_,rfl⟩
  rw [hW1] at R2 K2
  unfold set4 at hW1
  clear h h0 B0 R
  go_enter Tryz.func34,Tryz.ntmps34
  go_wp2_with fail
  refine wp_tail 22 (by kernel_rfl) (by kernel_rfl) ?_
  simp only [List.take_succ_cons,List.take_zero,List.drop_succ_cons,List.drop_zero]
  repeat (first | still_step | still_call (CS 1))
  refine wpStill_nil ?_
  go_wp2_with fail
  have R3:=R2.out
  have t0:=R3.c0
  have t1:=R3.c1
  have t2:=R3.c2
  have t3:=R3.c3
  clear R3
  refine bodyPost_ret (v:=.agg #[.int .i64 (nn : Nat),.int .i64 (zz : Nat),.int .i64 (ff : Nat),.int .i64 hh]) (by simp [results,Tryz.results34,go_sem,t0,t1,t2,t3]) rfl ⟨rfl,?_⟩
  exact (K2.out.below (by have:=HSZ.out;omega) (fun g hg=>hg)).trans (bdrew _ _ 1)
end Go.Proofs.YtkmopcanaalemabGreat





namespace Go.Proofs.YtkmopcanaalemabGreat
open Go.RowKit
structure R7 (w:World) (N:Nat) (k x:V):Prop where
 c0:w.cell? ⟨N,0,none⟩=some (.int .i64 k.1)
 c1:w.cell? ⟨N,1,none⟩=some (.int .i64 k.2.1)
 c2:w.cell? ⟨N,2,none⟩=some (.string k.2.2)
 c3:w.cell? ⟨N,3,none⟩=some (.int .i64 x.1)
 c4:w.cell? ⟨N,4,none⟩=some (.int .i64 x.2.1)
 c5:w.cell? ⟨N,5,none⟩=some (.string x.2.2)
 c6:∃l:Int,w.cell? ⟨N,6,none⟩=some (.int .i64 l)
 fz:∀j,w.frozen? ⟨N,j,none⟩=false
 lt:N<w.heap.size
theorem R7.kept {No:Nat→Prop} {w w':World} {N:Nat} {k x:V} (h:R7 w N k x) (q:Keep No w w') (hn:No N):R7 w' N k x:=by
 have e:=q.block N h.lt hn
 obtain ⟨l,hl⟩:=h.c6
 exact ⟨by rw[World.cell?_of_block (w:=w) e];exact h.c0,by rw[World.cell?_of_block (w:=w) e];exact h.c1,by rw[World.cell?_of_block (w:=w) e];exact h.c2,by rw[World.cell?_of_block (w:=w) e];exact h.c3,by rw[World.cell?_of_block (w:=w) e];exact h.c4,by rw[World.cell?_of_block (w:=w) e];exact h.c5,⟨l,by rw[World.cell?_of_block (w:=w) e];exact hl⟩,fun j=>by rw[World.frozen?_of_block (w:=w) e];exact h.fz j,Nat.lt_of_lt_of_le h.lt q.size⟩
theorem R7.below {w w':World} {N:Nat} {k x:V} (h:R7 w N k x) (q:Below w.heap.size w w'):R7 w' N k x:=h.kept (No:=fun _=>True) (Keep.of q) trivial
theorem R7.made (w:World) (k x:V) (l:Int):R7 (w.alloc (.cells #[.int .i64 k.1,.int .i64 k.2.1,.string k.2.2,.int .i64 x.1,.int .i64 x.2.1,.string x.2.2,.int .i64 l] 123)) w.heap.size k x:=by
 have h:=(MapKept.heap_alloc w (.cells #[.int .i64 k.1,.int .i64 k.2.1,.string k.2.2,.int .i64 x.1,.int .i64 x.2.1,.string x.2.2,.int .i64 l] 123)).1
 exact ⟨cell_of_row h 0,cell_of_row h 1,cell_of_row h 2,cell_of_row h 3,cell_of_row h 4,cell_of_row h 5,⟨l,cell_of_row h 6⟩,fun j=>new_free w _ _ j,by simp⟩
abbrev set7b (w:World) (N:Nat) (k x:V) (l:Int):World:=((((((w.setCell ⟨N,0,none⟩ (.int .i64 k.1)).setCell ⟨N,1,none⟩ (.int .i64 k.2.1)).setCell ⟨N,2,none⟩ (.string k.2.2)).setCell ⟨N,3,none⟩ (.int .i64 x.1)).setCell ⟨N,4,none⟩ (.int .i64 x.2.1)).setCell ⟨N,5,none⟩ (.string x.2.2)).setCell ⟨N,6,none⟩ (.int .i64 l)
theorem R7.set {w:World} {N:Nat} {k0 x0:V} (h:R7 w N k0 x0) (k x:V) (l:Int):R7 (set7b w N k x l) N k x:=by
 have ne:∀(i j:Nat) (W:World) (v:Value),i≠j→(W.setCell ⟨N,i,none⟩ v).cell? ⟨N,j,none⟩=W.cell? ⟨N,j,none⟩:=fun i j W v hij=>World.cell?_setCell_other _ _ _ _ (fun q=>by injection q with _ q2;omega)
 obtain ⟨l0,h6⟩:=h.c6
 refine ⟨?_,?_,?_,?_,?_,?_,⟨l,?_⟩,fun j=>by simpa using h.fz j,by simpa [World.setCell] using h.lt⟩
 ·rw[ne 6 0 _ _ (by omega),ne 5 0 _ _ (by omega),ne 4 0 _ _ (by omega),ne 3 0 _ _ (by omega),ne 2 0 _ _ (by omega),ne 1 0 _ _ (by omega)];exact World.cell?_setCell_same _ _ _ h.c0
 ·rw[ne 6 1 _ _ (by omega),ne 5 1 _ _ (by omega),ne 4 1 _ _ (by omega),ne 3 1 _ _ (by omega),ne 2 1 _ _ (by omega)];exact World.cell?_setCell_same _ _ _ (by rw[ne 0 1 _ _ (by omega)];exact h.c1)
 ·rw[ne 6 2 _ _ (by omega),ne 5 2 _ _ (by omega),ne 4 2 _ _ (by omega),ne 3 2 _ _ (by omega)];exact World.cell?_setCell_same _ _ _ (by rw[ne 1 2 _ _ (by omega),ne 0 2 _ _ (by omega)];exact h.c2)
 ·rw[ne 6 3 _ _ (by omega),ne 5 3 _ _ (by omega),ne 4 3 _ _ (by omega)];exact World.cell?_setCell_same _ _ _ (by rw[ne 2 3 _ _ (by omega),ne 1 3 _ _ (by omega),ne 0 3 _ _ (by omega)];exact h.c3)
 ·rw[ne 6 4 _ _ (by omega),ne 5 4 _ _ (by omega)];exact World.cell?_setCell_same _ _ _ (by rw[ne 3 4 _ _ (by omega),ne 2 4 _ _ (by omega),ne 1 4 _ _ (by omega),ne 0 4 _ _ (by omega)];exact h.c4)
 ·rw[ne 6 5 _ _ (by omega)];exact World.cell?_setCell_same _ _ _ (by rw[ne 4 5 _ _ (by omega),ne 3 5 _ _ (by omega),ne 2 5 _ _ (by omega),ne 1 5 _ _ (by omega),ne 0 5 _ _ (by omega)];exact h.c5)
 ·exact World.cell?_setCell_same _ _ _ (by rw[ne 5 6 _ _ (by omega),ne 4 6 _ _ (by omega),ne 3 6 _ _ (by omega),ne 2 6 _ _ (by omega),ne 1 6 _ _ (by omega),ne 0 6 _ _ (by omega)];exact h6)
structure Px (w W:World) (N vx:Nat) (k x:V):Prop where
 r7:R7 W vx k x
 r0:R3 W N nil
 r1:R3 W (N+1) nil
 bel:Below N w W
 ge:N+2≤vx
set_option maxRecDepth 20000 in
set_option maxHeartbeats 1500000 in
theorem pair_out {w:World} {T A b a S:Nat} {t:TS} (h:Tm w T A b a S t) (hn:t.p.n≤65536) (hz:t.p.z≤65536) (j:Nat) (hj:j<t.p.z):
 Calls Tryz.prog 36 #[tp T,.int .i64 ((t.p.n:Int)+1+j)] w fun e w'=>e= .returned (.tuple #[vv (t.p.g.K j),vv (t.p.g.X j)])∧Below w.heap.size w w':=by
 have R0:=(R3.made w nil).below (b1 _ (vb 0 0 ⟨#[]⟩))
 have R1:=R3.made (w.alloc (vb 0 0 ⟨#[]⟩)) nil
 have eX:(w.alloc (vb 0 0 ⟨#[]⟩)).heap.size=w.heap.size+1:=by simp
 rw[eX] at R1
 have B0:=b2 w (vb 0 0 ⟨#[]⟩) (vb 0 0 ⟨#[]⟩)
 have R0':R3 ((w.alloc (vb 0 0 ⟨#[]⟩)).alloc (vb 0 0 ⟨#[]⟩)) w.heap.size nil:=R0
 have R1':R3 ((w.alloc (vb 0 0 ⟨#[]⟩)).alloc (vb 0 0 ⟨#[]⟩)) (w.heap.size+1) nil:=R1
 have eS:((w.alloc (vb 0 0 ⟨#[]⟩)).alloc (vb 0 0 ⟨#[]⟩)).heap.size=w.heap.size+2:=by simp
 obtain ⟨W0,hW0⟩:∃W0,(w.alloc (vb 0 0 ⟨#[]⟩)).alloc (vb 0 0 ⟨#[]⟩)=W0:=⟨_,rfl⟩
 rw[hW0] at B0 R0' R1' eS
 have h0:=h.below B0
 have CA:=fun W (hW:Below W0.heap.size W0 W)=>at_in j W (h0.pm.pt.below hW) hj
 have c1:W0.cell? ⟨T,1,none⟩=some (.slice (some ⟨A,0,none⟩) t.p.n t.p.n):=h0.pm.c0
 have c2:W0.cell? ⟨T,2,none⟩=some (.pointer (some ⟨b,0,none⟩)):=h0.pm.c1
 generalize link (pl t.p.z) t.p.g j=l at *
 generalize t.p.g.K j=k at *
 generalize t.p.g.X j=x at *
 have HG1:Hid (∀w3,Below W0.heap.size W0 w3→Px w (w3.alloc (.cells #[.int .i64 k.1,.int .i64 k.2.1,.string k.2.2,.int .i64 x.1,.int .i64 x.2.1,.string x.2.2,.int .i64 l] 123)) w.heap.size w3.heap.size k x):=fun w3 b3=>by
  have bb:=bthen b3 b3.size (b1 w3 (.cells #[.int .i64 k.1,.int .i64 k.2.1,.string k.2.2,.int .i64 x.1,.int .i64 x.2.1,.string x.2.2,.int .i64 l] 123))
  exact ⟨R7.made w3 k x l,R0'.below bb,R1'.below bb,bthen B0 B0.size bb,by have:=b3.size;omega⟩
 have HG2:Hid (∀w3,Below W0.heap.size W0 w3→R7 w3 W0.heap.size nil nil→Px w (set7b w3 W0.heap.size k x l) w.heap.size W0.heap.size k x):=fun w3 b3 r3=>by
  have bb:Below W0.heap.size W0 (set7b w3 W0.heap.size k x l):=((((((b3.setCell (Nat.le_refl _) _).setCell (Nat.le_refl _) _).setCell (Nat.le_refl _) _).setCell (Nat.le_refl _) _).setCell (Nat.le_refl _) _).setCell (Nat.le_refl _) _).setCell (Nat.le_refl _) _
  exact ⟨r3.set k x l,R0'.below bb,R1'.below bb,bthen B0 B0.size bb,by omega⟩
 have BA:=bthen (bdrew1 W0) (Nat.le_refl _) (b1 W0.drew (.cells #[.int .i64 0,.int .i64 0,.string ⟨#[]⟩,.int .i64 0,.int .i64 0,.string ⟨#[]⟩,.int .i64 0] 123))
 have RA:R7 (W0.drew.alloc (.cells #[.int .i64 0,.int .i64 0,.string ⟨#[]⟩,.int .i64 0,.int .i64 0,.string ⟨#[]⟩,.int .i64 0] 123)) W0.heap.size nil nil:=R7.made W0.drew nil nil 0
 obtain ⟨Wa,hWa⟩:∃Wa,W0.drew.alloc (.cells #[.int .i64 0,.int .i64 0,.string ⟨#[]⟩,.int .i64 0,.int .i64 0,.string ⟨#[]⟩,.int .i64 0] 123)=Wa:=⟨_,rfl⟩
 rw[hWa] at BA RA
 have z1:Wa.cell? ⟨T,1,none⟩=some (.slice (some ⟨A,0,none⟩) t.p.n t.p.n):=(h0.below BA).pm.c0
 have z2:Wa.cell? ⟨T,2,none⟩=some (.pointer (some ⟨b,0,none⟩)):=(h0.below BA).pm.c1
 have CFd:=(CA W0.drew (bdrew1 _)).mono (R':=fun e w'=>e= .returned (vn k x l)∧Hid (Below W0.heap.size W0 w')) fun _ _ hh=>⟨hh.1,bthen (bdrew1 W0) (Nat.le_refl _) hh.2⟩
 have CFa:=(CA Wa BA).mono (R':=fun e w'=>e= .returned (vn k x l)∧Hid (Below W0.heap.size W0 w')∧R7 w' W0.heap.size nil nil) fun _ _ hh=>⟨hh.1,bthen BA BA.size hh.2,RA.below hh.2⟩
 clear h h0 R0 R1 R0' R1' B0 eX CA BA RA eS
 unfold vb at hW0
 unfold vv vl tp at *
 unfold pp vn at CFd CFa
 generalize t.p.z=z at *
 generalize t.p.n=n at *
 generalize hsz:w.heap.size=N at *
 have hj1:¬((n:Int)+1+(j:Int)<1):=by omega
 have hj2:¬((n:Int)+1+(j:Int)≤(n:Int)):=by omega
 have hw0:IntKind.i64.wrap ((n:Int)+1+(j:Int) - (n:Int))=(j:Int)+1:=by rw[IntKind.wrap_i64];omega
 have hw1:IntKind.i64.wrap ((j:Int)+1 - 1)=(j:Int):=by rw[IntKind.wrap_i64];omega
 have hw2:IntKind.i64.wrap (j:Int)=(j:Int):=by rw[IntKind.wrap_i64];omega
 generalize hm:(n:Int)+1+(j:Int)=m at *
 go_enter Tryz.func36,Tryz.ntmps36
 go_upto_region 5 with fail
 go_cut [6] from 34 to 48 (fun bw wx=>∃vx:Nat,bw= .pointer (some ⟨vx,0,none⟩)∧Hid (Px w wx N vx k x))
 case first=>
  go_region_with (first
   | (go_at_call 77;refine CFd.mono ?_;rintro e w3 ⟨rfl,hB3⟩;have HPX:Hid _:=HG1.out w3 hB3.out;obtain ⟨W8,hW8⟩:∃W8,w3.alloc (.cells #[.int .i64 k.1,.int .i64 k.2.1,.string k.2.2,.int .i64 x.1,.int .i64 x.2.1,.string x.2.2,.int .i64 l] 123)=W8:=⟨_,rfl⟩;rw[hW8] at HPX)
   | (go_at_call 77;refine CFa.mono ?_;rintro e w3 ⟨rfl,hB3,q3⟩;have q0:w3.cell? ⟨W0.heap.size,0,none⟩=some (.int .i64 0):=q3.c0;have q1:w3.cell? ⟨W0.heap.size,1,none⟩=some (.int .i64 0):=q3.c1;have q2:w3.cell? ⟨W0.heap.size,2,none⟩=some (.string ⟨#[]⟩):=q3.c2;have q4:w3.cell? ⟨W0.heap.size,3,none⟩=some (.int .i64 0):=q3.c3;have q5:w3.cell? ⟨W0.heap.size,4,none⟩=some (.int .i64 0):=q3.c4;have q6:w3.cell? ⟨W0.heap.size,5,none⟩=some (.string ⟨#[]⟩):=q3.c5;obtain ⟨l0,q7⟩:=q3.c6;have qf:∀j,w3.frozen? ⟨W0.heap.size,j,none⟩=false:=q3.fz;have HPX:Hid _:=HG2.out w3 hB3.out q3;obtain ⟨W8,hW8⟩:∃W8,set7b w3 W0.heap.size k x l=W8:=⟨_,rfl⟩;rw[hW8] at HPX;unfold set7b at hW8;clear q3))
  all_goals
   go_wp2_with fail
   go_meet
   exact ⟨_,rfl,HPX⟩
 case rest=>
  obtain ⟨vx,rfl,HX⟩:=hcut
  clear CFd CFa HG1 HG2 z1 z2 hWa c1 c2 hW0
  have x0:=HX.out.r7.c0
  have x1:=HX.out.r7.c1
  have x2:=HX.out.r7.c2
  have x3:=HX.out.r7.c3
  have x4:=HX.out.r7.c4
  have x5:=HX.out.r7.c5
  have n0:=HX.out.r0.bx.c0
  have n1:=HX.out.r0.bx.c1
  have n2:=HX.out.r0.bx.c2
  have nf:=HX.out.r0.fz
  have HD:Px w wc N vx k x:=HX.out
  have g0:=HD.r1.bx.c0
  have g1:=HD.r1.bx.c1
  have g2:=HD.r1.bx.c2
  have gf:=HD.r1.fz
  have kN:Keep (fun g=>g≠N) wc (set3 wc N k):=(Keep.refl _ _).set3 (fun q=>q rfl) k
  have r1:=HD.r1.kept kN (by show N+1≠N;omega)
  have r7:=HD.r7.kept kN (by have:=HX.out.ge;show vx≠N;omega)
  have pp2:=P2.mk2 HD.bel HD.r0 HD.r1 k x
  obtain ⟨W2,hW2⟩:∃W2,set3 wc N k=W2:=⟨_,rfl⟩
  rw[hW2] at r1 r7 pp2
  obtain ⟨W3,hW3⟩:∃W3,set3 W2 (N+1) x=W3:=⟨_,rfl⟩
  rw[hW3] at pp2
  unfold set3 at hW2 hW3
  have m0:=r1.bx.c0
  have m1:=r1.bx.c1
  have m2:=r1.bx.c2
  have mf:=r1.fz
  have y0:=r7.c0
  have y1:=r7.c1
  have y2:=r7.c2
  have y3:=r7.c3
  have y4:=r7.c4
  have y5:=r7.c5
  have HP:Hid (P2 w W3 N k x):=pp2
  clear r1 r7 kN pp2 HD
  go_wp2_with fail
  go_region
  all_goals
   go_wp2_with fail
   have v0:=HP.out.r0.c0
   have v1:=HP.out.r0.c1
   have v2:=HP.out.r0.c2
   have v3:=HP.out.r1.c0
   have v4:=HP.out.r1.c1
   have v5:=HP.out.r1.c2
   refine bodyPost_ret (v:=.tuple #[.agg #[.int .i64 k.1,.int .i64 k.2.1,.string k.2.2],.agg #[.int .i64 x.1,.int .i64 x.2.1,.string x.2.2]]) (by simp[results,Tryz.results36,go_sem,v0,v1,v2,v3,v4,v5]) rfl ⟨rfl,by first | exact HP.out.bel | exact HP.out.bel.trans (bdrew _ _ 1) | exact HP.out.bel.trans ⟨rfl,rfl,rfl,Nat.le_refl _,fun _ _=>rfl⟩⟩
end Go.Proofs.YtkmopcanaalemabGreat
