import Derived.Test.YtkmopcanaalemabGreatCg07
import Derived.Test.YtkmopcanaalemabGreatCg04
namespace Go.Proofs.YtkmopcanaalemabGreat
open Go.RowKit
theorem TT.sub {No No':Nat→Prop} {w:World} {T A b a S hb c:Nat} {t:TS} {s:H.St} (h:TT No w T A b a S hb c t s) (hn:∀g,No' g→No g):TT No' w T A b a S hb c t s:=by
 obtain ⟨vb,hp⟩:=h.hp
 exact ⟨h.tm,⟨vb,Hp.sub hp (fun g q=>q.imp (hn g) id)⟩,fun q=>h.nT (hn _ q),fun q=>h.nA (hn _ q),fun q=>h.nb (hn _ q),fun q=>h.na (hn _ q),h.ti,h.iv,h.p0,h.p1⟩
theorem TT.news {No:Nat→Prop} {w w':World} {T A b a S hb c:Nat} {t:TS} {s:H.St} (h:TT No w T A b a S hb c t s) (k:Below w.heap.size w w'):TT (fun g=>No g∨(w.heap.size≤g∧g<w'.heap.size)) w' T A b a S hb c t s:=by
 obtain ⟨vb,hp⟩:=h.hp
 have l1:=h.tm.pm.ltA
 have l2:=h.tm.pm.ltB
 have l3:=h.tm.pm.pt.lta
 have l4:=h.tm.pm.pt.ltb
 refine ⟨h.tm.below k,⟨vb,Hp.sub (Hp.news hp k) (fun g q=>?_)⟩,fun q=>q.elim h.nT (by omega),fun q=>q.elim h.nA (by omega),fun q=>q.elim h.nb (by omega),fun q=>q.elim h.na (by omega),h.ti,h.iv,h.p0,h.p1⟩
 rcases q with (q | q) | q
 ·exact .inl (.inl q)
 ·exact .inr q
 ·exact .inl (.inr q)
theorem TT.one {No:Nat→Prop} {w w':World} {T A b a S hb c:Nat} {t:TS} {s:H.St} (h:TT No w T A b a S hb c t s) {q:Pa} (hp:Pm w' T 1 A b a q t.sb t.nb) (k:Keep (fun x=>x≠A∧x≠a∧x≠b) w w') (ht:TI q):TT No w' T A b a S hb c {t with p:=q} s:=by
 obtain ⟨vb,hq⟩:=h.hp
 have e:=k.block T h.tm.pm.ltB ⟨fun e=>h.tm.pm.nAB e.symm,h.tm.pm.nBa,h.tm.pm.nBb⟩
 exact ⟨⟨hp,by rw[World.cell?_of_block (w:=w) e];exact h.tm.c0,by rw[World.cell?_of_block (w:=w) e];exact h.tm.c5,by rw[World.cell?_of_block (w:=w) e];exact h.tm.c6,fun j=>by rw[World.frozen?_of_block (w:=w) e];exact h.tm.fz j⟩,
  ⟨vb,Hp.frame hq k.os k.tape k.output k.size (fun g hg hn=>k.block g hg ⟨fun e=>hn (.inr (.inr (.inl e))),fun e=>hn (.inr (.inr (.inr (.inr e)))),fun e=>hn (.inr (.inr (.inr (.inl e))))⟩)⟩,h.nT,h.nA,h.nb,h.na,ht,h.iv,h.p0,h.p1⟩
theorem TT.probe {No:Nat→Prop} {w:World} {T A b a S hb c:Nat} {t:TS} {s:H.St} (h:TT No w T A b a S hb c t s) (r:Int) (hr0:0≤r) (hr1:r≤65536):TT No (w.setCell ⟨T,6,none⟩ (.int .i64 (t.pr+r))) T A b a S hb (c+1) {t with pr:=t.pr+r} s∧Keep No w (w.setCell ⟨T,6,none⟩ (.int .i64 (t.pr+r))):=by
 obtain ⟨vb,hq⟩:=h.hp
 have k:Keep (fun x=>x≠T) w (w.setCell ⟨T,6,none⟩ (.int .i64 (t.pr+r))):=(Keep.refl _ w).set (p:=⟨T,6,none⟩) (fun q=>q rfl) _
 have ne:∀j,6≠j→(w.setCell ⟨T,6,none⟩ (.int .i64 (t.pr+r))).cell? ⟨T,j,none⟩=w.cell? ⟨T,j,none⟩:=fun j hij=>World.cell?_setCell_other _ _ _ _ (fun q=>by injection q with _ q2;omega)
 have M:=h.tm.pm
 have eA:=k.block A M.ltA M.nAB
 have p1:=h.p1
 have p0:=h.p0
 refine ⟨⟨⟨⟨by rw[ne 1 (by omega)];exact M.c0,by rw[ne 2 (by omega)];exact M.c1,by rw[ne 3 (by omega)];exact M.c2,by rw[ne 4 (by omega)];exact M.c3,M.sl.block eA,fun j=>by rw[World.frozen?_of_block (w:=w) eA];exact M.fA j,Nat.lt_of_lt_of_le M.ltA k.size,Nat.lt_of_lt_of_le M.ltB k.size,M.pt.kept k (fun e=>M.nBb e.symm) (fun e=>M.nBa e.symm),M.nAB,M.nAb,M.nAa,M.nBb,M.nBa⟩,
  by rw[ne 0 (by omega)];exact h.tm.c0,by rw[ne 5 (by omega)];exact h.tm.c5,World.cell?_setCell_same _ _ _ h.tm.c6,fun j=>by rw[World.frozen?_setCell];exact h.tm.fz j⟩,⟨vb,(hq.sets T 6 _ (.inr (.inl rfl))).more (by omega)⟩,h.nT,h.nA,h.nb,h.na,h.ti,h.iv,by show 0≤t.pr+r;omega,by show t.pr+r≤_;omega⟩,(Keep.refl No w).set (p:=⟨T,6,none⟩) h.nT _⟩
set_option maxRecDepth 20000 in
set_option maxHeartbeats 4000000 in
theorem tset_any {No:Nat→Prop} {w:World} {T A b a S hb c:Nat} {t:TS} {s:H.St} (h:TT No w T A b a S hb c t s) (hc:c≤700000) (k v:V) (hr:Rng k):
 Calls Tryz.prog 26 #[.pointer (some ⟨T,0,none⟩),vv k,vv v] w fun e w'=>e= .returned (.int .i64 (tset t s k v).2.2)∧(∃A' b' a',TT No w' T A' b' a' S hb (c+7) (tset t s k v).1 (tset t s k v).2.1)∧Keep No w w':=by
 have C1:=check_any k.1 k.2.1 k.2.2
 have C2:=check_any v.1 v.2.1 v.2.2
 rw[chk_of] at C1 C2
 have X1:=(Bx.made w k).below (b1 _ (vb v.1 v.2.1 v.2.2))
 have X2:=Bx.made (w.alloc (vb k.1 k.2.1 k.2.2)) v
 have eX:(w.alloc (vb k.1 k.2.1 k.2.2)).heap.size=w.heap.size+1:=by simp
 rw[eX] at X2
 have B0:=b2 w (vb k.1 k.2.1 k.2.2) (vb v.1 v.2.1 v.2.2)
 obtain ⟨W0,hW0⟩:∃W0,(w.alloc (vb k.1 k.2.1 k.2.2)).alloc (vb v.1 v.2.1 v.2.2)=W0:=⟨_,rfl⟩
 rw[hW0] at X1 X2 B0
 have d0:=X1.c0
 have d1:=X1.c1
 have d2:=X1.c2
 have HX1:Hid (Bx W0 w.heap.size k):=X1
 have HX2:Hid (Bx W0 (w.heap.size+1) v):=X2
 have HB0:Hid (Below w.heap.size w W0):=B0
 have HT0:Hid (TT No W0 T A b a S hb c t s):=h.below B0
 have HTN:Hid (∀W,Below w.heap.size w W→TT (fun g=>No g∨(w.heap.size≤g∧g<W.heap.size)) W T A b a S hb c t s):=fun W hW=>h.news hW
 have HLt:Hid (T<w.heap.size∧A<w.heap.size∧b<w.heap.size∧a<w.heap.size):=⟨h.tm.pm.ltB,h.tm.pm.ltA,h.tm.pm.pt.ltb,h.tm.pm.pt.lta⟩
 clear X1 X2 B0 eX h
 obtain ⟨R,hR⟩:∃R,tset t s k v=R:=⟨_,rfl⟩
 have HR:Hid (tset t s k v=R):=hR
 rw[hR]
 clear hR
 unfold vb at hW0
 unfold vv vl
 unfold vl vb at C1 C2
 generalize hsz:w.heap.size=N at *
 have hsz2:(w.alloc (.cells #[.int .i64 k.1,.int .i64 k.2.1,.string k.2.2] 36)).heap.size=N+1:=by rw[←hsz];simp
 have HSZ:Hid (w.heap.size=N):=hsz
 have Y1:=HX2.out.below (b1 W0 (.cells #[.int .i64 k.1,.int .i64 k.2.1,.string k.2.2] 36))
 have Z1:=HX1.out.below (b2 W0 (.cells #[.int .i64 k.1,.int .i64 k.2.1,.string k.2.2] 36) (.cells #[.int .i64 v.1,.int .i64 v.2.1,.string v.2.2] 36))
 have Z2:=HX2.out.below (b2 W0 (.cells #[.int .i64 k.1,.int .i64 k.2.1,.string k.2.2] 36) (.cells #[.int .i64 v.1,.int .i64 v.2.1,.string v.2.2] 36))
 have HT1:Hid (TT No (W0.alloc (.cells #[.int .i64 k.1,.int .i64 k.2.1,.string k.2.2] 36)) T A b a S hb c t s):=HT0.out.below (b1 _ _)
 have HT2:Hid (TT No ((W0.alloc (.cells #[.int .i64 k.1,.int .i64 k.2.1,.string k.2.2] 36)).alloc (.cells #[.int .i64 v.1,.int .i64 v.2.1,.string v.2.2] 36)) T A b a S hb c t s):=HT0.out.below (b2 _ _ _)
 have HB1:Hid (Below N w (W0.alloc (.cells #[.int .i64 k.1,.int .i64 k.2.1,.string k.2.2] 36))):=bthen HB0.out (HSZ.out▸HB0.out.size) (b1 _ _)
 have HB2:Hid (Below N w ((W0.alloc (.cells #[.int .i64 k.1,.int .i64 k.2.1,.string k.2.2] 36)).alloc (.cells #[.int .i64 v.1,.int .i64 v.2.1,.string v.2.2] 36))):=bthen HB0.out (HSZ.out▸HB0.out.size) (b2 _ _ _)
 obtain ⟨W1,hW1⟩:∃W1,W0.alloc (.cells #[.int .i64 k.1,.int .i64 k.2.1,.string k.2.2] 36)=W1:=⟨_,rfl⟩
 rw[hW1] at Y1 Z1 Z2 HT1 HT2 HB1 HB2
 obtain ⟨W2,hW2⟩:∃W2,W1.alloc (.cells #[.int .i64 v.1,.int .i64 v.2.1,.string v.2.2] 36)=W2:=⟨_,rfl⟩
 rw[hW2] at Z1 Z2 HT2 HB2
 have y0:=Y1.c0
 have y1:=Y1.c1
 have y2:=Y1.c2
 have z0:=Z1.c0
 have z1:=Z1.c1
 have z2:=Z1.c2
 have u0:=Z2.c0
 have u1:=Z2.c1
 have u2:=Z2.c2
 have HZ1:Hid (Bx W2 N k):=Z1
 have HZ2:Hid (Bx W2 (N+1) v):=Z2
 clear Y1 Z1 Z2
 by_cases hf1:fm k=true
 ·rw[if_pos hf1] at C1
  by_cases hf2:fm v=true
  ·rw[if_pos hf2] at C2
   by_cases hk0:k.1=0
   ·have hkb:(k.1==0)=true:=by simp[hk0]
    have HRe:Hid (tset t s k v=(t,s,9)):=by show _=_;unfold tset;rw[if_neg (by simp[hf1,hf2]),if_pos hk0]
    clear hk0
    go_enter Tryz.func26,Tryz.ntmps26
    go_wp2_with fail
    refine (C1 _).mono ?_;rintro e w' ⟨rfl,rfl⟩
    go_wp2_with fail
    refine (C2 _).mono ?_;rintro e w' ⟨rfl,rfl⟩
    go_wp2_with fail
    go_ret
    rw[←HR.out,HRe.out]
    exact ⟨rfl,⟨A,b,a,HT2.out.more (by omega)⟩,Keep.of (HSZ.out.symm▸HB2.out)⟩
   ·have hkb:(k.1==0)=false:=by simp[hk0]
    have HKO:Hid (KOK k):=⟨hf1,hk0,hr.1,hr.2⟩
    have HTW:Hid (TT (fun g=>No g∨(N≤g∧g<W2.heap.size)) W2 T A b a S hb c t s):=HTN.out W2 HB2.out
    have HNN:Hid (N<W2.heap.size∧N+1<W2.heap.size):=⟨HZ1.out.lt,HZ2.out.lt⟩
    obtain ⟨No2,hNo2⟩:∃No2,(fun g=>No g∨(N≤g∧g<W2.heap.size))=No2:=⟨_,rfl⟩
    have HNo:Hid ((∀g,No g→No2 g)∧No2 N∧No2 (N+1)):=by
     have hl:=HNN.out
     subst hNo2
     exact ⟨fun g q=>.inl q,.inr ⟨Nat.le_refl _,hl.1⟩,.inr ⟨by omega,hl.2⟩⟩
    rw[hNo2] at HTW
    clear hNo2 HTN
    have CS:=set_any k v W2.drew (HTW.out.tm.pm.below (bdrew1 _)) HTW.out.ti.inv HTW.out.ti.rt hr HTW.out.ti.le
    have HPS:Hid (∀W',Pm W' T 1 A b a (pset t.p k v).1 t.sb t.nb→Keep (fun x=>x≠A∧x≠a∧x≠b) W2.drew W'→TT No2 W' T A b a S hb c {t with p:=(pset t.p k v).1} s∧Keep No2 W2 W'):=fun W' hp kk=>by
     have kk2:Keep (fun x=>x≠A∧x≠a∧x≠b) W2 W':=(Keep.of (bdrew1 _)).trans kk
     exact ⟨HTW.out.one hp kk2 (HTW.out.ti.set hr hf2),kk2.sub fun g q=>⟨fun e=>HTW.out.nA (e▸q),fun e=>HTW.out.na (e▸q),fun e=>HTW.out.nb (e▸q)⟩⟩
    have HRd:Hid ((pset t.p k v).2.1≤65536):=pset_rd HT2.out.ti k v
    have HFu:Hid ((pset t.p k v).2.2=12→Ask (pset t.p k v).1 k):=fun e=>(HT2.out.ti.full HKO.out e).2.2.2.2.2.2.2
    have HP0:Hid (0≤t.pr∧t.pr≤(c:Int) * 65536):=⟨HT2.out.p0,HT2.out.p1⟩
    unfold vv vl at CS
    obtain ⟨ps,hps⟩:∃ps,pset t.p k v=ps:=⟨_,rfl⟩
    rw[hps] at CS HPS HRd HFu
    have HPs:Hid (pset t.p k v=ps):=hps
    clear hps
    have HRe:Hid (tset t s k v=if (pset t.p k v).2.2≠12 then (one t k v,s,(pset t.p k v).2.2) else if (reh (one t k v) s k).2.2≠0 then reh (one t k v) s k
     else ({(reh (one t k v) s k).1 with p:=(pset (reh (one t k v) s k).1.p k v).1},(reh (one t k v) s k).2.1,(pset (reh (one t k v) s k).1.p k v).2.2)):=by
     show _=_;unfold tset;rw[if_neg (by simp[hf1,hf2]),if_neg hk0]
    clear hk0
    go_enter Tryz.func26,Tryz.ntmps26
    go_wp2_with fail
    refine (C1 _).mono ?_;rintro e w' ⟨rfl,rfl⟩
    go_wp2_with fail
    refine (C2 _).mono ?_;rintro e w' ⟨rfl,rfl⟩
    go_wp2_with fail
    go_cut [7,8] from 26 to 35 (fun rw ew wx=>rw= .int .i64 (ps.2.1:Nat)∧ew= .int .i64 ps.2.2∧Hid (TT No2 wx T A b a S hb c {t with p:=ps.1} s∧Keep No2 W2 wx))
    case first=>
     go_region_with (go_at_call 52;refine CS.mono ?_;rintro e w3 ⟨rfl,h3,k3⟩;have HX:Hid (TT No2 w3 T A b a S hb c {t with p:=ps.1} s∧Keep No2 W2 w3):=HPS.out w3 h3 k3;clear h3 k3)
     all_goals
      go_wp2_with fail
      go_meet
      exact ⟨rfl,rfl,HX⟩
    case rest=>
     obtain ⟨rfl,rfl,HX⟩:=hcut
     clear CS HPS
     have p6:=HX.out.1.tm.c6
     have f6:=HX.out.1.tm.fz 6
     have hrd:=HRd.out
     have hp0:=HP0.out
     have hwr:IntKind.i64.wrap (t.pr+(ps.2.1:Int))=t.pr+(ps.2.1:Int):=by rw[IntKind.wrap_i64];omega
     have HY:Hid _:=HX.out.1.probe (ps.2.1:Int) (by omega) (by omega)
     obtain ⟨W4,hW4⟩:∃W4,wc.setCell ⟨T,6,none⟩ (.int .i64 (t.pr+(ps.2.1:Int)))=W4:=⟨_,rfl⟩
     have HY4:Hid (TT No2 W4 T A b a S hb (c+1) (one t k v) s∧Keep No2 W2 W4):=by
      have h0:=HY.out
      rw[hW4] at h0
      have e1:one t k v={t with p:=ps.1,pr:=t.pr+(ps.2.1:Int)}:=by unfold one;rw[HPs.out]
      rw[e1]
      exact ⟨h0.1,HX.out.2.trans h0.2⟩
     have q1:=HZ1.out.kept HY4.out.2 HNo.out.2.1
     clear HY hrd hp0
     by_cases h12:ps.2.2=12
     ·have h12b:(ps.2.2 !=12)=false:=by simp[h12]
      have CR:=reh_any HY4.out.1 (by omega) k (by have:=HFu.out h12;rwa [show (one t k v).p=ps.1 by unfold one;rw[HPs.out]])
      unfold vv vl at CR
      have r0:=q1.c0
      have r1:=q1.c1
      have r2:=q1.c2
      have HRe2:Hid (tset t s k v=if (reh (one t k v) s k).2.2≠0 then reh (one t k v) s k
       else ({(reh (one t k v) s k).1 with p:=(pset (reh (one t k v) s k).1.p k v).1},(reh (one t k v) s k).2.1,(pset (reh (one t k v) s k).1.p k v).2.2)):=by
       show _=_;rw[HRe.out,HPs.out,if_neg (by simp[h12])]
      clear h12
      go_wp2_with fail
      refine CR.mono ?_;rintro e W5 ⟨rfl,⟨A5,b5,a5,h5⟩,k5⟩
      have HY5:Hid (TT No2 W5 T A5 b5 a5 S hb (c+1+6) (reh (one t k v) s k).1 (reh (one t k v) s k).2.1∧Keep No2 W2 W5):=⟨h5,HY4.out.2.trans k5⟩
      clear CR h5 k5 r0 r1 r2 q1
      generalize reh (one t k v) s k=rr at *
      by_cases hrr:rr.2.2=0
      ·have hrb:(rr.2.2 !=0)=false:=by simp[hrr]
       have HRe3:Hid _:=HRe2.out.trans (if_neg (by simpa using hrr))
       have Q1:=HZ1.out.kept HY5.out.2 HNo.out.2.1
       have Q2:=HZ2.out.kept HY5.out.2 HNo.out.2.2
       have r0:=Q1.c0
       have r1:=Q1.c1
       have r2:=Q1.c2
       have s0:=Q2.c0
       have s1:=Q2.c1
       have s2:=Q2.c2
       have CS:=set_any k v W5.drew (HY5.out.1.tm.pm.below (bdrew1 _)) HY5.out.1.ti.inv HY5.out.1.ti.rt hr HY5.out.1.ti.le
       unfold vv vl at CS
       clear Q1 Q2 hrr
       go_wp2_with fail
       have HPS:Hid (∀W',Pm W' T 1 A5 b5 a5 (pset rr.1.p k v).1 rr.1.sb rr.1.nb→Keep (fun x=>x≠A5∧x≠a5∧x≠b5) W5.drew W'→TT No2 W' T A5 b5 a5 S hb (c+1+6) {rr.1 with p:=(pset rr.1.p k v).1} rr.2.1∧Keep No2 W2 W'):=fun W' hp kk=>by
        have kk2:Keep (fun x=>x≠A5∧x≠a5∧x≠b5) W5 W':=(Keep.of (bdrew1 _)).trans kk
        exact ⟨HY5.out.1.one hp kk2 (HY5.out.1.ti.set hr hf2),HY5.out.2.trans (kk2.sub fun g q=>⟨fun e=>HY5.out.1.nA (e▸q),fun e=>HY5.out.1.na (e▸q),fun e=>HY5.out.1.nb (e▸q)⟩)⟩
       generalize pset rr.1.p k v=p2 at *
       go_cut [8] from 52 to 61 (fun ew wx=>ew= .int .i64 p2.2.2∧Hid (TT No2 wx T A5 b5 a5 S hb (c+1+6) {rr.1 with p:=p2.1} rr.2.1∧Keep No2 W2 wx))
       case first=>
        go_region_with (go_at_call 52;refine CS.mono ?_;rintro e w8 ⟨rfl,h8,k8⟩;have HX8:Hid (TT No2 w8 T A5 b5 a5 S hb (c+1+6) {rr.1 with p:=p2.1} rr.2.1∧Keep No2 W2 w8):=HPS.out w8 h8 k8;clear h8 k8)
        all_goals
         go_wp2_with fail
         go_meet
         exact ⟨rfl,HX8⟩
       case rest=>
        obtain ⟨rfl,HX9⟩:=hcut
        clear CS HPS
        go_wp2_with fail
        go_ret
        rw[←HR.out,HRe3.out]
        exact ⟨rfl,⟨A5,b5,a5,HX9.out.1.sub HNo.out.1⟩,(Keep.of (HSZ.out.symm▸HB2.out)).trans (HX9.out.2.sub HNo.out.1)⟩
      ·have hrb:(rr.2.2 !=0)=true:=by simp[hrr]
       have HRe3:Hid _:=HRe2.out.trans (if_pos hrr)
       go_wp2_with fail
       go_ret
       rw[←HR.out,HRe3.out]
       exact ⟨rfl,⟨A5,b5,a5,(HY5.out.1.sub HNo.out.1).more (by omega)⟩,(Keep.of (HSZ.out.symm▸HB2.out)).trans (HY5.out.2.sub HNo.out.1)⟩
     ·have h12b:(ps.2.2 !=12)=true:=by simp[h12]
      have HRe2:Hid (tset t s k v=(one t k v,s,ps.2.2)):=by show _=_;rw[HRe.out,HPs.out,if_pos h12]
      go_wp2_with fail
      go_ret
      rw[←HR.out,HRe2.out]
      exact ⟨rfl,⟨A,b,a,(HY4.out.1.sub HNo.out.1).more (by omega)⟩,(Keep.of (HSZ.out.symm▸HB2.out)).trans (HY4.out.2.sub HNo.out.1)⟩
  ·rw[if_neg hf2] at C2
   have HRe:Hid (tset t s k v=(t,s,2)):=by show _=_;unfold tset;rw[if_pos (by simp[hf2])]
   go_enter Tryz.func26,Tryz.ntmps26
   go_wp2_with fail
   refine (C1 _).mono ?_;rintro e w' ⟨rfl,rfl⟩
   go_wp2_with fail
   refine (C2 _).mono ?_;rintro e w' ⟨rfl,rfl⟩
   go_wp2_with fail
   go_ret
   rw[←HR.out,HRe.out]
   exact ⟨rfl,⟨A,b,a,HT2.out.more (by omega)⟩,Keep.of (HSZ.out.symm▸HB2.out)⟩
 ·rw[if_neg hf1] at C1
  have HRe:Hid (tset t s k v=(t,s,2)):=by show _=_;unfold tset;rw[if_pos (by simp[hf1])]
  go_enter Tryz.func26,Tryz.ntmps26
  go_wp2_with fail
  refine (C1 _).mono ?_;rintro e w' ⟨rfl,rfl⟩
  go_wp2_with fail
  go_ret
  rw[←HR.out,HRe.out]
  exact ⟨rfl,⟨A,b,a,HT1.out.more (by omega)⟩,Keep.of (HSZ.out.symm▸HB1.out)⟩
end Go.Proofs.YtkmopcanaalemabGreat


namespace Go.Proofs.YtkmopcanaalemabGreat
open Go.RowKit
theorem isPart_any (n:Int) (w:World):Calls Tryz.prog 42 #[.int .i64 n] w fun e w'=>e= .returned (.bool (decide (0≤n∧n≤65536)))∧w'=w:=by
 go_enter Tryz.func42,Tryz.ntmps42
 by_cases h0:0≤n
 ·by_cases h1:n≤65536
  ·have e:decide (0≤n∧n≤65536)=true:=by simp[h0,h1]
   rw[e]
   clear e
   go_wp2
   go_ret;exact ⟨by first | rfl | simp_all,rfl⟩
  ·have e:decide (0≤n∧n≤65536)=false:=by simp[h1]
   rw[e]
   clear e
   go_wp2
   go_ret;exact ⟨by first | rfl | simp_all,rfl⟩
 ·have e:decide (0≤n∧n≤65536)=false:=by simp[h0]
  rw[e]
  clear e
  go_wp2
  go_ret;exact ⟨by first | rfl | simp_all,rfl⟩
theorem tp_no {No:Nat→Prop} {w:World} {S hb c:Nat} {vb:Value} {s:H.St} (h:H.Hp No w S hb c vb s) (hc:c≤800000) (iv:H.Inv 0 s) (n z:Nat) (hz:z≤65536) (he:tpE s n z≠0):
 Calls Tryz.prog 45 #[.pointer (some ⟨S,0,none⟩),.int .i64 (n:Nat),.int .i64 (z:Nat)] w fun e w'=>e= .returned (.tuple #[zp,.int .i64 (tpE s n z)])∧(∃v',H.Hp No w' S hb (c+3) v' (tpS s n z))∧Keep No w w':=by
 unfold tpE tpS at *
 by_cases q:H.takeE s (n:Nat)=0
 ·rw[if_neg (by simpa using q)] at he
  rw[if_neg (by simpa using q),if_neg (by simpa using q),if_pos he]
  exact tp_bad2 h (by omega) iv n z hz q he
 ·rw[if_pos q,if_pos q]
  refine (tp_bad1 h (by omega) iv n z q).mono ?_
  rintro e w' ⟨rfl,⟨v',hp'⟩,kk⟩
  exact ⟨rfl,⟨v',hp'.more (by omega)⟩,kk⟩
theorem tp_inv {s:H.St} {sp:Int} (iv:H.Inv sp s) (n z:Int):H.Inv sp (tpS s n z):=by
 unfold tpS
 split
 ·exact iv
 ·split
  ·exact (iv.take n).give _
  ·exact (iv.take n).take _
set_option maxRecDepth 20000 in
set_option maxHeartbeats 2000000 in
theorem new_parts {No:Nat→Prop} {w:World} {S hb c:Nat} {vb:Value} {s:H.St} (h:H.Hp No w S hb c vb s) (hc:c≤700000) (iv:H.Inv 0 s) (x y z:Nat) (hx:x≤65536) (hy:y≤65536) (hz:C.up2 (y:Nat)=(z:Nat)) (hz2:z≤65536) (he:H.takeE s 4=0) (he2:tpE (H.takeSt s 4) x z≠0):
 Calls Tryz.prog 24 #[.pointer (some ⟨S,0,none⟩),.int .i64 (x:Nat),.int .i64 (y:Nat)] w fun e w'=>e= .returned (.tuple #[.pointer none,.int .i64 (tpE (H.takeSt s 4) x z)])∧(∃v',H.Hp No w' S hb (c+5) v' (H.giveSt (tpS (H.takeSt s 4) x z) (H.takeId s 4)))∧Keep No w w':=by
 have C1:=isPart_any (x:Nat)
 have C2:=isPart_any (y:Nat)
 rw[decide_eq_true (by omega)] at C1 C2
 have C3:=fun W=>C.ceil_any (y:Nat) W (by omega) (by omega)
 rw[hz] at C3
 have C4:=H.take_any h (by omega) iv.ok 4
 rw[he] at C4
 have iv2:=iv.take 4
 have C5:=fun W v' (h':H.Hp No W S hb (c+1) v' (H.takeSt s 4))=>tp_no h' (by omega) iv2 x z hz2 he2
 have C6:=fun W v' (h':H.Hp No W S hb (c+1+3) v' (tpS (H.takeSt s 4) x z))=>H.give_any h' (by omega) (tp_inv iv2 x z) (H.takeId s 4)
 generalize tpE (H.takeSt s 4) x z=E at *
 generalize tpS (H.takeSt s 4) x z=s3 at *
 generalize H.takeSt s 4=s2 at *
 generalize H.takeId s 4=I at *
 generalize H.giveE s3 I=E3 at *
 have heb:(E !=0)=true:=by simp[he2]
 clear h iv he he2 iv2 hz
 unfold zp at C5
 go_enter Tryz.func24,Tryz.ntmps24
 go_wp2_with fail
 refine (C1 _).mono ?_;rintro e w' ⟨rfl,hw'⟩;rw[hw'];clear hw'
 go_wp2_with fail
 refine (C2 _).mono ?_;rintro e w' ⟨rfl,hw'⟩;rw[hw'];clear hw'
 go_wp2_with fail
 refine (C3 _).mono ?_;rintro e w' ⟨rfl,hw'⟩;rw[hw'];clear hw'
 go_wp2_with fail
 refine C4.mono ?_;rintro e W1 ⟨rfl,⟨v1,hp⟩,kk⟩
 have CC:=C5 W1 v1 hp
 have HK1:Hid (Keep No w W1):=kh kk
 clear hp kk C4 C5
 go_wp2_with fail
 refine CC.mono ?_;rintro e W2 ⟨rfl,⟨v2,hp⟩,kk⟩
 have CD:=C6 (W2.alloc (.cells #[.slice none 0 0,.pointer none,.int .i64 0,.int .i64 0] 97)) v2 (hp.alloc _)
 have HK2:Hid (Keep No w (W2.alloc (.cells #[.slice none 0 0,.pointer none,.int .i64 0,.int .i64 0] 97))):=(HK1.out.trans kk).alloc _
 clear hp kk CC C6
 go_wp2_with fail
 refine CD.mono ?_;rintro e W3 ⟨rfl,hp,kk⟩
 have HP:Hid _:=hp
 have HK3:Hid (Keep No w W3):=HK2.out.trans (kh kk)
 clear hp kk CD
 go_wp2_with fail
 go_ret2
 exact ⟨rfl,HP.out,HK3.out⟩
def newT (n z:Nat) (x y:Int):TS:={p:=fresh n z,sb:=x,nb:=y,hint:=0,pr:=0}
theorem tk_tt {No:Nat→Prop} {w w' W:World} {S hb c n z Ab b a:Nat} {s:H.St} (k:Tk No w w' S hb c n z Ab b a s) (iv:H.Inv 0 s) (x y:Int) (hn:n≤65536) (hz:Rt z) (hno:∀g,No g→g<w.heap.size) (hW:Below w'.heap.size w' W) (T:Nat)
 (hT:W.heap[T]?=some (.cells #[.pointer (some ⟨S,0,none⟩),.slice (some ⟨Ab,0,none⟩) n n,.pointer (some ⟨b,0,none⟩),.int .i64 x,.int .i64 y,.int .i64 0,.int .i64 0] 99)) (hTw:w'.heap.size≤T):
 TT No W T Ab b a S hb c (newT n z x y) s∧Keep No w W:=by
 obtain ⟨v',hp⟩:=k.hp
 have g:=k.ge
 have g1:=k.ltA
 have g2:=k.pt.ltb
 have g3:=k.pt.lta
 have lT:T<W.heap.size:=(Array.getElem?_eq_some_iff.1 hT).1
 have eA:=hW.block Ab g1
 have g4:=k.keep.size
 refine ⟨⟨⟨⟨cell_of_row hT 1,cell_of_row hT 2,cell_of_row hT 3,cell_of_row hT 4,k.sl.block eA,fun j=>by rw[World.frozen?_of_block (w:=w') eA];exact k.fA j,by have:=hW.size;omega,lT,k.pt.below hW,by omega,k.nAb,k.nAa,by omega,by omega⟩,cell_of_row hT 0,cell_of_row hT 5,cell_of_row hT 6,fun j=>H.free_row hT j⟩,
  ⟨v',Hp.sub (Hp.news hp hW) (fun g q=>?_)⟩,fun q=>?_,fun q=>?_,fun q=>?_,fun q=>?_,TI.fr0 hz hn,iv,Int.le_refl _,by show (0:Int)≤_;omega⟩,k.keep.bel hW⟩
 ·rcases q with q | q | q | q | q
  ·exact .inl (.inl q)
  ·exact .inr (by omega)
  ·exact .inl (.inr (.inl q))
  ·exact .inl (.inr (.inr (.inl q)))
  ·exact .inl (.inr (.inr (.inr q)))
 ·have:=hno _ q;omega
 ·have:=hno _ q;omega
 ·have:=hno _ q;omega
 ·have:=hno _ q;omega
set_option maxRecDepth 20000 in
set_option maxHeartbeats 2000000 in
theorem new_good {No:Nat→Prop} {w:World} {S hb c:Nat} {vb:Value} {s:H.St} (h:H.Hp No w S hb c vb s) (hc:c≤700000) (iv:H.Inv 0 s) (x y z:Nat) (hx:x≤65536) (hy:y≤65536) (hz:C.up2 (y:Nat)=(z:Nat)) (hz2:Rt z) (he:H.takeE s 4=0) (he2:tpE (H.takeSt s 4) x z=0):
 Calls Tryz.prog 24 #[.pointer (some ⟨S,0,none⟩),.int .i64 (x:Nat),.int .i64 (y:Nat)] w fun e w'=>∃T A b a,e= .returned (.tuple #[.pointer (some ⟨T,0,none⟩),.int .i64 0])∧TT No w' T A b a S hb (c+3) (newT x z (H.takeId (H.takeSt s 4) (x:Nat)) (H.takeId (H.takeSt (H.takeSt s 4) (x:Nat)) (3 * (z:Nat)))) (tpS (H.takeSt s 4) x z)∧Keep No w w':=by
 have C1:=isPart_any (x:Nat)
 have C2:=isPart_any (y:Nat)
 rw[decide_eq_true (by omega)] at C1 C2
 have C3:=fun W=>C.ceil_any (y:Nat) W (by omega) (by omega)
 rw[hz] at C3
 have C4:=H.take_any h (by omega) iv.ok 4
 rw[he] at C4
 have iv2:=iv.take 4
 have e1:H.takeE (H.takeSt s 4) (x:Nat)=0:=by
  unfold tpE at he2
  by_cases q:H.takeE (H.takeSt s 4) (x:Nat)=0
  ·exact q
  ·rw[if_pos q] at he2;exact he2
 have e2:H.takeE (H.takeSt (H.takeSt s 4) (x:Nat)) (3 * (z:Nat))=0:=by unfold tpE at he2;rwa [if_neg (by simpa using e1)] at he2
 have e3:tpS (H.takeSt s 4) x z=H.takeSt (H.takeSt (H.takeSt s 4) (x:Nat)) (3 * (z:Nat)):=by unfold tpS;rw[if_neg (by simpa using e1),if_neg (by simpa using e2)]
 rw[e3]
 have C5:=fun W v' (h':H.Hp No W S hb (c+1) v' (H.takeSt s 4))=>tp_good h' (by omega) iv2 x z hx hz2 e1 e2
 have HIv:Hid (H.Inv 0 (H.takeSt (H.takeSt (H.takeSt s 4) (x:Nat)) (3 * (z:Nat)))):=(iv2.take _).take _
 have HNo:Hid (∀g,No g→g<w.heap.size):=h.nos
 have HZ:Hid (Rt z):=hz2
 generalize H.takeSt (H.takeSt (H.takeSt s 4) (x:Nat)) (3 * (z:Nat))=s4 at *
 generalize H.takeId (H.takeSt (H.takeSt s 4) (x:Nat)) (3 * (z:Nat))=i2 at *
 generalize H.takeId (H.takeSt s 4) (x:Nat)=i1 at *
 generalize H.takeSt s 4=s2 at *
 generalize H.takeId s 4=I at *
 clear h iv he he2 iv2 hz e1 e2 e3 hz2
 unfold pv at C5
 go_enter Tryz.func24,Tryz.ntmps24
 go_wp2_with fail
 refine (C1 _).mono ?_;rintro e w' ⟨rfl,hw'⟩;rw[hw'];clear hw'
 go_wp2_with fail
 refine (C2 _).mono ?_;rintro e w' ⟨rfl,hw'⟩;rw[hw'];clear hw'
 go_wp2_with fail
 refine (C3 _).mono ?_;rintro e w' ⟨rfl,hw'⟩;rw[hw'];clear hw'
 go_wp2_with fail
 refine C4.mono ?_;rintro e W1 ⟨rfl,⟨v1,hp⟩,kk⟩
 have CC:=C5 W1 v1 hp
 have HK1:Hid (Keep No w W1):=kh kk
 clear hp kk C4 C5
 go_wp2_with fail
 refine CC.mono ?_;rintro e W2 ⟨Ab,b,a,rfl,k2⟩
 have HK2:Hid _:=k2
 clear CC k2
 go_wp2_with fail
 go_ret2
 obtain ⟨h1,h2⟩:=tk_tt HK2.out HIv.out i1 i2 hx HZ.out (fun g q=>Nat.lt_of_lt_of_le (HNo.out g q) HK1.out.size) (b2 _ _ _) (W2.heap.size+1) (by
  have:=(MapKept.heap_alloc (W2.alloc (.cells #[.slice (some ⟨Ab,0,none⟩) x x,.pointer (some ⟨b,0,none⟩),.int .i64 i1,.int .i64 i2] 97)) (.cells #[.pointer (some ⟨S,0,none⟩),.slice (some ⟨Ab,0,none⟩) x x,.pointer (some ⟨b,0,none⟩),.int .i64 i1,.int .i64 i2,.int .i64 0,.int .i64 0] 99)).1
  simpa using this) (by omega)
 exact ⟨_,Ab,b,a,rfl,h1,HK1.out.trans h2⟩
end Go.Proofs.YtkmopcanaalemabGreat


namespace Go.Proofs.YtkmopcanaalemabGreat
open Go.RowKit
abbrev tp (T : Nat) : Value:=.pointer (some ⟨T,0,none⟩)
set_option maxRecDepth 20000 in
set_option maxHeartbeats 2000000 in
theorem probes_any {w : World} {T A b a S : Nat} {t : TS} (h : Tm w T A b a S t) : Calls Tryz.prog 32 #[tp T] w fun e w'=>e = .returned (.int .i64 t.pr) ∧ w' = w:=by
  have c:=h.c6
  clear h
  go_enter Tryz.func32,Tryz.ntmps32
  go_wp2
  go_ret;exact ⟨rfl,rfl⟩
abbrev sv (x y u v : Int) : Value:=.agg #[.int .i64 x,.int .i64 y,.int .i64 u,.int .i64 v]
abbrev ts (t : TS) : Value:=sv (t.p.n : Nat) (t.p.z : Nat) (t.p.g.f : Nat) t.hint
set_option maxRecDepth 20000 in
set_option maxHeartbeats 2000000 in
theorem stats_any {w : World} {T A b a S : Nat} {t : TS} (h : Tm w T A b a S t) : Calls Tryz.prog 33 #[tp T] w fun e w'=>e = .returned (ts t) ∧ Below w.heap.size w w':=by
  have R:=R4.made w (.int .i64 0) (.int .i64 0) (.int .i64 0) (.int .i64 0) 90
  have B0:=b1 w (.cells #[.int .i64 0,.int .i64 0,.int .i64 0,.int .i64 0] 90)
  obtain ⟨W0,hW0⟩ : ∃ W0,w.alloc (.cells #[.int .i64 0,.int .i64 0,.int .i64 0,.int .i64 0] 90) = W0:=⟨_,rfl⟩
  rw [hW0] at R B0
  have h0:=h.below B0
  have c1 : W0.cell? ⟨T,1,none⟩ = some (.slice (some ⟨A,0,none⟩) t.p.n t.p.n):=h0.pm.c0
  have c2 : W0.cell? ⟨T,2,none⟩ = some (.pointer (some ⟨b,0,none⟩)):=h0.pm.c1
  have c5:=h0.c5
  have CS : ∀ m,Calls Tryz.prog 73 #[pp b] (W0.drewN m) fun e w'=>e = .returned (.int .i64 (t.p.z : Nat)) ∧ w' = W0.drewN m:=fun m=>size_any _ (h0.pm.pt.below (bdrew _ _ m))
  have CF : ∀ m,Calls Tryz.prog 74 #[pp b] (W0.drewN m) fun e w'=>e = .returned (.int .i64 (t.p.g.f : Nat)) ∧ w' = W0.drewN m:=fun m=>free_any _ (h0.pm.pt.below (bdrew _ _ m))
  have HR : Hid (R4 W0 w.heap.size (.int .i64 0) (.int .i64 0) (.int .i64 0) (.int .i64 0)):=R
  have HB : Hid (Below w.heap.size w W0):=B0
  unfold pp at CS CF
  unfold ts sv tp
  generalize t.hint = hh at *
  generalize t.p.g.f = ff at *
  generalize t.p.n = nn at *
  generalize t.p.z = zz at *
  have r0:=R.c0
  have r1:=R.c1
  have r2:=R.c2
  have r3:=R.c3
  have rf:=R.fz
  generalize hsz : w.heap.size = N at *
  have HSZ : Hid (w.heap.size = N):=hsz
  have R2 : Hid _:=R.set (.int .i64 (nn : Nat)) (.int .i64 (zz : Nat)) (.int .i64 (ff : Nat)) (.int .i64 hh)
  have K2 : Hid _:=Keep.set4 (Keep.of (No:=fun g=>g < N) (HSZ.out.symm ▸ HB.out)) (N:=N) (Nat.lt_irrefl _) (.int .i64 (nn : Nat)) (.int .i64 (zz : Nat)) (.int .i64 (ff : Nat)) (.int .i64 hh)
  obtain ⟨W1,hW1⟩ : ∃ W1,set4 W0 N (.int .i64 (nn : Nat)) (.int .i64 (zz : Nat)) (.int .i64 (ff : Nat)) (.int .i64 hh) = W1:=⟨_,rfl⟩
  rw [hW1] at R2 K2
  unfold set4 at hW1
  clear h h0 B0 R
  go_enter Tryz.func33,Tryz.ntmps33
  go_wp2_with fail
  refine wp_tail 23 (by kernel_rfl) (by kernel_rfl) ?_
  simp only [List.take_succ_cons,List.take_zero,List.drop_succ_cons,List.drop_zero]
  repeat (first | still_step | still_call (CS 1) | still_call (CF 1))
  refine wpStill_nil ?_
  go_wp2_with fail
  have R3:=R2.out
  have t0:=R3.c0
  have t1:=R3.c1
  have t2:=R3.c2
  have t3:=R3.c3
  clear R3
  refine bodyPost_ret (v:=.agg #[.int .i64 (nn : Nat),.int .i64 (zz : Nat),.int .i64 (ff : Nat),.int .i64 hh]) (by simp [results,Tryz.results33,go_sem,t0,t1,t2,t3]) rfl ⟨rfl,?_⟩
  exact (K2.out.below (by have:=HSZ.out;omega) (fun g hg=>hg)).trans (bdrew _ _ 1)
def plc (p : Pa) (k : V) : Int:=if inA p.n k then k.2.1 else match (fnd p.z p.g k).1 with
  | none=>0
  | some i=>(p.n : Int) + 1 + i
end Go.Proofs.YtkmopcanaalemabGreat


namespace Go.Proofs.YtkmopcanaalemabGreat
open Go.RowKit
structure R3 (w:World) (N:Nat) (x:V):Prop where
 bx:Bx w N x
 fz:∀j,w.frozen? ⟨N,j,none⟩=false
abbrev set3 (w:World) (N:Nat) (x:V):World:=((w.setCell ⟨N,0,none⟩ (.int .i64 x.1)).setCell ⟨N,1,none⟩ (.int .i64 x.2.1)).setCell ⟨N,2,none⟩ (.string x.2.2)
theorem R3.kept {No:Nat→Prop} {w w':World} {N:Nat} {x:V} (h:R3 w N x) (k:Keep No w w') (hn:No N):R3 w' N x:=
 ⟨h.bx.kept k hn,fun j=>by rw[World.frozen?_of_block (w:=w) (k.block N h.bx.lt hn)];exact h.fz j⟩
theorem R3.below {w w':World} {N:Nat} {x:V} (h:R3 w N x) (k:Below w.heap.size w w'):R3 w' N x:=h.kept (No:=fun _=>True) (Keep.of k) trivial
theorem R3.made (w:World) (x:V):R3 (w.alloc (vb x.1 x.2.1 x.2.2)) w.heap.size x:=⟨Bx.made w x,fun j=>new_free w _ _ j⟩
theorem R3.set {w:World} {N:Nat} {y:V} (h:R3 w N y) (x:V):R3 (set3 w N x) N x:=by
 have ne:∀(i j:Nat) (W:World) (v:Value),i≠j→(W.setCell ⟨N,i,none⟩ v).cell? ⟨N,j,none⟩=W.cell? ⟨N,j,none⟩:=fun i j W v hij=>World.cell?_setCell_other _ _ _ _ (fun q=>by injection q with _ q2;omega)
 have hm:=h.bx
 refine ⟨⟨?_,?_,?_,by simpa [World.setCell] using hm.lt⟩,fun j=>by simpa using h.fz j⟩
 ·rw[ne 2 0 _ _ (by omega),ne 1 0 _ _ (by omega)];exact World.cell?_setCell_same _ _ _ hm.c0
 ·rw[ne 2 1 _ _ (by omega)];exact World.cell?_setCell_same _ _ _ (by rw[ne 0 1 _ _ (by omega)];exact hm.c1)
 ·exact World.cell?_setCell_same _ _ _ (by rw[ne 1 2 _ _ (by omega),ne 0 2 _ _ (by omega)];exact hm.c2)
theorem Keep.set3 {No:Nat→Prop} {w w1:World} (h:Keep No w w1) {N:Nat} (hN:¬No N) (x:V):Keep No w (set3 w1 N x):=
 ((h.set (p:=⟨N,0,none⟩) hN _).set (p:=⟨N,1,none⟩) hN _).set (p:=⟨N,2,none⟩) hN _
theorem TT.set3 {No:Nat→Prop} {w:World} {T A b a S hb c:Nat} {t:TS} {s:H.St} (h:TT No w T A b a S hb c t s) {N:Nat} (hN:No N) (x:V):TT No (Proofs.YtkmopcanaalemabGreat.set3 w N x) T A b a S hb c t s:=by
 obtain ⟨vb,hp⟩:=h.hp
 have k:Keep (fun g=>g≠N) w (Proofs.YtkmopcanaalemabGreat.set3 w N x):=(Keep.refl _ w).set3 (fun q=>q rfl) x
 exact ⟨h.tm.kept k (fun e=>h.nT (e▸hN)) (fun e=>h.nA (e▸hN)) (fun e=>h.nb (e▸hN)) (fun e=>h.na (e▸hN)),⟨vb,((hp.sets N 0 _ (.inl hN)).sets N 1 _ (.inl hN)).sets N 2 _ (.inl hN)⟩,h.nT,h.nA,h.nb,h.na,h.ti,h.iv,h.p0,h.p1⟩
structure Gx (No No2:Nat→Prop) (w W:World) (N M vx T A b a S hb c:Nat) (t:TS) (s:H.St) (xv:V):Prop where
 tt:TT No2 W T A b a S hb c t s
 keep:Keep No w W
 r3:R3 W (N+1) nil
 bx:Bx W vx xv
 ge:M≤vx
set_option maxRecDepth 20000 in
set_option maxHeartbeats 4000000 in
theorem tget_any {No:Nat→Prop} {w:World} {T A b a S hb c:Nat} {t:TS} {s:H.St} (h:TT No w T A b a S hb c t s) (hc:c≤900000) (k:V) (hr:Rng k):
 Calls Tryz.prog 20 #[tp T,vv k] w fun e w'=>e= .returned (vv (pget t.p k))∧TT No w' T A b a S hb (c+1) {t with pr:=t.pr+(prd t.p k:Nat)} s∧Keep No w w':=by
 have X:=(Bx.made w k).below (b1 _ (vb 0 0 ⟨#[]⟩))
 have R:=R3.made (w.alloc (vb k.1 k.2.1 k.2.2)) nil
 have eX:(w.alloc (vb k.1 k.2.1 k.2.2)).heap.size=w.heap.size+1:=by simp
 rw[eX] at R
 have B0:=b2 w (vb k.1 k.2.1 k.2.2) (vb 0 0 ⟨#[]⟩)
 have R':R3 ((w.alloc (vb k.1 k.2.1 k.2.2)).alloc (vb 0 0 ⟨#[]⟩)) (w.heap.size+1) nil:=R
 obtain ⟨W0,hW0⟩:∃W0,(w.alloc (vb k.1 k.2.1 k.2.2)).alloc (vb 0 0 ⟨#[]⟩)=W0:=⟨_,rfl⟩
 rw[hW0] at X B0 R'
 have h0:=h.news B0
 obtain ⟨No2,hNo2⟩:∃No2,(fun g=>No g∨(w.heap.size≤g∧g<W0.heap.size))=No2:=⟨_,rfl⟩
 have HNo:Hid ((∀g,No g→No2 g)∧No2 w.heap.size∧No2 (w.heap.size+1)):=by
  have h1:=X.lt
  have h2:=R'.bx.lt
  subst hNo2
  exact ⟨fun g q=>.inl q,.inr ⟨Nat.le_refl _,h1⟩,.inr ⟨by omega,h2⟩⟩
 have HNN:Hid (¬No (w.heap.size+1)):=fun q=>by
  obtain ⟨vb,hp⟩:=h.hp
  have:=hp.nos _ (.inl q);omega
 rw[hNo2] at h0
 clear hNo2
 have C1:=slot_any k W0.drew (h0.tm.pm.below (bdrew1 _))
 have HT:Hid (TT No2 W0 T A b a S hb c t s):=h0
 have HX:Hid (Bx W0 w.heap.size k):=X
 have HRr:Hid (R3 W0 (w.heap.size+1) nil):=R'
 have HB:Hid (Keep No w W0):=Keep.of B0
 have x0:=X.c0
 have x1:=X.c1
 have x2:=X.c2
 unfold vb at hW0
 unfold vv vl tp at *
 generalize hsz:w.heap.size=N at *
 have hsz2:(w.alloc (.cells #[.int .i64 k.1,.int .i64 k.2.1,.string k.2.2] 36)).heap.size=N+1:=by rw[←hsz];simp
 have hpn:=h.ti.le
 clear X B0 h0 h R R' eX
 by_cases hA:inA t.p.n k
 ·obtain ⟨es,hix⟩:=slot_in hA
  have HE:Hid (pget t.p k=t.p.F (ix k)∧prd t.p k=0):=by
   constructor
   ·unfold pget;rw[if_pos hA]
   ·unfold prd;rw[if_pos hA]
  rw[es] at C1
  rw[HE.out.1,HE.out.2]
  clear es hA
  generalize ix k=i at *
  have hi0:¬((i:Int)+1≤0):=by omega
  go_enter Tryz.func20,Tryz.ntmps20
  go_wp2_with fail
  refine wp_tail 4 (by kernel_rfl) (by kernel_rfl) ?_
  simp only[List.take_succ_cons,List.take_zero,List.drop_succ_cons,List.drop_zero]
  repeat still_step
  refine wpStill_nil ?_
  go_wp2_with fail
  refine C1.mono ?_;rintro e W1 ⟨rfl,hb1'⟩
  have hb1:Below W0.heap.size W0 W1:=bthen (bdrew1 W0) (Nat.le_refl _) hb1'
  clear hb1'
  have T1:=HT.out.below hb1
  have R1:=HRr.out.below hb1
  obtain ⟨a0,a1,a2⟩:=T1.tm.pm.sl.at hix
  have c1:W1.cell? ⟨T,1,none⟩=some (.slice (some ⟨A,0,none⟩) t.p.n t.p.n):=T1.tm.pm.c0
  have HK1:Hid (Keep No w W1):=HB.out.bel hb1
  obtain ⟨xv,hxv⟩:∃xv,t.p.F i=xv:=⟨_,rfl⟩
  have HXV:Hid (t.p.F i=xv):=hxv
  rw[hxv] at a0 a1 a2
  clear hxv
  have HT3:Hid _:=T1.set3 HNo.out.2.2 xv
  have HR3:Hid _:=R1.set xv
  have HK3:Hid _:=HK1.out.set3 HNN.out xv
  obtain ⟨W3,hW3⟩:∃W3,set3 W1 (N+1) xv=W3:=⟨_,rfl⟩
  rw[hW3] at HT3 HR3 HK3
  unfold set3 at hW3
  have n0:=R1.bx.c0
  have n1:=R1.bx.c1
  have n2:=R1.bx.c2
  have nf:=R1.fz
  have hw:IntKind.i64.wrap ((i:Int)+1 - 1)=i:=by rw[IntKind.wrap_i64];omega
  have hin:(i:Int)<(t.p.n:Int):=by omega
  have hi1:¬((i:Int)<0):=by omega
  clear C1 hb1 T1 R1
  go_wp2_with fail
  have R5:=HR3.out.bx
  have r0:=R5.c0
  have r1:=R5.c1
  have r2:=R5.c2
  clear R5
  refine bodyPost_ret (v:=.agg #[.int .i64 xv.1,.int .i64 xv.2.1,.string xv.2.2]) (by simp[results,Tryz.results20,go_sem,r0,r1,r2]) rfl ⟨by rw[HXV.out],?_,HK3.out⟩
  have e0:({t with pr:=t.pr+((0:Nat):Int)}:TS)=t:=by simp
  rw[e0]
  exact (HT3.out.sub HNo.out.1).more (by omega)
 ·have es:=slot_out hA
  rw[es] at C1
  have HE:Hid (pget t.p k=xAt t.p.g (fnd t.p.z t.p.g k).1∧prd t.p k=(fnd t.p.z t.p.g k).2):=by
   constructor
   ·unfold pget mg;rw[if_neg hA]
   ·unfold prd;rw[if_neg hA]
  rw[HE.out.1,HE.out.2]
  have CF:=fun W (hW:Pt W b a t.p.z t.p.g)=>get_any k W hW HT.out.ti.inv HT.out.ti.rt hr
  have HRd:Hid ((fnd t.p.z t.p.g k).2≤65536):=by have:=fnd_le (k:=k) HT.out.ti.inv HT.out.ti.rt;have:=HT.out.ti.rt.le;show _≤_;omega
  clear es hA HE
  unfold pp vl at CF
  generalize xAt t.p.g (fnd t.p.z t.p.g k).1=xv at *
  generalize (fnd t.p.z t.p.g k).2=nn at *
  go_enter Tryz.func20,Tryz.ntmps20
  go_wp2_with fail
  refine wp_tail 4 (by kernel_rfl) (by kernel_rfl) ?_
  simp only[List.take_succ_cons,List.take_zero,List.drop_succ_cons,List.drop_zero]
  repeat still_step
  refine wpStill_nil ?_
  go_wp2_with fail
  refine C1.mono ?_;rintro e W1 ⟨rfl,hb1'⟩
  have hb1:Below W0.heap.size W0 W1:=bthen (bdrew1 W0) (Nat.le_refl _) hb1'
  clear hb1'
  have HT1:Hid (TT No2 W1 T A b a S hb c t s):=HT.out.below hb1
  have HR1:Hid (R3 W1 (N+1) nil):=HRr.out.below hb1
  have HK1:Hid (Keep No w W1):=HB.out.bel hb1
  have X1:=HX.out.below hb1
  have y0:=X1.c0
  have y1:=X1.c1
  have y2:=X1.c2
  have c2:W1.cell? ⟨T,2,none⟩=some (.pointer (some ⟨b,0,none⟩)):=HT1.out.tm.pm.c1
  have CF1:∀W,Below W1.heap.size W1 W→Calls Tryz.prog 41 #[.pointer (some ⟨b,0,none⟩),.agg #[.int .i64 k.1,.int .i64 k.2.1,.string k.2.2]] W fun e w'=>e= .returned (.tuple #[.agg #[.int .i64 xv.1,.int .i64 xv.2.1,.string xv.2.2],.int .i64 (nn:Nat)])∧Below W.heap.size W w'∧Hid (Below W1.heap.size W1 w'):=fun W hW=>
   (CF W (HT1.out.tm.pm.pt.below hW)).mono fun _ _ hh=>⟨hh.1,hh.2,bthen hW hW.size hh.2⟩
  have HF1:Hid (∀w3,Below W1.heap.size W1 w3→Gx No No2 w (w3.alloc (.cells #[.int .i64 xv.1,.int .i64 xv.2.1,.string xv.2.2] 36)) N W1.heap.size w3.heap.size T A b a S hb c t s xv):=fun w3 b3=>
   ⟨HT1.out.below (bthen b3 b3.size (b1 _ _)),HK1.out.bel (bthen b3 b3.size (b1 _ _)),HR1.out.below (bthen b3 b3.size (b1 _ _)),Bx.made w3 xv,b3.size⟩
  have HF2:Hid (∀w3,Below W1.heap.size W1 w3→R3 w3 W1.heap.size nil→Gx No No2 w (set3 w3 W1.heap.size xv) N W1.heap.size W1.heap.size T A b a S hb c t s xv):=fun w3 b3 r3=>by
   have bb:Below W1.heap.size W1 (set3 w3 W1.heap.size xv):=((b3.setCell (Nat.le_refl _) _).setCell (Nat.le_refl _) _).setCell (Nat.le_refl _) _
   exact ⟨HT1.out.below bb,HK1.out.bel bb,HR1.out.below bb,(r3.set xv).bx,Nat.le_refl _⟩
  have BA:=bthen (bdrew1 W1) (Nat.le_refl _) (b1 W1.drew (.cells #[.int .i64 0,.int .i64 0,.string ⟨#[]⟩] 36))
  have RA:R3 (W1.drew.alloc (.cells #[.int .i64 0,.int .i64 0,.string ⟨#[]⟩] 36)) W1.heap.size nil:=R3.made W1.drew nil
  obtain ⟨Wa,hWa⟩:∃Wa,W1.drew.alloc (.cells #[.int .i64 0,.int .i64 0,.string ⟨#[]⟩] 36)=Wa:=⟨_,rfl⟩
  rw[hWa] at BA RA
  have Z1:=X1.below BA
  have z0:=Z1.c0
  have z1:=Z1.c1
  have z2:=Z1.c2
  have z3:Wa.cell? ⟨T,2,none⟩=some (.pointer (some ⟨b,0,none⟩)):=(HT1.out.below BA).tm.pm.c1
  have CFd:=(CF1 W1.drew (bdrew1 _)).mono (R':=fun e w'=>e= .returned (.tuple #[.agg #[.int .i64 xv.1,.int .i64 xv.2.1,.string xv.2.2],.int .i64 (nn:Nat)])∧Hid (Below W1.heap.size W1 w')) fun _ _ hh=>⟨hh.1,hh.2.2⟩
  have CFa:=(CF1 Wa BA).mono (R':=fun e w'=>e= .returned (.tuple #[.agg #[.int .i64 xv.1,.int .i64 xv.2.1,.string xv.2.2],.int .i64 (nn:Nat)])∧Hid (Below W1.heap.size W1 w')∧R3 w' W1.heap.size nil) fun _ _ hh=>⟨hh.1,hh.2.2,RA.below hh.2.1⟩
  clear CF1 BA RA
  clear C1 hb1 X1 x0 x1 x2 CF Z1
  go_wp2_with fail
  go_cut [6,7] from 27 to 37 (fun bw rw wx=>∃vx:Nat,bw= .pointer (some ⟨vx,0,none⟩)∧rw= .int .i64 (nn:Nat)∧Hid (Gx No No2 w wx N W1.heap.size vx T A b a S hb c t s xv))
  case first=>
   go_region_with (first
    | (go_at_call 41;refine CFd.mono ?_;rintro e w3 ⟨rfl,hB3⟩)
    | (go_at_call 41;refine CFa.mono ?_;rintro e w3 ⟨rfl,hB3,q3⟩;have q0:w3.cell? ⟨W1.heap.size,0,none⟩=some (.int .i64 0):=q3.bx.c0;have q1:w3.cell? ⟨W1.heap.size,1,none⟩=some (.int .i64 0):=q3.bx.c1;have q2:w3.cell? ⟨W1.heap.size,2,none⟩=some (.string ⟨#[]⟩):=q3.bx.c2;have qf:∀j,w3.frozen? ⟨W1.heap.size,j,none⟩=false:=q3.fz;have HQ:Hid (R3 w3 W1.heap.size nil):=q3;clear q3))
   all_goals
    go_wp2_with fail
    go_meet
    first | exact ⟨w3.heap.size,rfl,rfl,HF1.out w3 hB3.out⟩ | exact ⟨W1.heap.size,rfl,rfl,HF2.out w3 hB3.out HQ.out⟩
  case rest=>
   obtain ⟨vx,rfl,rfl,HG⟩:=hcut
   clear CFd CFa HF1 HF2 z0 z1 z2 z3 hWa y0 y1 y2 c2
   have p6:=HG.out.tt.tm.c6
   have f6:=HG.out.tt.tm.fz 6
   have hrd:=HRd.out
   have hp0:=HG.out.tt.p0
   have hp1:=HG.out.tt.p1
   have hwr:IntKind.i64.wrap (t.pr+(nn:Int))=t.pr+(nn:Int):=by rw[IntKind.wrap_i64];omega
   have HY:Hid _:=HG.out.tt.probe (nn:Int) (by omega) (by omega)
   have hTl:T<W1.heap.size:=HT1.out.tm.pm.ltB
   have kT:Keep (fun x=>x≠T) wc (wc.setCell ⟨T,6,none⟩ (.int .i64 (t.pr+(nn:Int)))):=(Keep.refl _ wc).set (p:=⟨T,6,none⟩) (fun q=>q rfl) _
   have V4:Bx (wc.setCell ⟨T,6,none⟩ (.int .i64 (t.pr+(nn:Int)))) vx xv:=HG.out.bx.kept kT (by have:=HG.out.ge;show vx≠T;omega)
   have R4':R3 (wc.setCell ⟨T,6,none⟩ (.int .i64 (t.pr+(nn:Int)))) (N+1) nil:=HG.out.r3.kept kT (by show N+1≠T;exact fun e=>HT1.out.nT (e▸HNo.out.2.2))
   obtain ⟨W4,hW4⟩:∃W4,wc.setCell ⟨T,6,none⟩ (.int .i64 (t.pr+(nn:Int)))=W4:=⟨_,rfl⟩
   rw[hW4] at HY V4 R4'
   have hnoT:¬No T:=fun q=>HT1.out.nT (HNo.out.1 _ q)
   have HK4:Hid (Keep No w W4):=by rw[←hW4];exact HG.out.keep.set (p:=⟨T,6,none⟩) hnoT _
   have v0:=V4.c0
   have v1:=V4.c1
   have v2:=V4.c2
   have n0:=R4'.bx.c0
   have n1:=R4'.bx.c1
   have n2:=R4'.bx.c2
   have nf:=R4'.fz
   have HT5:Hid _:=HY.out.1.set3 HNo.out.2.2 xv
   have HR5:Hid _:=R4'.set xv
   have HK5:Hid _:=HK4.out.set3 HNN.out xv
   obtain ⟨W5,hW5⟩:∃W5,set3 W4 (N+1) xv=W5:=⟨_,rfl⟩
   rw[hW5] at HT5 HR5 HK5
   unfold set3 at hW5
   clear V4 R4' kT HY hrd hp0 hp1 hTl hnoT
   go_wp2_with fail
   have R5:=HR5.out.bx
   have r0:=R5.c0
   have r1:=R5.c1
   have r2:=R5.c2
   clear R5
   refine bodyPost_ret (v:=.agg #[.int .i64 xv.1,.int .i64 xv.2.1,.string xv.2.2]) (by simp[results,Tryz.results20,go_sem,r0,r1,r2]) rfl ⟨rfl,HT5.out.sub HNo.out.1,HK5.out⟩
end Go.Proofs.YtkmopcanaalemabGreat


namespace Go.Proofs.YtkmopcanaalemabGreat
open Go.RowKit
def scl (T : Nat) (wv : Value) (s : SS) : Array Value :=
  #[.pointer (some ⟨T,0,none⟩),.int .i64 s.lo,.int .i64 s.up,wv,.int .i64 s.ak,.int .i64 s.p,.int .i64 s.i,.int .i64 s.j,.int .i64 s.x.1,.int .i64 s.x.2.1,.string s.x.2.2,.int .i64 s.y.1,.int .i64 s.y.2.1,.string s.y.2.2,.int .i64 s.pv.1,.int .i64 s.pv.2.1,.string s.pv.2.2,.int .i64 s.er]
def rws (l : List (Int × Int)) : List Value:=l.flatMap fun r=>[.int .i64 r.1,.int .i64 r.2]
def Nq (No : Nat → Prop) (B : Nat) (wv : Value) : Nat → Prop:=fun g=>No g ∨ g = B ∨ wv.ownBlock = some g
structure So (No : Nat → Prop) (w : World) (B : Nat) (wv : Value) (T A b a S hb c : Nat) (d : SD) : Prop where
  blk : w.heap[B]? = some (.cells (scl T wv d.1) 73 (0,0))
  row : w.ownsRow (B + 1) 70 2 wv d.1.wt.length (rws d.1.wt.reverse)
  tt : TT (Nq No B wv) w T A b a S hb c d.2.1 d.2.2
  nB : ¬ No B
  nW : ∀ g,wv.ownBlock = some g → ¬ No g
theorem So.lt {No : Nat → Prop} {w : World} {B : Nat} {wv : Value} {T A b a S hb c : Nat} {d : SD} (h : So No w B wv T A b a S hb c d) : B < w.heap.size:=(Array.getElem?_eq_some_iff.1 h.blk).1
theorem So.cell {No : Nat → Prop} {w : World} {B : Nat} {wv : Value} {T A b a S hb c : Nat} {d : SD} (h : So No w B wv T A b a S hb c d) {j : Nat} {v : Value} (hj : (scl T wv d.1)[j]? = some v) : w.cell? ⟨B,j,none⟩ = some v:=by
  simp only [World.cell?,h.blk]
  simpa using hj
theorem So.free {No : Nat → Prop} {w : World} {B : Nat} {wv : Value} {T A b a S hb c : Nat} {d : SD} (h : So No w B wv T A b a S hb c d) (j : Nat) : w.frozen? ⟨B,j,none⟩ = false:=by
  simp [World.frozen?,h.blk]
theorem So.via {No : Nat → Prop} {w w' : World} {B : Nat} {wv : Value} {T A b a S hb c : Nat} {d : SD} (h : So No w B wv T A b a S hb c d) (k : Keep (Nq No B wv) w w') {A' b' a' c' : Nat} {t : TS} {s : H.St} (ht : TT (Nq No B wv) w' T A' b' a' S hb c' t s) : So No w' B wv T A' b' a' S hb c' (d.1,t,s):=by
  refine ⟨(k.block B h.lt (.inr (.inl rfl))).trans h.blk,?_,ht,h.nB,h.nW⟩
  have hlt:=h.row.lt
  refine ⟨h.row.1,?_⟩
  rcases h.row.2 with h2 | ⟨g,cap,cur,e,h2,h3,r⟩
  · exact .inl h2
  · exact .inr ⟨g,cap,cur,e,h2,(k.block g (hlt g (by rw [e];rfl)).2 (.inr (.inr (by rw [e];rfl)))).trans h3,r⟩
theorem So.below {No : Nat → Prop} {w w' : World} {B : Nat} {wv : Value} {T A b a S hb c : Nat} {d : SD} (h : So No w B wv T A b a S hb c d) (k : Below w.heap.size w w') : So No w' B wv T A b a S hb c d:=h.via (Keep.of k) (h.tt.below k)
theorem rng_kn {n : Int} (h1 : -9223372036854775808 ≤ n) (h2 : n ≤ 9223372036854775807) : Rng (kn n):=⟨h1,h2⟩
set_option maxRecDepth 20000 in
set_option maxHeartbeats 2000000 in
theorem read_any {No : Nat → Prop} {w : World} {B : Nat} {wv : Value} {T A b a S hb c : Nat} {d : SD} (h : So No w B wv T A b a S hb c d) (hc : c ≤ 900000) (n : Int) (h1 : -9223372036854775808 ≤ n) (h2 : n ≤ 9223372036854775807) :
    Calls Tryz.prog 100 #[.pointer (some ⟨B,0,none⟩),.int .i64 n] w fun e w'=>e = .returned (vv (rdV d n)) ∧ So No w' B wv T A b a S hb (c + 1) (rdD d n) ∧ Keep (Nq No B wv) w w':=by
  have B0:=b1 w (vb 0 0 ⟨#[]⟩)
  have R0:=R3.made w nil
  have hs0:=h.below B0
  have tn:=h.tt.news B0
  have z0 : (w.alloc (vb 0 0 ⟨#[]⟩)).heap.size = w.heap.size + 1:=by simp
  obtain ⟨W0,hW0⟩ : ∃ W0,w.alloc (vb 0 0 ⟨#[]⟩) = W0:=⟨_,rfl⟩
  have R0' : R3 W0 w.heap.size nil:=hW0 ▸ R0
  rw [hW0] at B0 hs0 tn z0
  have c0 : W0.cell? ⟨B,0,none⟩ = some (.pointer (some ⟨T,0,none⟩)):=hs0.cell (j:=0) rfl
  have C:=tget_any tn hc (kn n) (rng_kn h1 h2)
  have HF : Hid (∀ w1,Keep (fun g=>Nq No B wv g ∨ (w.heap.size ≤ g ∧ g < W0.heap.size)) W0 w1 → TT (fun g=>Nq No B wv g ∨ (w.heap.size ≤ g ∧ g < W0.heap.size)) w1 T A b a S hb (c + 1) { d.2.1 with pr:=d.2.1.pr + (prd d.2.1.p (kn n) : Nat) } d.2.2 → R3 w1 w.heap.size nil ∧ ∀ x,R3 (set3 w1 w.heap.size x) w.heap.size x ∧ So No (set3 w1 w.heap.size x) B wv T A b a S hb (c + 1) (rdD d n) ∧ Keep (Nq No B wv) w (set3 w1 w.heap.size x)):=fun w1 k1 t1=>by
    have r1:=R0'.kept k1 (.inr ⟨Nat.le_refl _,by omega⟩)
    refine ⟨r1,fun x=>⟨r1.set x,?_,?_⟩⟩
    · have t2:=(t1.set3 (N:=w.heap.size) (.inr ⟨Nat.le_refl _,by omega⟩) x).sub (No':=Nq No B wv) (fun g q=>.inl q)
      have k2 : Keep (Nq No B wv) W0 (set3 w1 w.heap.size x):=(k1.sub (fun g q=>.inl q)).set3 (fun q=>by
        rcases q with q | q | q
        · obtain ⟨vb,hp⟩:=h.tt.hp
          have:=hp.nos _ (.inl (.inl q));omega
        · have:=h.lt;omega
        · have:=(h.row.lt _ q).2;omega) x
      exact hs0.via k2 t2
    · exact (Keep.of B0).trans ((k1.sub (fun g q=>.inl q)).set3 (fun q=>by
        rcases q with q | q | q
        · obtain ⟨vb,hp⟩:=h.tt.hp
          have:=hp.nos _ (.inl (.inl q));omega
        · have:=h.lt;omega
        · have:=(h.row.lt _ q).2;omega) x)
  have hval : rdV d n = pget d.2.1.p (kn n):=rfl
  rw [hval]
  generalize pget d.2.1.p (kn n) = gv0 at *
  unfold tp vv vl kn at C
  unfold vv vl
  unfold vb at hW0
  clear tn hs0 R0 R0' z0 h B0 hval
  go_enter Tryz.func100,Tryz.ntmps100
  go_wp2_with fail
  refine C.mono ?_
  rintro e w1 ⟨rfl,t1,k1⟩
  obtain ⟨r1,hz⟩:=HF.out w1 k1 t1
  have HZ : Hid _:=hz gv0
  obtain ⟨W3,hW3⟩ : ∃ W3,set3 w1 w.heap.size gv0 = W3:=⟨_,rfl⟩
  rw [hW3] at HZ
  unfold set3 at hW3
  have n0 : w1.cell? ⟨w.heap.size,0,none⟩ = some (.int .i64 0):=r1.bx.c0
  have n1 : w1.cell? ⟨w.heap.size,1,none⟩ = some (.int .i64 0):=r1.bx.c1
  have n2 : w1.cell? ⟨w.heap.size,2,none⟩ = some (.string ⟨#[]⟩):=r1.bx.c2
  have nf:=r1.fz
  clear C HF hz r1 t1 k1 c0
  go_wp2
  obtain ⟨q1,q2,q3⟩:=HZ.out
  have o0:=q1.bx.c0
  have o1:=q1.bx.c1
  have o2:=q1.bx.c2
  refine bodyPost_ret (v:=.agg #[.int .i64 gv0.1,.int .i64 gv0.2.1,.string gv0.2.2]) (by simp [results,Tryz.results100,go_sem,o0,o1,o2]) rfl ⟨rfl,q2,q3⟩
end Go.Proofs.YtkmopcanaalemabGreat
