import Derived.Test.YtkmopcanaalemabGreatCg22
namespace Go.Proofs.YtkmopcanaalemabGreat
open Go.RowKit
set_option maxRecDepth 20000 in
set_option maxHeartbeats 8000000 in
theorem rreh_any {No:Nat→Prop} {w:World} {RT A P ka va ca:Nat} {cb:Nat→Nat} {G c:Nat} {t:TS} {s:H.St} (h:RQ No w RT A P ka va ca cb G c t s) (hc:c≤800000) (k:V) (ha:Ask t.p k):
 Calls Tryz.prog 56 #[.pointer (some ⟨RT,0,none⟩),vv k] w fun e w'=>e= .returned (.int .i64 (reh t s k).2.2)∧(∃A' P' ka' va' ca' cb',RQ No w' RT A' P' ka' va' ca' cb' G (c+6) (reh t s k).1 (reh t s k).2.1)∧Keep No w w':=by
 have HQ:Hid (RQ No w RT A P ka va ca cb G c t s):=h
 have HA:Hid (Ask t.p k):=ha
 have HTI:Hid (TI t.p):=h.ti
 have hm:(pres t.p).length≤190000:=by
  have h1:=kA_len t.p.F t.p.n
  have h2:=kH_len t.p.g t.p.z
  have h3:=h.ti.le
  have h4:=h.ti.rt.le
  unfold pres
  rw[List.length_append]
  omega
 have HM:Hid ((pres t.p).length≤190000):=hm
 have HCE:Hid _:=cens ha.ok ha.nd
 have X:=Bx.made w k
 have B0:=b1 w (vb k.1 k.2.1 k.2.2)
 obtain ⟨W0,hW0⟩:∃W0,w.alloc (vb k.1 k.2.1 k.2.2)=W0:=⟨_,rfl⟩
 rw[hW0] at X B0
 have x0:=X.c0
 have x1:=X.c1
 have x2:=X.c2
 have HX0:Hid (Bx W0 w.heap.size k):=X
 have HB0:Hid (Below w.heap.size w W0):=B0
 have hs0:w.heap.size<W0.heap.size:=X.lt
 have HCP:Hid (∀W,Below w.heap.size w W→Calls Tryz.prog 96 #[.pointer (some ⟨RT,0,none⟩)] W fun e w'=>∃v F,e= .returned v∧Lv w' W.heap.size v (pres t.p).length F∧Is F (pres t.p).length (pres t.p)∧Below W.heap.size W w'):=fun W hW=>rpresent_any (HQ.out.rb.below hW) HTI.out
 unfold vb at hW0
 unfold vv vl
 obtain ⟨R,hR⟩:∃R,reh t s k=R:=⟨_,rfl⟩
 have HR:Hid (reh t s k=R):=hR
 rw[hR]
 clear X hR B0 ha hm h
 generalize hrA:C.szA (ints (pres t.p++[k])) (oth (pres t.p++[k]):Nat)=rA at *
 generalize hrZ:C.szH (ints (pres t.p++[k])) (oth (pres t.p++[k]):Nat)=rZ at *
 have HRA:Hid _:=hrA
 have HRZ:Hid _:=hrZ
 obtain ⟨E,hE⟩:∃E,rsE t.p k=E:=⟨_,rfl⟩
 have HE:Hid (rsE t.p k=E):=hE
 have HFA:Hid (∀(W:World) (B b:Nat) (v:Value) (F:Nat→V),Lv W B v (pres t.p).length F→Is F (pres t.p).length (pres t.p)→Bx W b k→B≤W.heap.size→w.heap.size≤B→Below w.heap.size w W→∃g c w',(Builtin.append_ #[22,22] 22 #[v,.slice (some ⟨b,0,none⟩) 1 1]).run Tryz.prog W= .ok (.slice (some ⟨g,0,none⟩) ((pres t.p).length+1) c) w'∧
  Calls Tryz.prog 95 #[.slice (some ⟨g,0,none⟩) ((pres t.p).length+1) c] w' fun e w''=>e= .returned (.tuple #[.int .i64 rA,.int .i64 rZ,.int .i64 E])∧Below w.heap.size w w''):=fun W B b v F h1 h2 h3 h4 h5 h6=>by
  have:=rfit_app h1 h2 h3 h4 h5 h6 HA.out HM.out
  rw[hrA,hrZ,hE] at this
  exact this
 rw[hE] at HCE
 clear hE hrA hrZ
 generalize (pres t.p).length=pl at *
 have hbd:Below w.heap.size w W0.drew:=bthen HB0.out HB0.out.size (bdrew1 _)
 have CPd:=HCP.out W0.drew hbd
 have B1:=b1 W0.drew (.cells #[.int .i64 k.1,.int .i64 k.2.1,.string k.2.2] 36)
 have hbb:Below w.heap.size w (W0.drew.alloc (.cells #[.int .i64 k.1,.int .i64 k.2.1,.string k.2.2] 36)):=bthen hbd hbd.size B1
 have hXb:Bx (W0.drew.alloc (.cells #[.int .i64 k.1,.int .i64 k.2.1,.string k.2.2] 36)) W0.heap.size k:=Bx.made W0.drew k
 obtain ⟨Wb,hWb⟩:∃Wb,W0.drew.alloc (.cells #[.int .i64 k.1,.int .i64 k.2.1,.string k.2.2] 36)=Wb:=⟨_,rfl⟩
 rw[hWb] at hbb hXb
 have HWb:Hid (Below w.heap.size w Wb∧Bx Wb W0.heap.size k∧w.heap.size≤Wb.heap.size):=⟨hbb,hXb,hbb.size⟩
 have CPb:=HCP.out Wb hbb
 have HWd:Hid (Below w.heap.size w W0.drew∧w.heap.size≤W0.heap.size):=⟨hbd,by omega⟩
 clear hbd hbb hXb B1 HCP
 go_enter Tryz.func56,Tryz.ntmps56
 go_wp2_with fail
 go_cut [5,6,7] from 15 to 24 (fun av zv ev wx=>av= .int .i64 rA∧zv= .int .i64 rZ∧ev= .int .i64 E∧Hid (Below w.heap.size w wx))
 case first=>
  go_region_law (first
   | (refine step_goE (by rfl) 96 _ _ (by rfl) _ (by simp[Act.eval,Act.put]) enters79 CPd ?_;rintro e w3 ⟨v3,F3,rfl,l3,i3,hb3⟩
      have bb3:Below w.heap.size w w3:=bthen HWd.out.1 HWd.out.1.size hb3
      have xx3:Bx w3 w.heap.size k:=(HX0.out.below (bdrew1 W0)).below hb3
      have y0:=xx3.c0
      have y1:=xx3.c1
      have y2:=xx3.c2
      obtain ⟨g4,c4,w4,hr4,C4⟩:=HFA.out (w3.alloc (.cells #[.int .i64 k.1,.int .i64 k.2.1,.string k.2.2] 36)) _ w3.heap.size v3 F3 (l3.below (b1 _ _)) i3 (Bx.made w3 k) (by have h1:=hb3.size;have h2:=(b1 w3 (.cells #[.int .i64 k.1,.int .i64 k.2.1,.string k.2.2] 36)).size;omega) HWd.out.1.size (bthen bb3 bb3.size (b1 _ _))
      clear l3 i3 hb3 bb3 xx3
      refine ⟨_,rfl,?_⟩)
   | (refine step_goE (by rfl) 96 _ _ (by rfl) _ (by simp[Act.eval]) enters79 CPb ?_;rintro e w3 ⟨v3,F3,rfl,l3,i3,hb3⟩
      have bb3:Below w.heap.size w w3:=bthen HWb.out.1 HWb.out.1.size hb3
      obtain ⟨g4,c4,w4,hr4,C4⟩:=HFA.out w3 _ W0.heap.size v3 F3 l3 i3 (HWb.out.2.1.below hb3) hb3.size HWb.out.2.2 bb3
      clear l3 i3 hb3 bb3
      refine ⟨_,rfl,?_⟩)
   | (refine step_run (by rfl) _ _ (by rfl) (by rfl) (by rfl) (by rfl) hr4 ?_)
   | (refine step_goE (by rfl) 95 _ _ (by rfl) _ (by simp[Act.eval]) enters78 C4 ?_;rintro e w5 ⟨rfl,hb5⟩;have HB5:Hid (Below w.heap.size w w5):=hb5;clear hb5;refine ⟨_,rfl,?_⟩))
  all_goals
   go_wp2_with fail
   go_meet
   exact ⟨rfl,rfl,rfl,HB5⟩
 case rest=>
  obtain ⟨rfl,rfl,rfl,HBc⟩:=hcut
  clear CPd CPb hWb HWb HWd x0 x1 x2 hs0 HX0 HB0 hW0 HFA HM
  by_cases he:E=0
  ·subst he
   obtain ⟨_,HFt,eA,eZ⟩:=HCE.out.resolve_left (by decide)
   subst eA eZ
   have hz1:=HFt.z.le
   have hz2:=HFt.a
   have HRt:Hid (Rt (rsZ t.p k)):=HFt.z
   clear HFt HCE HRA HRZ
   have HRe:Hid (reh t s k=if tpE s (rsA t.p k) (rsZ t.p k)≠0 then (t,tpS s (rsA t.p k) (rsZ t.p k),tpE s (rsA t.p k) (rsZ t.p k))
    else ({p:=fill t.p (fresh (rsA t.p k) (rsZ t.p k)),sb:=H.takeId s (rsA t.p k),nb:=H.takeId (H.takeSt s (rsA t.p k)) (3 * (rsZ t.p k:Nat)),hint:=0,pr:=t.pr},
     H.giveSt (H.giveSt (tpS s (rsA t.p k) (rsZ t.p k)) t.sb) t.nb,0)):=by
    show _=_;unfold reh;rw[if_neg (by simpa using HE.out)]
   clear HE
   generalize rsA t.p k=n at *
   generalize rsZ t.p k=z at *
   have HQ1:Hid (RQ No wc RT A P ka va ca cb G c t s):=HQ.out.below HBc.out
   have g6:=HQ1.out.rb.c6
   have CT:=HQ1.out.take (by omega) (n:Nat)
   by_cases q1:H.takeE s (n:Nat)=0
   ·have q1b:(H.takeE s (n:Nat) !=0)=false:=by simp[q1]
    have HRg:Hid (reh t s k=if H.takeE (H.takeSt s (n:Nat)) (3 * (z:Nat))≠0 then (t,H.giveSt (H.takeSt s (n:Nat)) (H.takeId s (n:Nat)),H.takeE (H.takeSt s (n:Nat)) (3 * (z:Nat)))
     else ({p:=fill t.p (fresh n z),sb:=H.takeId s (n:Nat),nb:=H.takeId (H.takeSt s (n:Nat)) (3 * (z:Nat)),hint:=0,pr:=t.pr},H.giveSt (H.giveSt (H.takeSt (H.takeSt s (n:Nat)) (3 * (z:Nat))) t.sb) t.nb,0)):=by
     have e1:tpE s (n:Nat) (z:Nat)=H.takeE (H.takeSt s (n:Nat)) (3 * (z:Nat)):=by unfold tpE;rw[if_neg (by simpa using q1)]
     show _=_
     rw[HRe.out,e1]
     unfold tpS
     rw[if_neg (show ¬H.takeE s (n:Nat)≠0 by simpa using q1)]
     by_cases q2:H.takeE (H.takeSt s (n:Nat)) (3 * (z:Nat))≠0
     ·rw[if_pos q2,if_pos q2,if_pos q2]
     ·rw[if_neg q2,if_neg q2,if_neg q2]
    clear q1 HRe
    generalize hte:H.takeE s (n:Nat)=te at *
    clear hte
    go_wp2_with fail
    refine CT.mono ?_;rintro e W2 ⟨rfl,h2,k2⟩
    have HQ2:Hid (RQ No W2 RT A P ka va ca cb G (c+1) t (H.takeSt s (n:Nat))∧Keep No w W2):=⟨h2,(Keep.of HBc.out).trans (k2.sub fun g q=>.inl q)⟩
    have CT2:=h2.take (by omega) (3 * (z:Nat))
    have g6:=h2.rb.c6
    have hw3:IntKind.i64.wrap (3 * (z:Int))=3 * (z:Int):=by rw[IntKind.wrap_i64];omega
    clear CT h2 k2 HQ1
    by_cases q2:H.takeE (H.takeSt s (n:Nat)) (3 * (z:Nat))=0
    ·have q2b:(H.takeE (H.takeSt s (n:Nat)) (3 * (z:Nat)) !=0)=false:=by simp[q2]
     have HRf:Hid (reh t s k=({p:=fill t.p (fresh n z),sb:=H.takeId s (n:Nat),nb:=H.takeId (H.takeSt s (n:Nat)) (3 * (z:Nat)),hint:=0,pr:=t.pr},H.giveSt (H.giveSt (H.takeSt (H.takeSt s (n:Nat)) (3 * (z:Nat))) t.sb) t.nb,0)):=by
      show _=_;rw[HRg.out,if_neg (by simpa using q2)]
     clear q2 HRg
     generalize hte2:H.takeE (H.takeSt s (n:Nat)) (3 * (z:Nat))=te2 at *
     clear hte2
     go_wp2_with fail
     refine CT2.mono ?_;rintro e W3 ⟨rfl,h3,k3⟩
     have HQ3:Hid (RQ No W3 RT A P ka va ca cb G (c+1+1) t (H.takeSt (H.takeSt s (n:Nat)) (3 * (z:Nat)))∧Keep No w W3):=⟨h3,HQ2.out.2.trans (k3.sub fun g q=>.inl q)⟩
     clear CT2 h3 k3 HQ2 g6
     generalize H.takeSt (H.takeSt s (n:Nat)) (3 * (z:Nat))=s3 at *
     generalize H.takeId (H.takeSt s (n:Nat)) (3 * (z:Nat))=i2 at *
     generalize H.takeId s (n:Nat)=i1 at *
     have e0:=HQ3.out.1.rb.c0
     have e1:=HQ3.out.1.rb.c1
     go_wp2_with fail
     go_cut [10,11] from 59 to 66 (fun sv pv wx=>sv= .slice (some ⟨A,0,none⟩) t.p.n t.p.n∧pv= .pointer (some ⟨P,0,none⟩)∧Hid (Below W3.heap.size W3 wx))
     case first=>
      go_region
      all_goals
       go_wp2_with fail
       go_meet
       exact ⟨rfl,rfl,bdrew1 W3⟩
     case rest=>
      obtain ⟨rfl,rfl,HB4⟩:=hcut
      obtain ⟨U0,hV⟩:∃U0,U0=wc:=⟨_,rfl⟩
      rw[←hV] at HB4⊢
      clear hV e0 e1
      have HQ4:Hid (RQ No U0 RT A P ka va ca cb G (c+1+1) t s3∧Keep No w U0):=⟨HQ3.out.1.below HB4.out,HQ3.out.2.trans (Keep.of HB4.out)⟩
      clear HQ3 HB4
      have m1:=make_vals n hz2
      have CN:=fun W=>rnew_any z W hz1
      unfold pp at CN
      obtain ⟨zz,hzz⟩:∃zz,zeros3 n=zz:=⟨_,rfl⟩
      have HZZ:Hid (zeros3 n=zz):=hzz
      rw[hzz] at m1
      clear hzz
      have HAl:Hid (∀W:World,Below W.heap.size W (W.alloc (.cells zz 36))∧(W.alloc (.cells zz 36)).heap[W.heap.size]?=some (.cells zz 36)∧(W.alloc (.cells zz 36)).heap.size=W.heap.size+1):=fun W=>⟨b1 _ _,(MapKept.heap_alloc W _).1,by simp⟩
      obtain ⟨Wm,hWm⟩:∃Wm,U0.drew.alloc (.cells zz 36)=Wm:=⟨_,rfl⟩
      have HWm:Hid (Below U0.heap.size U0 Wm∧Wm.heap[U0.heap.size]?=some (.cells zz 36)∧Wm.heap.size=U0.heap.size+1):=by
       have:=HAl.out U0.drew
       rw[hWm] at this
       exact ⟨bthen (bdrew1 U0) (Nat.le_refl _) this.1,this.2⟩
      have CNd:=CN U0.drew
      have CNm:=CN Wm
      clear CN
      go_wp2_with fail
      go_cut [10] from 67 to 76 (fun sv wx=>sv= .slice (some ⟨A,0,none⟩) t.p.n t.p.n∧Hid (∃A' P' ka' va' ca',RQ (fun g=>No g∨Od A P ka va ca cb t g) wx RT A' P' ka' va' ca' (fun _=>0) G (c+1+1) {t with p:=fresh n z} s3∧Keep (fun g=>No g∨Od A P ka va ca cb t g) U0 wx))
      case first=>
       go_region_with (first
        | (go_at_call 50;refine CNd.mono ?_;rintro e w4 ⟨P4,ka4,va4,ca4,rfl,r4⟩
           have hal:=HAl.out w4
           obtain ⟨Wd,hWd⟩:∃Wd,w4.alloc (.cells zz 36)=Wd:=⟨_,rfl⟩
           rw[hWd] at hal
           have hb4:Below U0.heap.size U0 Wd:=bthen (bthen (bdrew1 U0) (Nat.le_refl _) r4.bel) (by have:=r4.bel.size;exact this) hal.1
           have q4:=HQ4.out.1.rb.below hb4
           have e0:=q4.c0
           have e1:=q4.c1
           have ez:=q4.fz
           have HS:Hid _:=HQ4.out.1.renew hb4 (by rw[hal.2.1,HZZ.out]) r4 hal.1 (Nat.le_refl _) (by have:=r4.bel.size;exact this) (by have:=r4.lt;omega) hz2 HRt.out
           clear q4 hal hb4 r4)
        | (go_at_call 50;refine CNm.mono ?_;rintro e w4 ⟨P4,ka4,va4,ca4,rfl,r4⟩
           have hb4:Below U0.heap.size U0 w4:=bthen HWm.out.1 HWm.out.1.size r4.bel
           have q4:=HQ4.out.1.rb.below hb4
           have e0:=q4.c0
           have e1:=q4.c1
           have ez:=q4.fz
           have HS:Hid _:=HQ4.out.1.renew hb4 (by rw[r4.bel.block U0.heap.size (by have:=HWm.out.2.2;omega),HWm.out.2.1,HZZ.out]) r4 (Below.refl _ _) HWm.out.1.size (Nat.le_refl _) (by have:=r4.ge;have:=HWm.out.2.2;omega) hz2 HRt.out
           clear q4 hb4 r4))
       all_goals
        go_wp2_with fail
        go_meet
        exact ⟨rfl,_,_,_,_,_,HS.out⟩
      case rest=>
       obtain ⟨rfl,A',P',ka',va',ca',hq5,hk5⟩:=hcut
       clear CNd CNm hWm HWm HAl HZZ m1
       have HOld:Hid (∀W,Keep (fun g=>No g∨Od A P ka va ca cb t g) U0 W→Rv W A t.p.n t.p.F∧Rp W P ka va ca t.p.z t.p.g cb):=fun W kk=>⟨HQ4.out.1.rb.sl.block (kk.block A HQ4.out.1.rb.ltA (.inr (.inl rfl))),HQ4.out.1.rb.rp.kept kk (fun x q=>.inr (.inr q))⟩
       have HKV:Hid (Keep No w U0):=HQ4.out.2
       obtain ⟨N2,hN2⟩:∃N2,(fun g=>No g∨Od A P ka va ca cb t g)=N2:=⟨_,rfl⟩
       have HN2:Hid (∀g,No g→N2 g):=fun g q=>by rw[←hN2];exact .inl q
       rw[hN2] at HOld hq5 hk5
       clear hN2
       have HQ5:Hid (RQ N2 wc RT A' P' ka' va' ca' (fun _=>0) G (c+1+1) {t with p:=cpI t.p n z 0} s3∧Keep N2 U0 wc):=by rw[cpI_zero];exact ⟨hq5,hk5⟩
       have hpn:=HTI.out.le
       have hpz:=HTI.out.rt.le
       clear hq5 hk5 HQ4
       go_upto_block 0 with fail
       go_cut [12] from 77 to 97 (fun iw wx=>Hid (RQ N2 wx RT A' P' ka' va' ca' (fun _=>0) G (c+1+1) {t with p:=cpI t.p n z (min n t.p.n)} s3∧Keep N2 U0 wx))
       case first=>
        go_wp2_with fail
        go_loopw [12] (fun iw wr=>∃i:Nat,iw= .int .i64 (i:Nat)∧i≤n∧i≤t.p.n∧Hid (RQ N2 wr RT A' P' ka' va' ca' (fun _=>0) G (c+1+1) {t with p:=cpI t.p n z i} s3∧Keep N2 U0 wr)) (fun iw _=>n - (intOf iw).toNat)
        case atStart=>exact ⟨0,rfl,by omega,by omega,HQ5⟩
        case round=>
         obtain ⟨i,rfl,hin,hip,HR1⟩:=hrel
         clear HQ5
         by_cases hl1:i<t.p.n
         ·have hl1':(i:Int)<(t.p.n:Int):=by omega
          by_cases hl2:i<n
          ·have hl2':(i:Int)<(n:Int):=by omega
           have c0:wr.cell? ⟨RT,0,none⟩=some (.slice (some ⟨A',0,none⟩) n n):=HR1.out.1.rb.c0
           obtain ⟨o0,o1,o2⟩:=(HOld.out wr HR1.out.2).1.at hl1
           obtain ⟨n0,n1,n2⟩:=HR1.out.1.rb.sl.at (i:=i) hl2
           have fA:=HR1.out.1.rb.fA
           obtain ⟨s1,s2⟩:=HR1.out.1.slot (i:=i) hl2 (t.p.F i) (by show TI {cpI t.p n z i with F:=upd (cpI t.p n z i).F i (t.p.F i)};rw[cpI_succ];exact cpI_ti HTI.out hz2 HRt.out (by omega))
           have s1':RQ N2 (set3i wr A' i (t.p.F i)) RT A' P' ka' va' ca' (fun _=>0) G (c+1+1) {t with p:=cpI t.p n z (i+1)} s3:=by rw[←cpI_succ];exact s1
           clear s1
           obtain ⟨W6,hW6⟩:∃W6,set3i wr A' i (t.p.F i)=W6:=⟨_,rfl⟩
           rw[hW6] at s1' s2
           have HS:Hid (RQ N2 W6.drew RT A' P' ka' va' ca' (fun _=>0) G (c+1+1) {t with p:=cpI t.p n z (i+1)} s3∧Keep N2 U0 W6.drew):=⟨s1'.below (bdrew1 W6),(HR1.out.2.trans s2).trans (Keep.of (bdrew1 W6))⟩
           clear s1' s2 HR1
           unfold set3i at hW6
           generalize t.p.F i=xv at *
           generalize (cpI t.p n z i).F i=xn at *
           go_wp2_with fail
           go_region
           all_goals (
            go_wp2_with fail
            go_round
            (case rel=>exact ⟨i+1,by go_num,by omega,by omega,HS⟩)
            (case measure=>simp[intOf];omega))
          ·have hl2':¬(i:Int)<(n:Int):=by omega
           have em:min n t.p.n=i:=by omega
           have HE1:Hid (min n t.p.n=i):=em
           clear em
           go_wp2_with fail
           go_meet
           rw[HE1.out]
           exact HR1
         ·have hl1':¬(i:Int)<(t.p.n:Int):=by omega
          have em:min n t.p.n=i:=by omega
          have HE1:Hid (min n t.p.n=i):=em
          clear em
          go_wp2_with fail
          go_meet
          rw[HE1.out]
          exact HR1
       case rest=>
        have HC0:=hcut
        clear hcut HQ5
        obtain ⟨V1,hV1⟩:∃V1,V1=wc:=⟨_,rfl⟩
        rw[←hV1] at HC0⊢
        clear hV1
        obtain ⟨q0,hq0⟩:∃q0,cpI t.p n z (min n t.p.n)=q0:=⟨_,rfl⟩
        have HEf:Hid (fill t.p (fresh n z)=flH t.p (flA t.p (min n t.p.n) q0 (t.p.n - min n t.p.n)) t.p.z):=by show _=_;rw[←hq0,cpI_end];rfl
        rw[hq0] at HC0
        have HC1:Hid (∃cb',RQ N2 V1 RT A' P' ka' va' ca' cb' G (c+1+1) {t with p:=flA t.p (min n t.p.n) q0 0} s3∧Keep N2 U0 V1):=⟨_,HC0.out⟩
        clear HC0 hq0
        have HCL:Hid (∀(kk xv:V) (W:World) (cb':Nat→Nat) (q:Pa),RQ N2 W RT A' P' ka' va' ca' cb' G (c+1+1) {t with p:=q} s3→Keep N2 U0 W→Rng kk→fm xv=true→Calls Tryz.prog 57 #[.pointer (some ⟨RT,0,none⟩),.agg #[.int .i64 kk.1,.int .i64 kk.2.1,.string kk.2.2],.agg #[.int .i64 xv.1,.int .i64 xv.2.1,.string xv.2.2]] W fun e w'=>e= .returned (.tuple #[])∧∃cb2,RQ N2 w' RT A' P' ka' va' ca' cb2 G (c+1+1) {t with p:=(pset q kk xv).1} s3∧Keep N2 U0 w'):=fun kk xv W cb' q hq hk hr hv=>
         (rlay_any hq kk xv hr hv).mono fun e w' hh=>by obtain ⟨cb2,h2⟩:=hh.2.1;exact ⟨hh.1,cb2,h2,hk.trans hh.2.2⟩
        go_wp2_with fail
        go_loopw [13] (fun iw wr=>∃m:Nat,iw= .int .i64 ((n+m:Nat):Int)∧(n+m≤t.p.n∨m=0)∧Hid (∃cb',RQ N2 wr RT A' P' ka' va' ca' cb' G (c+1+1) {t with p:=flA t.p (min n t.p.n) q0 m} s3∧Keep N2 U0 wr)) (fun iw _=>t.p.n - (intOf iw).toNat)
        case atStart=>exact ⟨0,rfl,by omega,HC1⟩
        case round=>
         obtain ⟨m,rfl,hm2,HR1⟩:=hrel
         clear HC1
         by_cases hlt:n+m<t.p.n
         ·obtain ⟨i,hi⟩:∃i,n+m=i:=⟨_,rfl⟩
          have ek:flA t.p (min n t.p.n) q0 (m+1)=stp (flA t.p (min n t.p.n) q0 m) (kn ((i:Int)+1)) (t.p.F i):=by rw[flA,show min n t.p.n+m=i by omega]
          have HI:Hid (n+m=i):=hi
          rw[hi] at hlt hm2⊢
          clear hi
          generalize flA t.p (min n t.p.n) q0 m=q at *
          have hlt':(i:Int)<(t.p.n:Int):=by omega
          have hi0:¬((i:Int)<0):=by omega
          obtain ⟨cb',hq',hk'⟩:=HR1.out
          obtain ⟨o0,o1,o2⟩:=(HOld.out wr hk').1.at hlt
          have HV:Hid (fm (t.p.F i)=true):=HTI.out.fv i hlt
          have hwi:IntKind.i64.wrap ((i:Int)+1)=(i:Int)+1:=by rw[IntKind.wrap_i64];omega
          have HCI:Hid (∀W:World,Below wr.heap.size wr W→Calls Tryz.prog 17 #[.int .i64 ((i:Int)+1)] W fun e w'=>e= .returned (.agg #[.int .i64 2,.int .i64 ((i:Int)+1),.string ⟨#[]⟩])∧w'.cell? ⟨A,i * 3,none⟩=some (.int .i64 (t.p.F i).1)∧w'.cell? ⟨A,i * 3+1,none⟩=some (.int .i64 (t.p.F i).2.1)∧w'.cell? ⟨A,i * 3+2,none⟩=some (.string (t.p.F i).2.2)∧RQ N2 w' RT A' P' ka' va' ca' cb' G (c+1+1) {t with p:=q} s3∧Keep N2 U0 w'):=fun W hW=>
           (mkI ((i:Int)+1) W).mono fun e w' hh=>by
            have hb2:=bthen hW hW.size hh.2
            have hk2:=hk'.trans (Keep.of hb2)
            obtain ⟨p0,p1,p2⟩:=(HOld.out w' hk2).1.at hlt
            exact ⟨hh.1,p0,p1,p2,hq'.below hb2,hk2⟩
          have HR2:Hid (∃cb',RQ N2 wr RT A' P' ka' va' ca' cb' G (c+1+1) {t with p:=q} s3∧Keep N2 U0 wr):=HR1
          clear hq' hk' HR1
          generalize t.p.F i=xv at *
          by_cases hx:xv.1=0
          ·rw[stp,if_pos hx] at ek
           have HEk:Hid (flA t.p (min n t.p.n) q0 (m+1)=q):=ek
           have hxb:(xv.1 !=0)=false:=by simp[hx]
           clear ek hx
           go_wp2_with fail
           go_round
           case rel=>exact ⟨m+1,by rw[←Nat.add_assoc,HI.out];go_num,by have:=HI.out;omega,by rw[HEk.out];exact HR2⟩
           case measure=>simp[intOf];omega
          ·have hxb:(xv.1 !=0)=true:=by simp[hx]
           rw[stp,if_neg hx] at ek
           have HEk:Hid (flA t.p (min n t.p.n) q0 (m+1)=(pset q (kn ((i:Int)+1)) xv).1):=ek
           have CL:=fun W hq hk=>HCL.out (kn ((i:Int)+1)) xv W cb' q hq hk (by constructor<;>simp<;>omega) HV.out
           have CI:=HCI.out wr.drew (bdrew1 wr)
           clear ek hx HV
           go_wp2_with fail
           go_region_with (first
            | (go_at_call 17;refine CI.mono ?_;rintro e W7 ⟨rfl,y0,y1,y2,r7,k7⟩;have CL7:=CL W7 r7 k7;clear r7 k7)
            | (go_at_call 57;refine CL7.mono ?_;rintro e W8 ⟨rfl,f8⟩;have HF8:Hid (∃cb2,RQ N2 W8 RT A' P' ka' va' ca' cb2 G (c+1+1) {t with p:=(pset q (kn ((i:Int)+1)) xv).1} s3∧Keep N2 U0 W8):=f8;clear f8))
           all_goals (
            go_wp2_with fail
            go_round
            (case rel=>exact ⟨m+1,by rw[←Nat.add_assoc,HI.out];go_num,by have:=HI.out;omega,by rw[HEk.out];exact HF8⟩)
            (case measure=>simp[intOf];omega))
         ·have hlt':¬(((n+m:Nat):Int)<(t.p.n:Int)):=by omega
          have em:t.p.n - min n t.p.n=m:=by omega
          rw[em] at HEf
          obtain ⟨q1,hq1⟩:∃q1,flA t.p (min n t.p.n) q0 m=q1:=⟨_,rfl⟩
          rw[hq1] at HR1 HEf
          clear hq1 em hm2
          have HR3:Hid (∃cb',RQ N2 wr RT A' P' ka' va' ca' cb' G (c+1+1) {t with p:=flH t.p q1 0} s3∧Keep N2 U0 wr):=HR1
          obtain ⟨V2,hV2⟩:∃V2,V2=wr:=⟨_,rfl⟩
          rw[←hV2] at HR3⊢
          clear hV2 HR1
          have CZ:=rpsize_any V2 (HOld.out V2 (by obtain ⟨_,_,hk'⟩:=HR3.out;exact hk')).2
          have hwz:IntKind.i64.wrap ((t.p.z:Int) - 1)=(t.p.z:Int) - 1:=by rw[IntKind.wrap_i64];omega
          generalize ((n+m:Nat):Int)=nm at *
          go_wp2_with fail
          refine CZ.mono ?_;rintro e W9 ⟨rfl,hW9⟩;rw[hW9];clear hW9 CZ
          go_wp2_with fail
          go_loopw [14] (fun iw wr=>∃m:Nat,iw= .int .i64 ((t.p.z:Int) - 1 - m)∧m≤t.p.z∧Hid (∃cb',RQ N2 wr RT A' P' ka' va' ca' cb' G (c+1+1) {t with p:=flH t.p q1 m} s3∧Keep N2 U0 wr)) (fun iw _=>(intOf iw+1).toNat)
          case atStart=>exact ⟨0,by go_num,by omega,HR3⟩
          case round=>
           obtain ⟨m,rfl,hm3,HR4⟩:=hrel
           clear HR3
           obtain ⟨cb',hq',hk'⟩:=HR4.out
           have hP:=(HOld.out wr hk').2
           by_cases hlt:m<t.p.z
           ·obtain ⟨i,hi⟩:∃i,t.p.z - 1 - m=i:=⟨_,rfl⟩
            have hiz:i<t.p.z:=by omega
            have ei:(t.p.z:Int) - 1 - m=(i:Int):=by omega
            have ek:flH t.p q1 (m+1)=stp (flH t.p q1 m) (t.p.g.K i) (t.p.g.X i):=by rw[flH,hi]
            rw[ei]
            have HI:Hid (t.p.z - 1 - m=i):=hi
            clear hi ei
            generalize flH t.p q1 m=q at *
            have hi0:¬((i:Int)<0):=by omega
            have hi1:(0:Int)≤(i:Int):=by omega
            have hi2:(i:Int)<(t.p.z:Int):=by omega
            have s0:=hP.s0
            have s1:=hP.s1
            obtain ⟨x0,x1,x2⟩:=hP.v.at hiz
            obtain ⟨k0,k1,k2⟩:=hP.k.at hiz
            have HV:Hid (fm (t.p.g.X i)=true):=HTI.out.xv i hiz
            have HKy:Hid ((t.p.g.X i).1≠0→Rng (t.p.g.K i)):=fun hx=>by have:=(HTI.out.live hiz hx).2;exact ⟨this.2.2.1,this.2.2.2⟩
            have hwi:IntKind.i64.wrap ((i:Int) - 1)=(i:Int) - 1:=by rw[IntKind.wrap_i64];omega
            have HRd:Hid (RQ N2 wr.drew RT A' P' ka' va' ca' cb' G (c+1+1) {t with p:=q} s3∧Keep N2 U0 wr.drew):=⟨hq'.below (bdrew1 wr),hk'.trans (Keep.of (bdrew1 wr))⟩
            clear hP hq' hk'
            generalize t.p.g.K i=ky at *
            generalize t.p.g.X i=xv at *
            by_cases hx:xv.1=0
            ·rw[stp,if_pos hx] at ek
             have HEk:Hid (flH t.p q1 (m+1)=q):=ek
             have hxb:(xv.1 !=0)=false:=by simp[hx]
             clear ek hx
             go_wp2_with fail
             go_round
             case rel=>exact ⟨m+1,by have:=HI.out;go_num,by omega,by rw[HEk.out];exact HR4⟩
             case measure=>simp[intOf]
            ·have hxb:(xv.1 !=0)=true:=by simp[hx]
             rw[stp,if_neg hx] at ek
             have HEk:Hid (flH t.p q1 (m+1)=(pset q ky xv).1):=ek
             have CL:=HCL.out ky xv wr.drew cb' q HRd.out.1 HRd.out.2 (HKy.out hx) HV.out
             clear ek hx HV HKy HRd
             go_wp2_with fail
             refine wp_tail 15 (by kernel_rfl) (by kernel_rfl) ?_
             simp only[List.take_succ_cons,List.take_zero,List.drop_succ_cons,List.drop_zero]
             repeat still_step
             refine wpStill_nil ?_
             go_wp2_with fail
             refine CL.mono ?_;rintro e W8 ⟨rfl,f8⟩
             have HF8:Hid (∃cb2,RQ N2 W8 RT A' P' ka' va' ca' cb2 G (c+1+1) {t with p:=(pset q ky xv).1} s3∧Keep N2 U0 W8):=f8
             clear CL f8 HR4
             go_wp2_with fail
             go_round
             case rel=>exact ⟨m+1,by have:=HI.out;go_num,by omega,by rw[HEk.out];exact HF8⟩
             case measure=>simp[intOf]
           ·obtain rfl:m=t.p.z:=by omega
            have e2:(t.p.z:Int) - 1 - (t.p.z:Int)=-1:=by omega
            rw[e2]
            clear e2 hP hm3 HR4
            rw[←HEf.out] at hq'
            generalize fill t.p (fresh n z)=fq at *
            have HV1:Hid (RQ N2 wr RT A' P' ka' va' ca' cb' G (c+1+1) {t with p:=fq} s3∧Keep N2 U0 wr):=⟨hq',hk'⟩
            have a6:=hq'.rb.c6
            have a2:=hq'.rb.c2
            have CG1:=(hq'.below (bdrew1 wr)).give (by omega) t.sb
            clear hq' hk'
            go_wp2_with fail
            refine wp_tail 8 (by kernel_rfl) (by kernel_rfl) ?_
            simp only[List.take_succ_cons,List.take_zero,List.drop_succ_cons,List.drop_zero]
            repeat still_step
            refine wpStill_nil ?_
            go_wp2_with fail
            refine CG1.mono ?_;rintro e Wa ⟨rfl,ha,ka1⟩
            have HVa:Hid (RQ N2 Wa RT A' P' ka' va' ca' cb' G (c+1+1+1) {t with p:=fq} (H.giveSt s3 t.sb)∧Keep N2 U0 Wa):=⟨ha,(HV1.out.2.trans (Keep.of (bdrew1 wr))).trans (ka1.sub fun g q=>.inl q)⟩
            have d6:=ha.rb.c6
            have d3:=ha.rb.c3
            have CG2:=(ha.below (bdrew1 Wa)).give (by omega) t.nb
            clear CG1 ha ka1 a6 a2 HV1
            go_wp2_with fail
            refine wp_tail 8 (by kernel_rfl) (by kernel_rfl) ?_
            simp only[List.take_succ_cons,List.take_zero,List.drop_succ_cons,List.drop_zero]
            repeat still_step
            refine wpStill_nil ?_
            go_wp2_with fail
            refine CG2.mono ?_;rintro e Wb ⟨rfl,hb,kb1⟩
            have HVb:Hid (RQ N2 Wb RT A' P' ka' va' ca' cb' G (c+1+1+1+1) {t with p:=fq} (H.giveSt (H.giveSt s3 t.sb) t.nb)∧Keep N2 U0 Wb):=⟨hb,(HVa.out.2.trans (Keep.of (bdrew1 Wa))).trans (kb1.sub fun g q=>.inl q)⟩
            have b2:=hb.rb.c2
            have b3:=hb.rb.c3
            have b4:=hb.rb.c4
            have bz:=hb.rb.fz
            clear CG2 hb kb1 d6 d3 HVa
            obtain ⟨Wc,hWc⟩:∃Wc,((Wb.setCell ⟨RT,2,none⟩ (.int .i64 i1)).setCell ⟨RT,3,none⟩ (.int .i64 i2)).setCell ⟨RT,4,none⟩ (.int .i64 0)=Wc:=⟨_,rfl⟩
            have HD:Hid (RQ N2 Wc RT A' P' ka' va' ca' cb' G (c+1+1+1+1) {p:=fq,sb:=i1,nb:=i2,hint:=0,pr:=t.pr} (H.giveSt (H.giveSt s3 t.sb) t.nb)∧Keep N2 U0 Wc):=by
             have r:=HVb.out.1.three i1 i2 0
             rw[hWc] at r
             exact ⟨r.1,HVb.out.2.trans r.2⟩
            clear HVb
            go_wp2_with fail
            go_ret
            rw[←HR.out,HRf.out]
            exact ⟨rfl,⟨A',P',ka',va',ca',cb',(HD.out.1.sub HN2.out).more (by omega)⟩,HKV.out.trans (HD.out.2.sub HN2.out)⟩
    ·have q2b:(H.takeE (H.takeSt s (n:Nat)) (3 * (z:Nat)) !=0)=true:=by simp[q2]
     have HRf:Hid (reh t s k=(t,H.giveSt (H.takeSt s (n:Nat)) (H.takeId s (n:Nat)),H.takeE (H.takeSt s (n:Nat)) (3 * (z:Nat)))):=by
      show _=_;rw[HRg.out,if_pos q2]
     have HSt:Hid (H.takeSt (H.takeSt s (n:Nat)) (3 * (z:Nat))=H.takeSt s (n:Nat)):=(H.takeSt_bad (.inl q2)).1
     clear q2 HRg
     rw[HSt.out] at CT2
     generalize hte2:H.takeE (H.takeSt s (n:Nat)) (3 * (z:Nat))=te2 at *
     clear hte2
     go_wp2_with fail
     refine CT2.mono ?_;rintro e W3 ⟨rfl,h3,k3⟩
     have HQ3:Hid (RQ No W3 RT A P ka va ca cb G (c+1+1) t (H.takeSt s (n:Nat))∧Keep No w W3):=⟨h3,HQ2.out.2.trans (k3.sub fun g q=>.inl q)⟩
     have CG:=h3.give (by omega) (H.takeId s (n:Nat))
     have g7:=h3.rb.c6
     clear CT2 h3 k3 HQ2 g6
     generalize H.takeId s (n:Nat)=i1 at *
     go_wp2_with fail
     refine CG.mono ?_;rintro e W4 ⟨rfl,h4,k4⟩
     have HQ4:Hid (RQ No W4 RT A P ka va ca cb G (c+1+1+1) t (H.giveSt (H.takeSt s (n:Nat)) i1)∧Keep No w W4):=⟨h4,HQ3.out.2.trans (k4.sub fun g q=>.inl q)⟩
     clear CG h4 k4
     go_wp2_with fail
     go_ret
     rw[←HR.out,HRf.out]
     exact ⟨rfl,⟨A,P,ka,va,ca,cb,HQ4.out.1.more (by omega)⟩,HQ4.out.2⟩
   ·have q1b:(H.takeE s (n:Nat) !=0)=true:=by simp[q1]
    have HRf:Hid (reh t s k=(t,s,H.takeE s (n:Nat))):=by
     have e1:tpE s (n:Nat) (z:Nat)=H.takeE s (n:Nat):=by unfold tpE;rw[if_pos q1]
     show _=_;rw[HRe.out,e1,if_pos q1];unfold tpS;rw[if_pos q1]
    rw[(H.takeSt_bad (.inl q1)).1] at CT
    clear q1
    generalize hte:H.takeE s (n:Nat)=te at *
    clear hte
    go_wp2_with fail
    refine CT.mono ?_;rintro e W2 ⟨rfl,h2,k2⟩
    have HQ2:Hid (RQ No W2 RT A P ka va ca cb G (c+1) t s∧Keep No w W2):=⟨h2,(Keep.of HBc.out).trans (k2.sub fun g q=>.inl q)⟩
    clear CT h2 k2
    go_wp2_with fail
    go_ret
    rw[←HR.out,HRf.out]
    exact ⟨rfl,⟨A,P,ka,va,ca,cb,HQ2.out.1.more (by omega)⟩,HQ2.out.2⟩
  ·have heb:(E !=0)=true:=by simp[he]
   have HRf:Hid (reh t s k=(t,s,E)):=by
    show _=_;unfold reh;rw[HE.out,if_pos he]
   clear HCE
   go_wp2_with fail
   go_ret
   rw[←HR.out,HRf.out]
   exact ⟨rfl,⟨A,P,ka,va,ca,cb,(HQ.out.below HBc.out).more (by omega)⟩,Keep.of HBc.out⟩
end Go.Proofs.YtkmopcanaalemabGreat
