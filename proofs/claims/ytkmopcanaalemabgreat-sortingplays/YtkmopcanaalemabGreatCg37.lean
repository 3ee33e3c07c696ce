import Derived.Test.YtkmopcanaalemabGreatCg29
import Derived.Test.YtkmopcanaalemabGreatCg35
import Derived.Test.YtkmopcanaalemabGreatCg36
namespace Go.Proofs.YtkmopcanaalemabGreat
open Go.RowKit
theorem bdrX (w:World) (n:Nat):Below w.heap.size w (w.drewN n):=⟨rfl,rfl,rfl,Nat.le_refl _,fun _ _=>rfl⟩
set_option maxRecDepth 20000 in
set_option maxHeartbeats 8000000 in
theorem plays_walk {w:World} (hfix:∀W:World,Calls Tryz.prog 8 #[] W fun e w'=>e= .returned (.bool true)∧Below W.heap.size W w') {av aa:Option Addr} {cv ca L La:Nat} {F:Nat→V} {An:Nat→Bool} (hv:Vin w av L F) (hb:Bin w aa La An) (hL:L≤9223372036854775807) (hLa:La≤9223372036854775807) (nv:Int):
 Calls Tryz.prog 3 #[.agg #[.slice av L cv,.int .i64 nv,.slice aa La ca]] w fun e w'=>e= .returned (.bool true)∧Below w.heap.size w w':=by
 have B0:=b1 w (.cells #[.slice av L cv,.int .i64 nv,.slice aa La ca] 25)
 have c0:(w.alloc (.cells #[.slice av L cv,.int .i64 nv,.slice aa La ca] 25)).heap[w.heap.size]?=some (.cells #[.slice av L cv,.int .i64 nv,.slice aa La ca] 25):=(MapKept.heap_alloc w _).1
 have hs0:(w.alloc (.cells #[.slice av L cv,.int .i64 nv,.slice aa La ca] 25)).heap.size=w.heap.size+1:=by simp
 obtain ⟨W0,hW0⟩:∃W0,w.alloc (.cells #[.slice av L cv,.int .i64 nv,.slice aa La ca] 25)=W0:=⟨_,rfl⟩
 rw[hW0] at B0 c0 hs0
 have HX:Hid (∀Wq,Below W0.heap.size W0 Wq→Wq.cell? ⟨w.heap.size,0,none⟩=some (.slice av L cv)∧Wq.cell? ⟨w.heap.size,1,none⟩=some (.int .i64 nv)∧Wq.cell? ⟨w.heap.size,2,none⟩=some (.slice aa La ca)):=fun Wq kq=>by
  have:=kq.block w.heap.size (by omega)
  simp only[World.cell?,this,c0]
  exact ⟨rfl,rfl,rfl⟩
 have HV:Hid (Vin W0 av L F∧Bin W0 aa La An):=⟨hv.below B0,hb.below B0⟩
 have HB0:Hid (Below w.heap.size w W0):=B0
 have CF:=hfix W0
 clear hv hb B0 c0 hs0 hfix
 go_enter Tryz.func3,Tryz.ntmps3
 go_wp2_with fail
 refine CF.mono ?_;rintro e w1 ⟨rfl,hb1⟩
 have HB1:Hid (Below W0.heap.size W0 w1):=hb1
 obtain ⟨x0,x1,x2⟩:=HX.out w1 HB1.out
 have C9:=begin16v (cap:=cv) (HV.out.1.below HB1.out) hL nv (.slice aa La ca)
 unfold cw3 at C9
 clear CF hb1
 go_wp2_with fail
 refine C9.mono ?_;rintro e w9 ⟨T,S,hb,RT,G,t,s,rfl,bz,bj,bw9⟩
 have HW9:Hid (Below W0.heap.size W0 w9):=bthen HB1.out HB1.out.size bw9
 obtain ⟨nb,hnb⟩:∃x,nlast F (min L 60)=x:=⟨_,rfl⟩
 rw[hnb]
 obtain ⟨y0,y1,y2⟩:=HX.out w9 HW9.out
 have HZ:Hid (Bz (fun g=>g<w1.heap.size) w9 T S hb RT G 1000 t s t s):=bz
 clear C9 bz bj bw9 hnb x0 x1 x2
 go_wp2_with fail
 have hn3:min nv 300≤300:=by omega
 generalize min nv 300=n at *
 have HQ:Hid (∀g,g<W0.heap.size→g<w1.heap.size):=fun g hg=>Nat.lt_of_lt_of_le hg HB1.out.size
 have C10:=HZ.out.snew n
 clear HZ HB1
 refine C10.mono ?_;rintro e w10 ⟨B,rfl,sm,kp⟩
 have C11:=sm.rnew n
 have HW10:Hid (Below W0.heap.size W0 w10):=HW9.out.trans (kp.below HW9.out.size HQ.out)
 clear C10 sm kp HW9
 go_wp2_with fail
 refine C11.mono ?_;rintro e w11 ⟨B2,rfl,sb,kp⟩
 have HW11:Hid (Below W0.heap.size W0 w11):=HW10.out.trans (kp.below HW10.out.size HQ.out)
 have H0:Hid (∃d r,Sb (fun g=>g<w1.heap.size) w11 B T S hb B2 RT G (1000+80 * 0) d r∧RI d r∧Sy n d.1∧d.1.wt.length≤0):=⟨_,_,sb,RI.zero n _,.inl rfl,Nat.le_refl _⟩
 clear C11 sb kp HW10
 go_wp2_with fail
 go_loopw [10,11] (fun lw iw wr=>∃(i:Nat) (less:Bool),iw= .int .i64 (i:Nat)∧lw= .bool less∧i≤3000∧Hid (∃d r,Sb (fun g=>g<w1.heap.size) wr B T S hb B2 RT G (1000+80 * i) d r∧RI d r∧Sy n d.1∧d.1.wt.length≤i)∧Hid (Below W0.heap.size W0 wr)) (fun _ iw _=>3000 - (intOf iw).toNat)
 case atStart=>exact ⟨0,false,rfl,rfl,by omega,H0,HW11⟩
 case round=>
  obtain ⟨i,less,rfl,rfl,hi,HR,HW⟩:=hrel
  obtain ⟨d,r,sb,ri,sy,hwt⟩:=HR.out
  clear HR H0 HW11
  by_cases hi3:i<3000
  ·have hi4:(i:Int)<3000:=by omega
   obtain ⟨fit,ha⟩:=sy.fit hn3 (by omega)
   have pb:=sy.pb
   have CN:=sb.next (by omega) fit less ha
   obtain ⟨g1,g2⟩:=ri.go less
   have sy2:=sy.go hn3 (d:=d) less
   have hlen:=U.go_len d less
   have hfin:=ri.fin less
   have HRn:Hid (∀(Q:Nat→Prop) W dd,Sb Q W B T S hb B2 RT G (1000+80 * i+40) dd r→Calls Tryz.prog 13 #[.pointer (some ⟨B2,0,none⟩),.bool less] W fun e w'=>e= .returned (tol4 (rnx r less).2)∧Sb Q w' B T S hb B2 RT G (1000+80 * i+40+40) dd (rnx r less).1∧Keep Q W w'):=fun Q W dd k=>k.rnext (by omega) ri fit pb less
   rw[g2] at HRn hfin
   obtain ⟨R,hR⟩:∃R,goR d less=R:=⟨_,rfl⟩
   obtain ⟨r2,hr2⟩:∃x,(rnx r less).1=x:=⟨_,rfl⟩
   rw[hR] at CN g1 sy2 hlen hfin HRn
   rw[hr2] at g1 HRn
   obtain ⟨d2,tl⟩:=R
   simp only at CN g1 sy2 hlen hfin HRn
   have HS:Hid (RI d2 r2∧Sy n d2.1∧d2.1.wt.length≤i+1):=⟨g1,sy2,by omega⟩
   have HF:Hid (tl.2.2.1=false→d2.1.ak=6∧tl=endT d2.1.er∧∀l2,goR d2 l2=(d2,endT d2.1.er)):=hfin
   unfold tol4 at CN HRn
   clear sb ri sy hwt fit ha pb g1 g2 sy2 hlen hfin hR hr2
   go_wp2_with fail
   refine CN.mono ?_;rintro e w5 ⟨rfl,sb5,k5⟩
   have B6:=b2 w5 (vb tl.1.1 tl.1.2.1 tl.1.2.2) (vb tl.2.1.1 tl.2.1.2.1 tl.2.1.2.2)
   have sb6:=sb5.news B6
   have hW5:Below W0.heap.size W0 w5:=HW.out.trans (k5.below HW.out.size HQ.out)
   have hW6:=bthen hW5 hW5.size B6
   have XA:=(Bx.made w5 tl.1).below (b1 (w5.alloc (vb tl.1.1 tl.1.2.1 tl.1.2.2)) (vb tl.2.1.1 tl.2.1.2.1 tl.2.1.2.2))
   have XB:=Bx.made (w5.alloc (vb tl.1.1 tl.1.2.1 tl.1.2.2)) tl.2.1
   have z5:(w5.alloc (vb tl.1.1 tl.1.2.1 tl.1.2.2)).heap.size=w5.heap.size+1:=by simp
   rw[z5] at XB
   obtain ⟨W6,eW6⟩:∃W6,(w5.alloc (vb tl.1.1 tl.1.2.1 tl.1.2.2)).alloc (vb tl.2.1.1 tl.2.1.2.1 tl.2.1.2.2)=W6:=⟨_,rfl⟩
   rw[eW6] at sb6 hW6 XA XB
   unfold vb at eW6
   have HW6:Hid (Below W0.heap.size W0 W6):=hW6
   have hl5:=XB.lt
   obtain ⟨Q6,hQ6⟩:∃Q6:Nat→Prop,(fun g=>g<w1.heap.size∨(w5.heap.size≤g∧g<W6.heap.size))=Q6:=⟨_,rfl⟩
   have HQ6:Hid ((∀g,g<w1.heap.size→Q6 g)∧Q6 w5.heap.size∧Q6 (w5.heap.size+1)):=by
    show _∧_∧_
    subst hQ6
    exact ⟨fun g q=>.inl q,.inr ⟨by omega,by omega⟩,.inr ⟨by omega,by omega⟩⟩
   rw[hQ6] at sb6
   have HXA:Hid (Bx W6 w5.heap.size tl.1∧Bx W6 (w5.heap.size+1) tl.2.1):=⟨XA,XB⟩
   have CR:=HRn.out Q6 W6 d2 sb6
   clear hQ6 hl5 CN sb5 k5 B6 sb6 hW5 hW6 XA XB z5 HRn HW
   go_wp2_with fail
   refine CR.mono ?_;rintro e w7 ⟨rfl,sb7,k7⟩
   have B8:=b2 w7 (vb tl.1.1 tl.1.2.1 tl.1.2.2) (vb tl.2.1.1 tl.2.1.2.1 tl.2.1.2.2)
   have sb8:=(sb7.below B8).sub HQ6.out.1
   have hW7:Below W0.heap.size W0 w7:=HW6.out.trans (k7.below HW6.out.size (fun g hg=>HQ6.out.1 g (HQ.out g hg)))
   have hW8:=bthen hW7 hW7.size B8
   have XC:=(Bx.made w7 tl.1).below (b1 (w7.alloc (vb tl.1.1 tl.1.2.1 tl.1.2.2)) (vb tl.2.1.1 tl.2.1.2.1 tl.2.1.2.2))
   have XD:=Bx.made (w7.alloc (vb tl.1.1 tl.1.2.1 tl.1.2.2)) tl.2.1
   have z7:(w7.alloc (vb tl.1.1 tl.1.2.1 tl.1.2.2)).heap.size=w7.heap.size+1:=by simp
   rw[z7] at XD
   have XA:=(HXA.out.1.kept k7 HQ6.out.2.1).below B8
   have XB:=(HXA.out.2.kept k7 HQ6.out.2.2).below B8
   obtain ⟨W8,eW8⟩:∃W8,(w7.alloc (vb tl.1.1 tl.1.2.1 tl.1.2.2)).alloc (vb tl.2.1.1 tl.2.1.2.1 tl.2.1.2.2)=W8:=⟨_,rfl⟩
   rw[eW8] at sb8 hW8 XA XB XC XD
   unfold vb at eW8
   have HW8:Hid (Below W0.heap.size W0 W8):=hW8
   have HS8:Hid (Sb (fun g=>g<w1.heap.size) W8 B T S hb B2 RT G (1000+80 * i+40+40) d2 r2):=sb8
   have a0:=XA.c0
   have a1:=XA.c1
   have a2:=XA.c2
   have b0:=XB.c0
   have b1':=XB.c1
   have b2':=XB.c2
   have k0:=XC.c0
   have k1:=XC.c1
   have k2:=XC.c2
   have d0:=XD.c0
   have d1:=XD.c1
   have d3:=XD.c2
   have NA:=same32 tl.1
   have NB:=same32 tl.2.1
   have g32:=guard32
   clear CR sb7 k7 B8 sb8 hW7 hW8 XA XB XC XD z7 HXA HQ6 HW6
   have hr50:(i:Int).tmod 50=((i % 50:Nat):Int):=by rw[Int.tmod_eq_emod_of_nonneg (by omega)];omega
   have hw50:IntKind.i64.wrap ((i % 50:Nat):Int)=((i % 50:Nat):Int):=by rw[IntKind.wrap_i64];omega
   have HAl:Hid (∀W c' d',Sb (fun g=>g<w1.heap.size) W B T S hb B2 RT G c' d' r2→d'.2.1=d2.2.1→Calls Tryz.prog 14 #[.pointer (some ⟨T,0,none⟩),.pointer (some ⟨RT,0,none⟩)] W fun e w'=>e= .returned (.bool true)∧Below W.heap.size W w'):=fun W c' d' k q=>by
    have z:=k.bz
    rw[show r2.2.1=d'.2.1 by rw[HS.out.1.tb,q]] at z
    exact alike_any z
   have CA:=HAl.out W8 _ _ HS8.out rfl
   obtain ⟨m50,hm50⟩:∃m,i % 50=m:=⟨_,rfl⟩
   rw[hm50] at hr50 hw50
   clear hm50
   by_cases h50:m50=0
   ·subst h50
    go_wp2_with fail
    refine CA.mono ?_;rintro e w9 ⟨rfl,hb9⟩
    have HS9:Hid (Sb (fun g=>g<w1.heap.size) w9 B T S hb B2 RT G (1000+80 * i+40+40) d2 r2):=HS8.out.below hb9
    have HW9:Hid (Below W0.heap.size W0 w9):=bthen HW8.out HW8.out.size hb9
    clear CA hb9 HS8 HW8
    cases hm:tl.2.2.1
    ·obtain ⟨_,htl,hgo⟩:=HF.out hm
     obtain ⟨fit2,ha2⟩:=HS.out.2.1.fit hn3 (by have:=HS.out.2.2;omega)
     have C12:=HS9.out.next (by omega) fit2 true ha2
     rw[hgo true] at C12
     have he:tl.2.2.2=d2.1.er:=by rw[htl];rfl
     unfold tol4 endT at C12
     simp only at C12
     have HE:Hid (tl.2.2.2=d2.1.er):=he
     clear hgo htl he fit2 ha2
     go_wp2_with fail
     rw[HE.out]
     clear NA NB a0 a1 a2 b0 b1' b2' k0 k1 k2 d0 d1 d3 eW6 eW8
     refine C12.mono ?_;rintro e wA ⟨rfl,sbA,kA9⟩
     have CB:=HAl.out wA _ _ sbA rfl
     have HWA:Hid (Below W0.heap.size W0 wA):=HW9.out.trans (kA9.below HW9.out.size HQ.out)
     clear C12 sbA kA9 HAl
     go_wp2_with fail
     refine CB.mono ?_;rintro e wB ⟨rfl,hbB⟩
     have HWB:Hid (Below w.heap.size w wB):=bthen HB0.out HB0.out.size (bthen HWA.out HWA.out.size hbB)
     clear CB hbB HWA
     go_wp2
     go_ret
     exact ⟨rfl,HWB.out⟩
    ·have wi2:IntKind.i64.wrap ((i:Int)+1)=(i:Int)+1:=by rw[IntKind.wrap_i64];omega
     obtain ⟨x0,x1,x2⟩:=HX.out w9 HW9.out
     have HKK:Hid (∀less':Bool,∃(i':Nat) (less:Bool),Value.int .i64 ((i:Int)+1)= .int .i64 (i':Nat)∧Value.bool less'= .bool less∧i'≤3000∧∀Wx,Below w9.heap.size w9 Wx→Hid (∃d r,Sb (fun g=>g<w1.heap.size) Wx B T S hb B2 RT G (1000+80 * i') d r∧RI d r∧Sy n d.1∧d.1.wt.length≤i')∧Hid (Below W0.heap.size W0 Wx)):=fun less'=>⟨i+1,less',by simp,rfl,by omega,fun Wx kx=>⟨⟨_,_,(HS9.out.below kx).more (by omega),HS.out.1,HS.out.2.1,HS.out.2.2⟩,bthen HW9.out HW9.out.size kx⟩⟩
     clear HAl
     go_wp2_with fail
     clear NA NB a0 a1 a2 b0 b1' b2' k0 k1 k2 d0 d1 d3 eW6 eW8
     by_cases hla:0<La
     ·have h5:(0:Int)<(La:Int):=by omega
      have h6:¬(La:Int)=0:=by omega
      have hrem:(i:Int).tmod (La:Int)=((i % La:Nat):Int):=by rw[Int.tmod_eq_emod_of_nonneg (by omega)];simp
      have hidx:=Nat.mod_lt i hla
      obtain ⟨lb5,off5,rfl,hl5,q5⟩:=(HV.out.2.below HW9.out).at' (i % La) hidx
      have wrem:IntKind.i64.wrap ((i % La:Nat):Int)=((i % La:Nat):Int):=by rw[IntKind.wrap_i64];omega
      obtain ⟨jx,hjx⟩:∃jx,i % La=jx:=⟨_,rfl⟩
      rw[hjx] at hrem hidx q5 wrem
      have h7:(jx:Int)<(La:Int):=by omega
      have h8:¬(jx:Int)<0:=by omega
      clear hjx hl5
      go_quiet (fail)
      go_wp2
      go_round
      case rel=>
       obtain ⟨i',l',e1,e2,e3,e4⟩:=HKK.out (An jx)
       exact ⟨i',l',by first | exact e1 | simpa using e1,by first | exact e2 | simpa using e2,e3,e4 _ (bdrX _ _)⟩
      case measure=>first | omega | (simp only[intOf];omega) | (simp;omega)
     ·have h5:¬(0:Int)<(La:Int):=by omega
      go_quiet (fail)
      go_wp2
      go_round
      case rel=>
       obtain ⟨i',l',e1,e2,e3,e4⟩:=HKK.out false
       exact ⟨i',l',by first | exact e1 | simpa using e1,by first | exact e2 | simpa using e2,e3,e4 _ (bdrX _ _)⟩
      case measure=>first | omega | (simp only[intOf];omega) | (simp;omega)
   ·have h51:((m50:Int)==0)=false:=by simpa using h50
    clear CA
    cases hm:tl.2.2.1
    ·obtain ⟨_,htl,hgo⟩:=HF.out hm
     obtain ⟨fit2,ha2⟩:=HS.out.2.1.fit hn3 (by have:=HS.out.2.2;omega)
     have C12:=HS8.out.next (by omega) fit2 true ha2
     rw[hgo true] at C12
     have he:tl.2.2.2=d2.1.er:=by rw[htl];rfl
     unfold tol4 endT at C12
     simp only at C12
     have HE:Hid (tl.2.2.2=d2.1.er):=he
     clear hgo htl he fit2 ha2
     go_wp2_with fail
     rw[HE.out]
     clear NA NB a0 a1 a2 b0 b1' b2' k0 k1 k2 d0 d1 d3 eW6 eW8
     refine C12.mono ?_;rintro e wA ⟨rfl,sbA,kA9⟩
     have CB:=HAl.out wA _ _ sbA rfl
     have HWA:Hid (Below W0.heap.size W0 wA):=HW8.out.trans (kA9.below HW8.out.size HQ.out)
     clear C12 sbA kA9 HAl
     go_wp2_with fail
     refine CB.mono ?_;rintro e wB ⟨rfl,hbB⟩
     have HWB:Hid (Below w.heap.size w wB):=bthen HB0.out HB0.out.size (bthen HWA.out HWA.out.size hbB)
     clear CB hbB HWA
     go_wp2
     go_ret
     exact ⟨rfl,HWB.out⟩
    ·have wi2:IntKind.i64.wrap ((i:Int)+1)=(i:Int)+1:=by rw[IntKind.wrap_i64];omega
     obtain ⟨x0,x1,x2⟩:=HX.out W8 HW8.out
     have HKK:Hid (∀less':Bool,∃(i':Nat) (less:Bool),Value.int .i64 ((i:Int)+1)= .int .i64 (i':Nat)∧Value.bool less'= .bool less∧i'≤3000∧∀Wx,Below W8.heap.size W8 Wx→Hid (∃d r,Sb (fun g=>g<w1.heap.size) Wx B T S hb B2 RT G (1000+80 * i') d r∧RI d r∧Sy n d.1∧d.1.wt.length≤i')∧Hid (Below W0.heap.size W0 Wx)):=fun less'=>⟨i+1,less',by simp,rfl,by omega,fun Wx kx=>⟨⟨_,_,(HS8.out.below kx).more (by omega),HS.out.1,HS.out.2.1,HS.out.2.2⟩,bthen HW8.out HW8.out.size kx⟩⟩
     clear HAl
     go_wp2_with fail
     clear NA NB a0 a1 a2 b0 b1' b2' k0 k1 k2 d0 d1 d3 eW6 eW8
     by_cases hla:0<La
     ·have h5:(0:Int)<(La:Int):=by omega
      have h6:¬(La:Int)=0:=by omega
      have hrem:(i:Int).tmod (La:Int)=((i % La:Nat):Int):=by rw[Int.tmod_eq_emod_of_nonneg (by omega)];simp
      have hidx:=Nat.mod_lt i hla
      obtain ⟨lb5,off5,rfl,hl5,q5⟩:=(HV.out.2.below HW8.out).at' (i % La) hidx
      have wrem:IntKind.i64.wrap ((i % La:Nat):Int)=((i % La:Nat):Int):=by rw[IntKind.wrap_i64];omega
      obtain ⟨jx,hjx⟩:∃jx,i % La=jx:=⟨_,rfl⟩
      rw[hjx] at hrem hidx q5 wrem
      have h7:(jx:Int)<(La:Int):=by omega
      have h8:¬(jx:Int)<0:=by omega
      clear hjx hl5
      go_quiet (fail)
      go_wp2
      go_round
      case rel=>
       obtain ⟨i',l',e1,e2,e3,e4⟩:=HKK.out (An jx)
       exact ⟨i',l',by first | exact e1 | simpa using e1,by first | exact e2 | simpa using e2,e3,e4 _ (bdrX _ _)⟩
      case measure=>first | omega | (simp only[intOf];omega) | (simp;omega)
     ·have h5:¬(0:Int)<(La:Int):=by omega
      go_quiet (fail)
      go_wp2
      go_round
      case rel=>
       obtain ⟨i',l',e1,e2,e3,e4⟩:=HKK.out false
       exact ⟨i',l',by first | exact e1 | simpa using e1,by first | exact e2 | simpa using e2,e3,e4 _ (bdrX _ _)⟩
      case measure=>first | omega | (simp only[intOf];omega) | (simp;omega)
  ·have hi4:¬(i:Int)<3000:=by omega
   have CA:=(show Bz (fun g=>g<w1.heap.size) wr T S hb RT G (1000+80 * i) d.2.1 d.2.2 d.2.1 d.2.2 by have:=sb.bz;rw[ri.tb] at this;exact this)
   have CA:=alike_any CA
   unfold tp at CA
   have HWr:=HW
   clear sb ri sy hwt
   go_wp2_with fail
   refine CA.mono ?_;rintro e w5 ⟨rfl,hb5⟩
   have HW5:Hid (Below w.heap.size w w5):=bthen HB0.out HB0.out.size (bthen HW.out HW.out.size hb5)
   clear CA hb5
   go_wp2_with fail
   go_ret
   exact ⟨rfl,HW5.out⟩
end Go.Proofs.YtkmopcanaalemabGreat
