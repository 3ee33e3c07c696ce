import Derived.Test.YtkmopcanaalemabGreatCg18
import Derived.Test.YtkmopcanaalemabGreatCg25
import Derived.Test.YtkmopcanaalemabGreatCg12
import Derived.BigRegion
import Derived.Deep.DeepCutAuto
import Derived.Test.YtkmopcanaalemabGreatCg08
import Derived.Test.YtkmopcanaalemabGreatCg04
import Derived.Test.YtkmopcanaalemabGreatCg02
import Derived.Test.YtkmopcanaalemabGreatCg16
import Derived.Test.YtkmopcanaalemabGreatCg17
namespace Go.Proofs.YtkmopcanaalemabGreat
open Go.RowKit
theorem chk_fm (v:V):(chk v.1 v.2.1 v.2.2=0↔fm v=true):=by
 show (if fm v=true then (0:Int) else 2)=0↔fm v=true
 split
 ·rename_i q;exact ⟨fun _=>q,fun _=>rfl⟩
 ·rename_i q;exact ⟨fun z=>absurd z (by decide),fun z=>absurd z q⟩
abbrev cw3 (v:Value) (n:Int) (an:Value):Value:=.agg #[v,.int .i64 n,an]
structure Bgo (w:World) (L:Nat) (F:Nat→V) (e:Ending) (w':World):Prop where
 ex:∃T S hb RT G t s,e= .returned (.tuple #[.pointer (some ⟨T,0,none⟩),.pointer (some ⟨RT,0,none⟩),.int .i64 (nlast F (min L 60)),.bool true])∧Bz (fun g=>g<w.heap.size) w' T S hb RT G 1000 t s t s∧Bj F (min L 60) t s∧Below w.heap.size w w'
set_option maxRecDepth 20000 in
set_option maxHeartbeats 4000000 in
theorem begin16 {w:World} {G0:Nat} {ad:Option Addr} {cap L:Nat} {F:Nat→V} (hl:Lv w G0 (.slice ad L cap) L F) (hL:L≤100000) (nv:Int) (an:Value):
 Calls Tryz.prog 9 #[cw3 (.slice ad L cap) nv an] w (Bgo w L F):=by
 obtain ⟨n',z,hok,rfl,rfl⟩:=ok3
 have iv:=H.Inv.new 3000 (by omega) (by omega)
 have C1:=fun W=>H.new_walk W 3000 (by omega) (by omega)
 have B0:=b1 w (.cells #[.slice ad L cap,.int .i64 nv,an] 25)
 have c0:(w.alloc (.cells #[.slice ad L cap,.int .i64 nv,an] 25)).heap[w.heap.size]?=some (.cells #[.slice ad L cap,.int .i64 nv,an] 25):=(MapKept.heap_alloc w _).1
 obtain ⟨W0,hW0⟩:∃W0,w.alloc (.cells #[.slice ad L cap,.int .i64 nv,an] 25)=W0:=⟨_,rfl⟩
 rw[hW0] at B0 c0
 have hp:=new_hp W0 3000 (fun g=>g<W0.heap.size) (fun g q=>q)
 have B1:=b2 W0 (.map #[] 0) (.cells #[.int .i64 3000,.int .i64 0,.int .i64 0,.slice none 0 0,.map (some W0.heap.size)] 105)
 have C1':=C1 W0
 obtain ⟨W1,hW1⟩:∃W1,(W0.alloc (.map #[] 0)).alloc (.cells #[.int .i64 3000,.int .i64 0,.int .i64 0,.slice none 0 0,.map (some W0.heap.size)] 105)=W1:=⟨_,rfl⟩
 rw[hW1] at hp B1 C1'
 have C2:=hok.new hp (by omega) iv
 have HB1:Hid (Below W0.heap.size W0 W1):=B1
 have HBs:Hid (W0.heap.size≤W1.heap.size):=B1.size
 have HC3:Hid (∀W:World,RH (fun g=>g<W.heap.size) (W.alloc (.cells #[.int .i64 3000,.int .i64 0,.int .i64 0,.slice none 0 0] 67)) W.heap.size 0 (H.newSt 3000)):=fun W=>new_rh W 3000 _ (fun g q=>q)
 have HOK:Hid (Okn (H.newSt 3000) 0 0 0 0):=hok
 have HIv:Hid (H.Inv 0 (H.newSt 3000)):=iv
 have HS1:Hid (H.Inv 0 (nS (H.newSt 3000) 0 0)):=nS_inv iv 0 0
 have HBG:Hid (∀(W2 W3 W4:World) (T A b a RT RA P ka va ca:Nat),TT (fun g=>g<W0.heap.size) W2 T A b a (W0.heap.size+1) W0.heap.size (0+3) (newT 0 0 (H.takeId (H.takeSt (H.newSt 3000) 4) (0:Nat)) (H.takeId (H.takeSt (H.takeSt (H.newSt 3000) 4) (0:Nat)) (3 * (0:Nat)))) (nS (H.newSt 3000) 0 0)→Keep (fun g=>g<W0.heap.size) W1 W2→Below W2.heap.size W2 W3→Keep (fun g=>g<W2.heap.size) W3 W4→
  RH (fun g=>g<W2.heap.size∨g=RT∨g=RA∨g=P∨g=ka∨g=va∨g=ca) W4 W2.heap.size (0+3) (nS (H.newSt 3000) 0 0)→Nr W3 W4 0 0 RT RA P ka va ca W2.heap.size (H.takeId (H.takeSt (H.newSt 3000) 4) (0:Nat)) (H.takeId (H.takeSt (H.takeSt (H.newSt 3000) 4) (0:Nat)) (3 * (0:Nat)))→
  Bgn W0 W4 W2.heap.size T A b a (W0.heap.size+1) W0.heap.size RT RA P ka va ca W2.heap.size 0 0 (newT 0 0 (H.takeId (H.takeSt (H.newSt 3000) 4) (0:Nat)) (H.takeId (H.takeSt (H.takeSt (H.newSt 3000) 4) (0:Nat)) (3 * (0:Nat)))) (nS (H.newSt 3000) 0 0)):=fun W2 W3 W4 T A b a RT RA P ka va ca tt2 kk2 B3 kk4 rh4 nr4=>by
  have hb2:=HB1.out.trans (kk2.below HB1.out.size (fun g hg=>hg))
  have hb4:Below W0.heap.size W0 W4:=hb2.trans ((B3.mono hb2.size).trans (kk4.below (Nat.le_trans hb2.size B3.size) (fun g hg=>Nat.lt_of_lt_of_le hg hb2.size)))
  have t3:=tt2.news B3
  refine ⟨(t3.frame2 kk4.os kk4.tape kk4.output kk4.size (fun g hg hn=>kk4.block g hg ?_)).sub (fun g q=>?_),rh4,⟨W3,B3.size,nr4⟩,hb4,hb2.size,HS1.out,rfl,HOK.out.hz,HOK.out.hn⟩
  ·rcases Nat.lt_or_ge g W2.heap.size with q | q
   ·exact q
   ·exact absurd (.inr ⟨q,hg⟩) hn
  ·have:=kk4.size
   rcases q with q | q
   ·exact .inl (.inl q)
   ·rcases Nat.lt_or_ge g W3.heap.size with q2 | q2
    ·exact .inl (.inr ⟨q.1,q2⟩)
    ·exact .inr ⟨q2,q.2⟩
 have HBJ:Hid (Bj F 0 (newT 0 0 (H.takeId (H.takeSt (H.newSt 3000) 4) (0:Nat)) (H.takeId (H.takeSt (H.takeSt (H.newSt 3000) 4) (0:Nat)) (3 * (0:Nat)))) (nS (H.newSt 3000) 0 0)):=
  ⟨hok.tb iv rfl rfl rfl,by kernel_rfl,⟨by decide,by decide,Nat.le_refl _⟩,fun x _=>by
   unfold bgm
   rw[if_neg (fun q=>by have:=q.2.1;have:=q.2.2.1;omega)]
   unfold pget
   rw[if_neg (fun q=>by have h1:=q.2.2.1;have h2:x.2.1≤((0:Nat):Int):=q.2.2.2;omega)]
   rfl⟩
 have HL:Hid (Lv W0 G0 (.slice ad L cap) L F∧(∀g,(Value.slice ad L cap).ownBlock=some g→g<w.heap.size)∧w.heap.size<W0.heap.size):=⟨hl.below B0,fun g q=>(hl.own.lt g q).2,by rw[←hW0];simp⟩
 have HB0:Hid (Below w.heap.size w W0):=B0
 have HC0:Hid (W0.heap[w.heap.size]?=some (.cells #[.slice ad L cap,.int .i64 nv,an] 25)):=c0
 clear B0 B1 c0 C1 hp iv hok hl
 go_enter Tryz.func9,Tryz.ntmps9
 go_wp2_with fail
 refine C1'.mono ?_;rintro e w1 ⟨rfl,hw1⟩;rw[hw1];clear hw1 C1'
 go_wp2_with fail
 refine C2.mono ?_;rintro e W2 ⟨T,A,b,a',rfl,tt2,kk2⟩
 have B3:=b1 W2 (.cells #[.int .i64 3000,.int .i64 0,.int .i64 0,.slice none 0 0] 67)
 have rh:=HC3.out W2
 have HT2:Hid _:=And.intro tt2 kk2
 obtain ⟨W3,hW3⟩:∃W3,W2.alloc (.cells #[.int .i64 3000,.int .i64 0,.int .i64 0,.slice none 0 0] 67)=W3:=⟨_,rfl⟩
 rw[hW3] at B3 rh
 have C4:=HOK.out.rnew rh (by omega) HIv.out
 have HB3:Hid (Below W2.heap.size W2 W3):=B3
 clear C2 tt2 kk2 B3 rh
 go_wp2_with fail
 refine C4.mono ?_;rintro e W4 ⟨RT,RA,P,ka,va,ca,rfl,rh4,kk4,nr4⟩
 have bg:=HBG.out W2 W3 W4 T A b a' RT RA P ka va ca HT2.out.1 HT2.out.2 HB3.out kk4 rh4 nr4
 have HF:Hid (∃t s,Bz (fun g=>g<W0.heap.size) W4 T (W0.heap.size+1) W0.heap.size RT W2.heap.size (3+14 * 0) t s t s∧Bj F 0 t s∧Below W0.heap.size W0 W4):=⟨_,_,bg.bz,HBJ.out,bg.bel⟩
 obtain ⟨G,hG⟩:∃G,W2.heap.size=G:=⟨_,rfl⟩
 obtain ⟨S,hS⟩:∃S,W0.heap.size+1=S:=⟨_,rfl⟩
 obtain ⟨hb,hhb⟩:∃hb,W0.heap.size=hb:=⟨_,rfl⟩
 rw[hG,hS] at HF
 clear bg
 clear C4 rh4 kk4 nr4 HBG HBJ HC3 HT2 HB3 HOK HIv HS1 HB1 HBs
 go_wp2
 go_loopw [12,13] (fun nw iw wr=>∃k:Nat,iw= .int .i64 (k:Nat)∧k≤L∧k≤60∧nw= .int .i64 (nlast F k)∧Hid (∃t s,Bz (fun g=>g<W0.heap.size) wr T S W0.heap.size RT G (3+14 * k) t s t s∧Bj F k t s∧Below W0.heap.size W0 wr)) (fun _ iw _=>60 - (intOf iw).toNat)
 case atStart=>exact ⟨0,rfl,by omega,by omega,rfl,HF.out⟩
 case round=>
  obtain ⟨k,rfl,hkL,hk60,rfl,HR⟩:=hrel
  obtain ⟨t,s,bz,bj,bw⟩:=HR.out
  have HBJ:Hid (Bj F k t s):=bj
  have HZ:Hid (Bz (fun g=>g<W0.heap.size) wr T S W0.heap.size RT G (3+14 * k) t s t s):=bz
  have HW:Hid (Below W0.heap.size W0 wr):=bw
  have hX:wr.cell? ⟨w.heap.size,0,none⟩=some (.slice ad L cap):=by
   have:=bw.block w.heap.size HL.out.2.2
   simp only[World.cell?,this,HC0.out]
   rfl
  clear HR HF bz bj bw
  by_cases hk:k<L∧k<60
  ·obtain ⟨hk1,hk2⟩:=hk
   have h1:(k:Int)<(L:Int):=by omega
   have h2:(k:Int)<60:=by omega
   obtain ⟨g,cp,ev,_,hg1,_,_,_,_⟩:=HL.out.1.at hk1
   cases ev
   have HCell:Hid (∀Wq,Below W0.heap.size W0 Wq→Wq.cell? ⟨w.heap.size,0,none⟩=some (.slice (some ⟨g,0,none⟩) L cap)∧Wq.cell? ⟨g,k * 3,none⟩=some (.int .i64 (F k).1)∧Wq.cell? ⟨g,k * 3+1,none⟩=some (.int .i64 (F k).2.1)∧Wq.cell? ⟨g,k * 3+2,none⟩=some (.string (F k).2.2)):=fun Wq kq=>by
    obtain ⟨g',c',e',_,_,_,q0,q1,q2⟩:=(HL.out.1.below kq).at hk1
    cases e'
    refine ⟨?_,q0,q1,q2⟩
    have:=kq.block w.heap.size HL.out.2.2
    simp only[World.cell?,this,HC0.out]
    rfl
   obtain ⟨_,l0,l1,l2⟩:=HCell.out wr HW.out
   have CK:=rcheck_any (F k).1 (F k).2.1 (F k).2.2 wr
   have wk:IntKind.i64.wrap ((k:Int)+1)=(k:Int)+1:=by rw[IntKind.wrap_i64];omega
   have BK:=bw1 wr (vb (F k).1 (F k).2.1 (F k).2.2)
   obtain ⟨wk1,hwk1⟩:∃wk1,wr.alloc (vb (F k).1 (F k).2.1 (F k).2.2)=wk1:=⟨_,rfl⟩
   rw[hwk1] at CK BK
   have HZ1:Hid (Bz (fun g=>g<W0.heap.size) wk1 T S W0.heap.size RT G (3+14 * k) t s t s):=HZ.out.below BK
   have HW1:Hid (Below W0.heap.size W0 wk1):=bthen HW.out HW.out.size BK
   have hfm:=chk_fm (F k)
   unfold vl at CK
   by_cases hf:fm (F k)=true
   ·rw[hfm.2 hf] at CK
    have hr:Rng (kn ((k:Int)+1)):=rng_kn (by omega) (by omega)
    have HI:Hid (∀Wq,Calls Tryz.prog 17 #[.int .i64 ((k:Int)+1)] Wq fun e w'=>e= .returned (.agg #[.int .i64 2,.int .i64 ((k:Int)+1),.string ⟨#[]⟩])∧Below Wq.heap.size Wq w'):=fun Wq=>mkI ((k:Int)+1) Wq
    have HS2:Hid (∀Wq,Bz (fun g=>g<W0.heap.size) Wq T S W0.heap.size RT G (3+14 * k) t s t s→Calls Tryz.prog 26 #[.pointer (some ⟨T,0,none⟩),.agg #[.int .i64 2,.int .i64 ((k:Int)+1),.string ⟨#[]⟩],.agg #[.int .i64 (F k).1,.int .i64 (F k).2.1,.string (F k).2.2]] Wq fun e w'=>e= .returned (.int .i64 (tset t s (kn ((k:Int)+1)) (F k)).2.2)∧Bz (fun g=>g<W0.heap.size) w' T S W0.heap.size RT G (3+14 * k+7) (tset t s (kn ((k:Int)+1)) (F k)).1 (tset t s (kn ((k:Int)+1)) (F k)).2.1 t s∧Keep (fun g=>g<W0.heap.size) Wq w'):=fun Wq z=>z.set (by omega) (kn ((k:Int)+1)) (F k) hr
    have HS3:Hid (∀Wq,Bz (fun g=>g<W0.heap.size) Wq T S W0.heap.size RT G (3+14 * k+7) (tset t s (kn ((k:Int)+1)) (F k)).1 (tset t s (kn ((k:Int)+1)) (F k)).2.1 t s→Calls Tryz.prog 27 #[.pointer (some ⟨RT,0,none⟩),.agg #[.int .i64 2,.int .i64 ((k:Int)+1),.string ⟨#[]⟩],.agg #[.int .i64 (F k).1,.int .i64 (F k).2.1,.string (F k).2.2]] Wq fun e w'=>e= .returned (.int .i64 (tset t s (kn ((k:Int)+1)) (F k)).2.2)∧Bz (fun g=>g<W0.heap.size) w' T S W0.heap.size RT G (3+14 * k+7+7) (tset t s (kn ((k:Int)+1)) (F k)).1 (tset t s (kn ((k:Int)+1)) (F k)).2.1 (tset t s (kn ((k:Int)+1)) (F k)).1 (tset t s (kn ((k:Int)+1)) (F k)).2.1∧Keep (fun g=>g<W0.heap.size) Wq w'):=fun Wq z=>z.rset (by omega) (kn ((k:Int)+1)) (F k) hr
    have hn':nlast F (k+1)=(k:Int)+1:=by unfold nlast;rw[if_pos hf]
    have HN:Hid (nlast F (k+1)=(k:Int)+1):=hn'
    have HF1:Hid (fm (F k)=true):=hf
    obtain ⟨o0,o1,o2,o3⟩:=HCell.out wk1 HW1.out
    clear hf hfm HZ HW BK hr hn'
    go_wp2_with fail
    refine CK.mono ?_;rintro e w1 ⟨rfl,hw1⟩;rw[hw1];clear hw1 CK
    go_wp2_with fail
    go_cut [] (fun wx=>Hid (Bz (fun g=>g<W0.heap.size) wx T S W0.heap.size RT G (3+14 * k+7) (tset t s (kn ((k:Int)+1)) (F k)).1 (tset t s (kn ((k:Int)+1)) (F k)).2.1 t s∧Below W0.heap.size W0 wx))
    case first=>
     go_region_with (first
      | (go_at_call 17;refine (HI.out _).mono ?_;rintro e w2 ⟨rfl,hb2⟩;have HB2:Hid (Below W0.heap.size W0 w2∧Below wk1.heap.size wk1 w2):=(by have hb3:=bthen (bdrew1 wk1) (bdrew1 wk1).size hb2;exact ⟨bthen HW1.out HW1.out.size hb3,hb3⟩);obtain ⟨i0,i1,i2,i3⟩:=HCell.out w2 HB2.out.1;clear hb2)
      | (go_at_call 26;refine (HS2.out w2 (HZ1.out.below HB2.out.2)).mono ?_;rintro e w3 ⟨rfl,b3,k3⟩;have HB3:Hid (_∧_):=And.intro b3 (HB2.out.1.trans (k3.below HB2.out.1.size (fun g hg=>hg)));clear b3 k3))
     all_goals
      go_wp2_with fail
      go_meet
      exact HB3
    case rest=>
     have HZ2:Hid (Bz (fun g=>g<W0.heap.size) wc T S W0.heap.size RT G (3+14 * k+7) (tset t s (kn ((k:Int)+1)) (F k)).1 (tset t s (kn ((k:Int)+1)) (F k)).2.1 t s):=hcut.out.1
     have HW2:Hid (Below W0.heap.size W0 wc):=hcut.out.2
     obtain ⟨j0,j1,j2,j3⟩:=HCell.out wc HW2.out
     clear hcut HS2 o0 o1 o2 o3
     go_wp2_with fail
     go_cut [] (fun wx=>Hid (Bz (fun g=>g<W0.heap.size) wx T S W0.heap.size RT G (3+14 * k+7+7) (tset t s (kn ((k:Int)+1)) (F k)).1 (tset t s (kn ((k:Int)+1)) (F k)).2.1 (tset t s (kn ((k:Int)+1)) (F k)).1 (tset t s (kn ((k:Int)+1)) (F k)).2.1∧Below W0.heap.size W0 wx))
     case first=>
      go_region_with (first
       | (go_at_call 17;refine (HI.out _).mono ?_;rintro e w2 ⟨rfl,hb2⟩;have HB2:Hid (Below W0.heap.size W0 w2∧Below wc.heap.size wc w2):=(by have hb3:=bthen (bdrew1 wc) (bdrew1 wc).size hb2;exact ⟨bthen HW2.out HW2.out.size hb3,hb3⟩);obtain ⟨i0,i1,i2,i3⟩:=HCell.out w2 HB2.out.1;clear hb2)
       | (go_at_call 27;refine (HS3.out w2 (HZ2.out.below HB2.out.2)).mono ?_;rintro e w3 ⟨rfl,b3,k3⟩;have HB3:Hid (_∧_):=And.intro b3 (HB2.out.1.trans (k3.below HB2.out.1.size (fun g hg=>hg)));clear b3 k3))
      all_goals
       go_wp2_with fail
       go_meet
       exact HB3
     case rest=>
      clear HS3 HI j0 j1 j2 j3
      go_wp2
      go_round
      case rel=>
       obtain ⟨z1,z2⟩:=hcut.out
       have hti:=HZ1.out
       obtain ⟨N1,N2',⟨A1,b1',a1',tt1⟩,_⟩:=HZ1.out.tt
       refine ⟨k+1,by first | rfl | simp,by omega,by omega,by rw[HN.out],_,_,z1.more (by omega),HBJ.out.set tt1.ti tt1.iv HF1.out (by omega) z1.ti.1,z2⟩
      case measure=>first | omega | (simp;omega) | (simp only[intOf];omega)
   ·have hc2:chk (F k).1 (F k).2.1 (F k).2.2=2:=by
     show (if fm (F k)=true then (0:Int) else 2)=2
     rw[if_neg hf]
    rw[hc2] at CK
    have hn':nlast F (k+1)=nlast F k:=by conv=>lhs;unfold nlast;rw[if_neg hf]
    have HN:Hid (nlast F (k+1)=nlast F k):=hn'
    have HF1:Hid (¬fm (F k)=true):=hf
    clear hf hfm HZ HW BK hn' hc2
    go_wp2_with fail
    refine CK.mono ?_;rintro e w1 ⟨rfl,hw1⟩;rw[hw1];clear hw1 CK
    go_wp2
    go_round
    case rel=>exact ⟨k+1,by first | rfl | simp,by omega,by omega,by rw[HN.out],_,_,HZ1.out.more (by omega),HBJ.out.skip HF1.out,HW1.out⟩
    case measure=>first | omega | (simp;omega) | (simp only[intOf];omega)
  ·have hmin:k=min L 60:=by omega
   have h1:¬((k:Int)<(L:Int)∧(k:Int)<60):=by omega
   have HE:Hid (Bj F (min L 60) t s∧nlast F k=nlast F (min L 60)):=by rw[←hmin];exact ⟨HBJ.out,rfl⟩
   by_cases h2:(k:Int)<(L:Int)
   ·have h3:¬(k:Int)<60:=by omega
    clear h1 hk hmin
    go_wp2
    refine bodyPost_ret (v:=.tuple #[.pointer (some ⟨T,0,none⟩),.pointer (some ⟨RT,0,none⟩),.int .i64 (nlast F k),.bool true]) (by simp[results,Tryz.results9,go_sem]) rfl ⟨T,S,W0.heap.size,RT,G,t,s,by rw[HE.out.2],(HZ.out.more (c':=1000) (by omega)).sub (fun g q=>Nat.lt_of_lt_of_le q HB0.out.size),HE.out.1,bthen HB0.out HB0.out.size HW.out⟩
   ·clear h1 hk hmin
    go_wp2
    refine bodyPost_ret (v:=.tuple #[.pointer (some ⟨T,0,none⟩),.pointer (some ⟨RT,0,none⟩),.int .i64 (nlast F k),.bool true]) (by simp[results,Tryz.results9,go_sem]) rfl ⟨T,S,W0.heap.size,RT,G,t,s,by rw[HE.out.2],(HZ.out.more (c':=1000) (by omega)).sub (fun g q=>Nat.lt_of_lt_of_le q HB0.out.size),HE.out.1,bthen HB0.out HB0.out.size HW.out⟩
end Go.Proofs.YtkmopcanaalemabGreat





namespace Go.Proofs.YtkmopcanaalemabGreat
open Go.RowKit
def sf1 : SS:=⟨1,3,[],1,0,0,0,kn 3,kn 2,nil,0⟩
def sf2 : SS:=⟨1,3,[],2,2,0,0,kn 1,kn 2,nil,0⟩
theorem fixed_one {f : Int → V} (a1 : f 1 = kn 3) (a3 : f 3 = kn 2) {t : TS} {s : H.St} (hm : Mt 3 t s f) :
    ∃ t1 : TS × H.St,goR (U.s0 3,t,s) false = ((sf1,t1),askT (kn 2) (kn 3)) ∧ Mt 3 t1.1 t1.2 f:=by
  have hd:=hd_mt (n:=3) (by omega)
  have e1 : goR (U.s0 3,t,s) false = nrow (U.s0 3,t,s):=rfl
  have r1:=nrow_some (s:=U.s0 3) (t:=(t,s)) (by show (1 : Int) < 3;omega)
  obtain ⟨x1,x2,_⟩:=hd.read (d:=(U.s0 3,t,s)) hm (k:=1) (by omega) (by omega)
  obtain ⟨y1,y2,_⟩:=hd.read (d:=rdD (U.s0 3,t,s) 1) x2 (k:=3) (by omega) (by omega)
  rw [a1] at x1
  rw [a3] at y1
  refine ⟨(rdD (rdD (U.s0 3,t,s) 1) 3).2,?_,y2⟩
  rw [e1,r1]
  show (askD ({ (rdD (rdD (U.s0 3,t,s) 1) 3).1 with x:=rdV (U.s0 3,t,s) 1,y:=rdV (rdD (U.s0 3,t,s) 1) 3 },(rdD (rdD (U.s0 3,t,s) 1) 3).2) 1,askT (rdV (rdD (U.s0 3,t,s) 1) 3) (rdV (U.s0 3,t,s) 1)) = _
  rw [x1,y1]
  rfl
theorem fixed_two {f : Int → V} (a1 : f 1 = kn 3) (a2 : f 2 = kn 1) (a3 : f 3 = kn 2) {t1 : TS × H.St} (hm : Mt 3 t1.1 t1.2 f) :
    ∃ t2 : TS × H.St,goR (sf1,t1) true = ((sf2,t2),askT (kn 1) (kn 2)) ∧ Mt 3 t2.1 t2.2 (U.swp f 1 3):=by
  have hd:=hd_mt (n:=3) (by omega)
  have e1 : goR (sf1,t1) true = endsR (sf1,t1) true:=rfl
  obtain ⟨p1,p2,_⟩:=hd.put (d:=(sf1,t1)) hm (a:=1) (b:=3) (by omega) (by omega) (by omega) (by omega) a1.symm a3.symm
  have p1' : putE (sf1,t1) (sf1,t1).1.lo (sf1,t1).1.y (sf1,t1).1.up (sf1,t1).1.x = 0:=p1
  obtain ⟨P2,hP2⟩ : ∃ P2,(putD (sf1,t1) (sf1,t1).1.lo (sf1,t1).1.y (sf1,t1).1.up (sf1,t1).1.x).2 = P2:=⟨_,rfl⟩
  have p2' : Mt 3 P2.1 P2.2 (U.swp f 1 3):=by rw [← hP2];exact p2
  have b2 : U.swp f 1 3 2 = kn 1:=by rw [U.swp_at,if_neg (by omega),if_neg (by omega)];exact a2
  have b1 : U.swp f 1 3 1 = kn 2:=by rw [U.swp_at,if_neg (by omega),if_pos rfl];exact a3
  obtain ⟨x1,x2,_⟩:=hd.read (d:=({ sf1 with p:=2 },P2)) p2' (k:=2) (by omega) (by omega)
  obtain ⟨y1,y2,_⟩:=hd.read (d:=rdD ({ sf1 with p:=2 },P2) 2) x2 (k:=1) (by omega) (by omega)
  rw [b2] at x1
  rw [b1] at y1
  refine ⟨(rdD (rdD ({ sf1 with p:=2 },P2) 2) 1).2,?_,y2⟩
  rw [e1,ends_yes,hP2,p1',if_neg (by simp),ends_two (by show ¬ (3 : Int) - 1 = 1;omega)]
  show (askD ({ ({ sf1 with p:=2 } : SS) with x:=rdV ({ sf1 with p:=2 },P2) 2,y:=rdV (rdD ({ sf1 with p:=2 },P2) 2) 1 },(rdD (rdD ({ sf1 with p:=2 },P2) 2) 1).2) 2,askT (rdV ({ sf1 with p:=2 },P2) 2) (rdV (rdD ({ sf1 with p:=2 },P2) 2) 1)) = _
  rw [x1,y1]
  rfl
theorem fixed_three {g : Int → V} (b1 : g 1 = kn 2) (b2 : g 2 = kn 1) {t2 : TS × H.St} (hm : Mt 3 t2.1 t2.2 g) :
    ∃ t3 : TS × H.St,goR (sf2,t2) true = ((endS 0,t3),endT 0) ∧ Mt 3 t3.1 t3.2 (U.swp g 2 1):=by
  have hd:=hd_mt (n:=3) (by omega)
  have e1 : goR (sf2,t2) true = lowR (sf2,t2) true:=rfl
  obtain ⟨p1,p2,_⟩:=hd.put (d:=(sf2,t2)) hm (a:=2) (b:=1) (by omega) (by omega) (by omega) (by omega) b2.symm b1.symm
  have p1' : putE (sf2,t2) (sf2,t2).1.p (sf2,t2).1.y (sf2,t2).1.lo (sf2,t2).1.x = 0:=p1
  obtain ⟨P2,hP2⟩ : ∃ P2,(putD (sf2,t2) (sf2,t2).1.p (sf2,t2).1.y (sf2,t2).1.lo (sf2,t2).1.x).2 = P2:=⟨_,rfl⟩
  have p2' : Mt 3 P2.1 P2.2 (U.swp g 2 1):=by rw [← hP2];exact p2
  refine ⟨P2,?_,p2'⟩
  rw [e1,low_yes,hP2,p1',if_neg (by simp),split_two (by show (3 : Int) - 1 = 2;omega)]
  show nrow ({ sf2 with lo:=0,up:=0 },P2) = _
  rw [nrow_end (by show ¬ (0 : Int) < 0;omega) rfl]
  rfl
theorem sf_fit : Fit (U.s0 3) ∧ Fit sf1 ∧ Fit sf2:=by
  have n0 : U.Nx 3 (U.s0 3) (fun _=>nil) 9:=.inl ⟨rfl,by have:=U.sq_top 3;omega⟩
  have n1 : U.Nx 3 sf1 (fun k=>if k = 1 then kn 3 else kn 2) (U.lft sf1):=.inr ⟨⟨fun r hr=>(by cases hr),by show (1 : Int) < 3;omega,by show (1 : Int) ≤ 1;omega,by show (3 : Int) ≤ ((3 : Nat) : Int);omega,.inl ⟨rfl,rfl,rfl⟩⟩,Int.le_refl _⟩
  have n2 : U.Nx 3 sf2 (fun k=>if k = 1 then kn 2 else kn 1) (U.lft sf2):=.inr ⟨⟨fun r hr=>(by cases hr),by show (1 : Int) < 3;omega,by show (1 : Int) ≤ 1;omega,by show (3 : Int) ≤ ((3 : Nat) : Int);omega,.inr (.inl ⟨rfl,by show (1 : Int) + 1 < 3;omega,rfl,rfl,rfl⟩)⟩,Int.le_refl _⟩
  exact ⟨(n0.fit (by omega) (by show 0 ≤ 900000;omega)).1,(n1.fit (by omega) (by show 0 ≤ 900000;omega)).1,(n2.fit (by omega) (by show 0 ≤ 900000;omega)).1⟩
end Go.Proofs.YtkmopcanaalemabGreat
