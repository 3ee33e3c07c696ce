import Derived.Test.YtkmopcanaalemabGreatCg24
namespace Go.Proofs.YtkmopcanaalemabGreat
open Go.RowKit
set_option maxRecDepth 20000 in
set_option maxHeartbeats 1500000 in
theorem pair_far {w:World} {T A b a S:Nat} {t:TS} (h:Tm w T A b a S t) (hn:t.p.n≤65536) (_hz:t.p.z≤65536) (j:Nat) (hj:t.p.z≤j) (hm0:(t.p.n:Int)+1+j≤9223372036854775807):
 Calls Tryz.prog 36 #[tp T,.int .i64 ((t.p.n:Int)+1+j)] w fun e w'=>e= .returned (.tuple #[vv nil,vv nil])∧Below w.heap.size w w':=by
 have R0:=(R3.made w nil).below (b1 _ (vb 0 0 ⟨#[]⟩))
 have R1:=R3.made (w.alloc (vb 0 0 ⟨#[]⟩)) nil
 have eX:(w.alloc (vb 0 0 ⟨#[]⟩)).heap.size=w.heap.size+1:=by simp
 rw[eX] at R1
 have B0:=b2 w (vb 0 0 ⟨#[]⟩) (vb 0 0 ⟨#[]⟩)
 have R0':R3 ((w.alloc (vb 0 0 ⟨#[]⟩)).alloc (vb 0 0 ⟨#[]⟩)) w.heap.size nil:=R0
 have R1':R3 ((w.alloc (vb 0 0 ⟨#[]⟩)).alloc (vb 0 0 ⟨#[]⟩)) (w.heap.size+1) nil:=R1
 have eS:((w.alloc (vb 0 0 ⟨#[]⟩)).alloc (vb 0 0 ⟨#[]⟩)).heap.size=w.heap.size+2:=by simp
 obtain ⟨W0,hW0⟩:∃W0,(w.alloc (vb 0 0 ⟨#[]⟩)).alloc (vb 0 0 ⟨#[]⟩)=W0:=⟨_,rfl⟩
 rw[hW0] at B0 R0' R1' eS
 have h0:=h.below B0
 have CA:=fun W (hW:Below W0.heap.size W0 W)=>at_out (j:Int) W (h0.pm.pt.below hW).sizes (.inr (by omega))
 have c1:W0.cell? ⟨T,1,none⟩=some (.slice (some ⟨A,0,none⟩) t.p.n t.p.n):=h0.pm.c0
 have c2:W0.cell? ⟨T,2,none⟩=some (.pointer (some ⟨b,0,none⟩)):=h0.pm.c1
 obtain ⟨l,hl⟩:∃l:Int,l=0:=⟨_,rfl⟩
 obtain ⟨k,hk⟩:∃k:V,k=nil:=⟨_,rfl⟩
 obtain ⟨x,hx⟩:∃x:V,x=nil:=⟨_,rfl⟩
 have CA2:∀W,Below W0.heap.size W0 W→Calls Tryz.prog 77 #[pp b,.int .i64 (j:Nat)] W fun e w'=>e= .returned (vn k x l)∧Below W.heap.size W w':=fun W hW=>by rw[hl,hk,hx];exact CA W hW
 have EG:(Calls Tryz.prog 36 #[tp T,.int .i64 ((t.p.n:Int)+1+j)] w fun e w'=>e= .returned (.tuple #[vv k,vv x])∧Below w.heap.size w w')→Calls Tryz.prog 36 #[tp T,.int .i64 ((t.p.n:Int)+1+j)] w fun e w'=>e= .returned (.tuple #[vv nil,vv nil])∧Below w.heap.size w w':=fun q=>by rw[hk,hx] at q;exact q
 refine EG ?_
 clear EG hl hk hx CA
 have CA:=CA2
 clear CA2
 have HG1:Hid (∀w3,Below W0.heap.size W0 w3→Px w (w3.alloc (.cells #[.int .i64 k.1,.int .i64 k.2.1,.string k.2.2,.int .i64 x.1,.int .i64 x.2.1,.string x.2.2,.int .i64 l] 123)) w.heap.size w3.heap.size k x):=fun w3 b3=>by
  have bb:=bthen b3 b3.size (b1 w3 (.cells #[.int .i64 k.1,.int .i64 k.2.1,.string k.2.2,.int .i64 x.1,.int .i64 x.2.1,.string x.2.2,.int .i64 l] 123))
  exact ⟨R7.made w3 k x l,R0'.below bb,R1'.below bb,bthen B0 B0.size bb,by have:=b3.size;omega⟩
 have HG2:Hid (∀w3,Below W0.heap.size W0 w3→R7 w3 W0.heap.size nil nil→Px w (set7b w3 W0.heap.size k x l) w.heap.size W0.heap.size k x):=fun w3 b3 r3=>by
  have bb:Below W0.heap.size W0 (set7b w3 W0.heap.size k x l):=((((((b3.setCell (Nat.le_refl _) _).setCell (Nat.le_refl _) _).setCell (Nat.le_refl _) _).setCell (Nat.le_refl _) _).setCell (Nat.le_refl _) _).setCell (Nat.le_refl _) _).setCell (Nat.le_refl _) _
  exact ⟨r3.set k x l,R0'.below bb,R1'.below bb,bthen B0 B0.size bb,by omega⟩
 have BA:=bthen (bdrew1 W0) (Nat.le_refl _) (b1 W0.drew (.cells #[.int .i64 0,.int .i64 0,.string ⟨#[]⟩,.int .i64 0,.int .i64 0,.string ⟨#[]⟩,.int .i64 0] 123))
 have RA:R7 (W0.drew.alloc (.cells #[.int .i64 0,.int .i64 0,.string ⟨#[]⟩,.int .i64 0,.int .i64 0,.string ⟨#[]⟩,.int .i64 0] 123)) W0.heap.size nil nil:=R7.made W0.drew nil nil 0
 obtain ⟨Wa,hWa⟩:∃Wa,W0.drew.alloc (.cells #[.int .i64 0,.int .i64 0,.string ⟨#[]⟩,.int .i64 0,.int .i64 0,.string ⟨#[]⟩,.int .i64 0] 123)=Wa:=⟨_,rfl⟩
 rw[hWa] at BA RA
 have z1:Wa.cell? ⟨T,1,none⟩=some (.slice (some ⟨A,0,none⟩) t.p.n t.p.n):=(h0.below BA).pm.c0
 have z2:Wa.cell? ⟨T,2,none⟩=some (.pointer (some ⟨b,0,none⟩)):=(h0.below BA).pm.c1
 have CFd:=(CA W0.drew (bdrew1 _)).mono (R':=fun e w'=>e= .returned (vn k x l)∧Hid (Below W0.heap.size W0 w')) fun _ _ hh=>⟨hh.1,bthen (bdrew1 W0) (Nat.le_refl _) hh.2⟩
 have CFa:=(CA Wa BA).mono (R':=fun e w'=>e= .returned (vn k x l)∧Hid (Below W0.heap.size W0 w')∧R7 w' W0.heap.size nil nil) fun _ _ hh=>⟨hh.1,bthen BA BA.size hh.2,RA.below hh.2⟩
 clear h h0 R0 R1 R0' R1' B0 eX CA BA RA eS
 unfold vb at hW0
 unfold vv vl tp at *
 unfold pp vn at CFd CFa
 generalize t.p.z=z at *
 generalize t.p.n=n at *
 generalize hsz:w.heap.size=N at *
 have hj1:¬((n:Int)+1+(j:Int)<1):=by omega
 have hj2:¬((n:Int)+1+(j:Int)≤(n:Int)):=by omega
 have hw0:IntKind.i64.wrap ((n:Int)+1+(j:Int) - (n:Int))=(j:Int)+1:=by rw[IntKind.wrap_i64];omega
 have hw1:IntKind.i64.wrap ((j:Int)+1 - 1)=(j:Int):=by rw[IntKind.wrap_i64];omega
 have hw2:IntKind.i64.wrap (j:Int)=(j:Int):=by rw[IntKind.wrap_i64];omega
 generalize hm:(n:Int)+1+(j:Int)=m at *
 go_enter Tryz.func36,Tryz.ntmps36
 go_upto_region 5 with fail
 go_cut [6] from 34 to 48 (fun bw wx=>∃vx:Nat,bw= .pointer (some ⟨vx,0,none⟩)∧Hid (Px w wx N vx k x))
 case first=>
  go_region_with (first
   | (go_at_call 77;refine CFd.mono ?_;rintro e w3 ⟨rfl,hB3⟩;have HPX:Hid _:=HG1.out w3 hB3.out;obtain ⟨W8,hW8⟩:∃W8,w3.alloc (.cells #[.int .i64 k.1,.int .i64 k.2.1,.string k.2.2,.int .i64 x.1,.int .i64 x.2.1,.string x.2.2,.int .i64 l] 123)=W8:=⟨_,rfl⟩;rw[hW8] at HPX)
   | (go_at_call 77;refine CFa.mono ?_;rintro e w3 ⟨rfl,hB3,q3⟩;have q0:w3.cell? ⟨W0.heap.size,0,none⟩=some (.int .i64 0):=q3.c0;have q1:w3.cell? ⟨W0.heap.size,1,none⟩=some (.int .i64 0):=q3.c1;have q2:w3.cell? ⟨W0.heap.size,2,none⟩=some (.string ⟨#[]⟩):=q3.c2;have q4:w3.cell? ⟨W0.heap.size,3,none⟩=some (.int .i64 0):=q3.c3;have q5:w3.cell? ⟨W0.heap.size,4,none⟩=some (.int .i64 0):=q3.c4;have q6:w3.cell? ⟨W0.heap.size,5,none⟩=some (.string ⟨#[]⟩):=q3.c5;obtain ⟨l0,q7⟩:=q3.c6;have qf:∀j,w3.frozen? ⟨W0.heap.size,j,none⟩=false:=q3.fz;have HPX:Hid _:=HG2.out w3 hB3.out q3;obtain ⟨W8,hW8⟩:∃W8,set7b w3 W0.heap.size k x l=W8:=⟨_,rfl⟩;rw[hW8] at HPX;unfold set7b at hW8;clear q3))
  all_goals
   go_wp2_with fail
   go_meet
   exact ⟨_,rfl,HPX⟩
 case rest=>
  obtain ⟨vx,rfl,HX⟩:=hcut
  clear CFd CFa HG1 HG2 z1 z2 hWa c1 c2 hW0
  have x0:=HX.out.r7.c0
  have x1:=HX.out.r7.c1
  have x2:=HX.out.r7.c2
  have x3:=HX.out.r7.c3
  have x4:=HX.out.r7.c4
  have x5:=HX.out.r7.c5
  have n0:=HX.out.r0.bx.c0
  have n1:=HX.out.r0.bx.c1
  have n2:=HX.out.r0.bx.c2
  have nf:=HX.out.r0.fz
  have HD:Px w wc N vx k x:=HX.out
  have g0:=HD.r1.bx.c0
  have g1:=HD.r1.bx.c1
  have g2:=HD.r1.bx.c2
  have gf:=HD.r1.fz
  have kN:Keep (fun g=>g≠N) wc (set3 wc N k):=(Keep.refl _ _).set3 (fun q=>q rfl) k
  have r1:=HD.r1.kept kN (by show N+1≠N;omega)
  have r7:=HD.r7.kept kN (by have:=HX.out.ge;show vx≠N;omega)
  have pp2:=P2.mk2 HD.bel HD.r0 HD.r1 k x
  obtain ⟨W2,hW2⟩:∃W2,set3 wc N k=W2:=⟨_,rfl⟩
  rw[hW2] at r1 r7 pp2
  obtain ⟨W3,hW3⟩:∃W3,set3 W2 (N+1) x=W3:=⟨_,rfl⟩
  rw[hW3] at pp2
  unfold set3 at hW2 hW3
  have m0:=r1.bx.c0
  have m1:=r1.bx.c1
  have m2:=r1.bx.c2
  have mf:=r1.fz
  have y0:=r7.c0
  have y1:=r7.c1
  have y2:=r7.c2
  have y3:=r7.c3
  have y4:=r7.c4
  have y5:=r7.c5
  have HP:Hid (P2 w W3 N k x):=pp2
  clear r1 r7 kN pp2 HD
  go_wp2_with fail
  go_region
  all_goals
   go_wp2_with fail
   have v0:=HP.out.r0.c0
   have v1:=HP.out.r0.c1
   have v2:=HP.out.r0.c2
   have v3:=HP.out.r1.c0
   have v4:=HP.out.r1.c1
   have v5:=HP.out.r1.c2
   refine bodyPost_ret (v:=.tuple #[.agg #[.int .i64 k.1,.int .i64 k.2.1,.string k.2.2],.agg #[.int .i64 x.1,.int .i64 x.2.1,.string x.2.2]]) (by simp[results,Tryz.results36,go_sem,v0,v1,v2,v3,v4,v5]) rfl ⟨rfl,by first | exact HP.out.bel | exact HP.out.bel.trans (bdrew _ _ 1) | exact HP.out.bel.trans ⟨rfl,rfl,rfl,Nat.le_refl _,fun _ _=>rfl⟩⟩
set_option maxRecDepth 20000 in
set_option maxHeartbeats 2000000 in
theorem pair_neg {T:Nat} (m:Int) (hm:m<1) (w:World):Calls Tryz.prog 36 #[tp T,.int .i64 m] w fun e w'=>e= .returned (.tuple #[vv nil,vv nil])∧Below w.heap.size w w':=by
 have R0:=(R3.made w nil).below (b1 _ (vb 0 0 ⟨#[]⟩))
 have R1:=R3.made (w.alloc (vb 0 0 ⟨#[]⟩)) nil
 have eX:(w.alloc (vb 0 0 ⟨#[]⟩)).heap.size=w.heap.size+1:=by simp
 rw[eX] at R1
 have B0:=b2 w (vb 0 0 ⟨#[]⟩) (vb 0 0 ⟨#[]⟩)
 have R0':R3 ((w.alloc (vb 0 0 ⟨#[]⟩)).alloc (vb 0 0 ⟨#[]⟩)) w.heap.size nil:=R0
 have R1':R3 ((w.alloc (vb 0 0 ⟨#[]⟩)).alloc (vb 0 0 ⟨#[]⟩)) (w.heap.size+1) nil:=R1
 obtain ⟨W0,hW0⟩:∃W0,(w.alloc (vb 0 0 ⟨#[]⟩)).alloc (vb 0 0 ⟨#[]⟩)=W0:=⟨_,rfl⟩
 rw[hW0] at B0 R0' R1'
 have pp2:=P2.mk2 B0 R0' R1' nil nil
 have kN:Keep (fun g=>g≠w.heap.size) W0 (set3 W0 w.heap.size nil):=(Keep.refl _ _).set3 (fun q=>q rfl) nil
 have r1:=R1'.kept kN (by show w.heap.size+1≠w.heap.size;omega)
 obtain ⟨W2,hW2⟩:∃W2,set3 W0 w.heap.size nil=W2:=⟨_,rfl⟩
 rw[hW2] at r1 pp2
 obtain ⟨W3,hW3⟩:∃W3,set3 W2 (w.heap.size+1) nil=W3:=⟨_,rfl⟩
 rw[hW3] at pp2
 have n0:W0.cell? ⟨w.heap.size,0,none⟩=some (.int .i64 0):=R0'.bx.c0
 have n1:W0.cell? ⟨w.heap.size,1,none⟩=some (.int .i64 0):=R0'.bx.c1
 have n2:W0.cell? ⟨w.heap.size,2,none⟩=some (.string ⟨#[]⟩):=R0'.bx.c2
 have nf:=R0'.fz
 have m0:W2.cell? ⟨w.heap.size+1,0,none⟩=some (.int .i64 0):=r1.bx.c0
 have m1:W2.cell? ⟨w.heap.size+1,1,none⟩=some (.int .i64 0):=r1.bx.c1
 have m2:W2.cell? ⟨w.heap.size+1,2,none⟩=some (.string ⟨#[]⟩):=r1.bx.c2
 have mf:=r1.fz
 have HP:Hid (P2 w W3 w.heap.size nil nil):=pp2
 have hW2':(((W0.setCell ⟨w.heap.size,0,none⟩ (.int .i64 0)).setCell ⟨w.heap.size,1,none⟩ (.int .i64 0)).setCell ⟨w.heap.size,2,none⟩ (.string ⟨#[]⟩))=W2:=hW2
 have hW3':(((W2.setCell ⟨w.heap.size+1,0,none⟩ (.int .i64 0)).setCell ⟨w.heap.size+1,1,none⟩ (.int .i64 0)).setCell ⟨w.heap.size+1,2,none⟩ (.string ⟨#[]⟩))=W3:=hW3
 clear R0 R1 R0' R1' B0 pp2 kN r1 hW2 hW3
 unfold vb at hW0
 unfold vv vl nil tp at *
 generalize hsz:w.heap.size=N at *
 go_enter Tryz.func36,Tryz.ntmps36
 go_wp2_with fail
 have v0:=HP.out.r0.c0
 have v1:=HP.out.r0.c1
 have v2:=HP.out.r0.c2
 have v3:=HP.out.r1.c0
 have v4:=HP.out.r1.c1
 have v5:=HP.out.r1.c2
 refine bodyPost_ret (v:=.tuple #[.agg #[.int .i64 0,.int .i64 0,.string ⟨#[]⟩],.agg #[.int .i64 0,.int .i64 0,.string ⟨#[]⟩]]) (by simp[results,Tryz.results36,go_sem,v0,v1,v2,v3,v4,v5]) rfl ⟨rfl,HP.out.bel⟩
end Go.Proofs.YtkmopcanaalemabGreat


namespace Go.Proofs.YtkmopcanaalemabGreat
open Go.RowKit
structure Bz (Q : Nat → Prop) (w : World) (T S hb RT G c : Nat) (t : TS) (s : H.St) (u : TS) (s' : H.St) : Prop where
  tt : ∃ N1 N2 : Nat → Prop,(∃ A b a,TT N1 w T A b a S hb c t s) ∧ (∃ A P ka va ca cb,RQ N2 w RT A P ka va ca cb G c u s') ∧ (∀ g,g < w.heap.size → N1 g ∨ N2 g) ∧ ∀ g,Q g → N1 g ∧ N2 g
variable {Q : Nat → Prop} {w w' : World} {T S hb RT G c : Nat} {t u : TS} {s s' : H.St}
theorem Bz.more {c' : Nat} (h : Bz Q w T S hb RT G c t s u s') (hc : c ≤ c') : Bz Q w T S hb RT G c' t s u s':=by
  obtain ⟨N1,N2,⟨A,b,a,h1⟩,⟨A',P,ka,va,ca,cb,h2⟩,h3,h4⟩:=h.tt
  exact ⟨⟨N1,N2,⟨A,b,a,h1.more hc⟩,⟨A',P,ka,va,ca,cb,h2.more hc⟩,h3,h4⟩⟩
theorem Bz.sub {Q' : Nat → Prop} (h : Bz Q w T S hb RT G c t s u s') (hq : ∀ g,Q' g → Q g) : Bz Q' w T S hb RT G c t s u s':=by
  obtain ⟨N1,N2,h1,h2,h3,h4⟩:=h.tt
  exact ⟨⟨N1,N2,h1,h2,h3,fun g q=>h4 g (hq g q)⟩⟩
theorem Bz.news (h : Bz Q w T S hb RT G c t s u s') (k : Below w.heap.size w w') : Bz (fun g=>Q g ∨ (w.heap.size ≤ g ∧ g < w'.heap.size)) w' T S hb RT G c t s u s':=by
  obtain ⟨N1,N2,⟨A,b,a,h1⟩,⟨A',P,ka,va,ca,cb,h2⟩,h3,h4⟩:=h.tt
  refine ⟨⟨_,_,⟨A,b,a,h1.news k⟩,⟨A',P,ka,va,ca,cb,h2.news k⟩,fun g q=>?_,fun g q=>?_⟩⟩
  · by_cases hg : g < w.heap.size
    · rcases h3 g hg with r | r
      · exact .inl (.inl r)
      · exact .inr (.inl r)
    · exact .inl (.inr ⟨by omega,q⟩)
  · rcases q with q | q
    · exact ⟨.inl (h4 g q).1,.inl (h4 g q).2⟩
    · exact ⟨.inr q,.inr q⟩
theorem Bz.below (h : Bz Q w T S hb RT G c t s u s') (k : Below w.heap.size w w') : Bz Q w' T S hb RT G c t s u s':=(h.news k).sub (fun _ q=>.inl q)
theorem Bz.ti (h : Bz Q w T S hb RT G c t s u s') : TI t.p ∧ TI u.p:=by
  obtain ⟨N1,N2,⟨A,b,a,h1⟩,⟨A',P,ka,va,ca,cb,h2⟩,h3,h4⟩:=h.tt
  exact ⟨h1.ti,h2.ti⟩
theorem Bz.set (h : Bz Q w T S hb RT G c t s u s') (hc : c ≤ 700000) (k v : V) (hr : Rng k) :
    Calls Tryz.prog 26 #[tp T,vv k,vv v] w fun e w'=>e = .returned (.int .i64 (tset t s k v).2.2) ∧ Bz Q w' T S hb RT G (c + 7) (tset t s k v).1 (tset t s k v).2.1 u s' ∧ Keep Q w w':=by
  obtain ⟨N1,N2,⟨A,b,a,h1⟩,h2,h3,h4⟩:=h.tt
  refine (tset_any h1 hc k v hr).mono ?_
  rintro e w' ⟨rfl,h',kk⟩
  obtain ⟨A',P,ka,va,ca,cb,h2⟩:=h2
  have f2:=h2.frame (w':=w') ⟨kk.os,kk.tape,kk.output,kk.size,fun g hg hn=>kk.block g hg ((h3 g hg).resolve_right hn)⟩
  refine ⟨rfl,⟨⟨N1,_,h',⟨A',P,ka,va,ca,cb,f2.more (by omega)⟩,fun g q=>?_,fun g q=>⟨(h4 g q).1,.inl (h4 g q).2⟩⟩⟩,kk.sub (fun g q=>(h4 g q).1)⟩
  by_cases hg : g < w.heap.size
  · rcases h3 g hg with r | r
    · exact .inl r
    · exact .inr (.inl r)
  · exact .inr (.inr ⟨by omega,q⟩)
theorem Bz.rset (h : Bz Q w T S hb RT G c t s u s') (hc : c ≤ 700000) (k v : V) (hr : Rng k) :
    Calls Tryz.prog 27 #[tp RT,vv k,vv v] w fun e w'=>e = .returned (.int .i64 (tset u s' k v).2.2) ∧ Bz Q w' T S hb RT G (c + 7) t s (tset u s' k v).1 (tset u s' k v).2.1 ∧ Keep Q w w':=by
  obtain ⟨N1,N2,⟨A,b,a,h1⟩,⟨A',P,ka,va,ca,cb,h2⟩,h3,h4⟩:=h.tt
  refine (rset_any h2 hc k v hr).mono ?_
  rintro e w' ⟨rfl,h',kk⟩
  have f1:=h1.frame2 (w':=w') kk.os kk.tape kk.output kk.size (fun g hg hn=>kk.block g hg ((h3 g hg).resolve_left hn))
  refine ⟨rfl,⟨⟨_,N2,⟨A,b,a,f1.more (by omega)⟩,h',fun g q=>?_,fun g q=>⟨.inl (h4 g q).1,(h4 g q).2⟩⟩⟩,kk.sub (fun g q=>(h4 g q).2)⟩
  by_cases hg : g < w.heap.size
  · rcases h3 g hg with r | r
    · exact .inl (.inl r)
    · exact .inr r
  · exact .inl (.inr ⟨by omega,q⟩)
theorem Bz.probes (h : Bz Q w T S hb RT G c t s u s') : Calls Tryz.prog 32 #[tp T] w fun e w'=>e = .returned (.int .i64 t.pr) ∧ w' = w:=by
  obtain ⟨N1,N2,⟨A,b,a,h1⟩,_⟩:=h.tt
  exact probes_any h1.tm
theorem Bz.stats (h : Bz Q w T S hb RT G c t s u s') : Calls Tryz.prog 33 #[tp T] w fun e w'=>e = .returned (ts t) ∧ Below w.heap.size w w':=by
  obtain ⟨N1,N2,⟨A,b,a,h1⟩,_⟩:=h.tt
  exact stats_any h1.tm
theorem Bgn.bz {M A b a RA P ka va ca n z : Nat} (h : Bgn w w' M T A b a S hb RT RA P ka va ca G n z t s) : Bz (fun g=>g < w.heap.size) w' T S hb RT G 3 t s t s:=by
  obtain ⟨W,hMW,nr⟩:=h.nr
  obtain ⟨wa,wb,rn,hb2,hwa⟩:=nr.part
  have et:=h.et
  have ep : t.p = fresh n z:=by rw [et];rfl
  have eh : t.hint = 0:=by rw [et];rfl
  have er : t.pr = 0:=by rw [et];rfl
  have rs:=rn.rs
  have rp : Rp w' P ka va ca z (g0 z) (fun _=>0):=rs.rp.below hb2
  have own : ∀ x,Rp.Own P ka va ca z (g0 z) (fun _=>0) x → x = P ∨ x = ka ∨ x = va ∨ x = ca:=fun x q=>by
    rcases q with q | q | q | q | ⟨_,_,q,_⟩
    · exact .inl q
    · exact .inr (.inl q)
    · exact .inr (.inr (.inl q))
    · exact .inr (.inr (.inr q))
    · exact absurd rfl q
  have ne:=nr.ne
  have ge:=nr.ge
  have ge2:=rn.ge
  have rb : Rb w' RT RA P ka va ca (fun _=>0) G t :=
    ⟨by rw [ep,cell_of_row nr.str];rfl,by rw [cell_of_row nr.str];rfl,by rw [cell_of_row nr.str];rfl,by rw [cell_of_row nr.str];rfl,by rw [eh,cell_of_row nr.str];rfl,by rw [er,cell_of_row nr.str];rfl,by rw [cell_of_row nr.str];rfl,free_of nr.str,by rw [ep];exact made_vals nr.arr,free_of nr.arr,(Array.getElem?_eq_some_iff.1 nr.str).1,(Array.getElem?_eq_some_iff.1 nr.arr).1,by rw [ep];exact rp,ne.1,
      fun x q=>by rw [ep] at q;have:=own x q;omega,fun x q=>by rw [ep] at q;have:=own x q;omega⟩
  have own2 : ∀ x,Rb.Own RT RA P ka va ca (fun _=>0) t x → x = RT ∨ x = RA ∨ x = P ∨ x = ka ∨ x = va ∨ x = ca:=fun x q=>by
    unfold Rb.Own at q
    rw [ep] at q
    rcases q with q | q | q
    · exact .inl q
    · exact .inr (.inl q)
    · exact .inr (.inr (own x q))
  refine ⟨⟨_,fun g=>g < M,⟨A,b,a,h.tt⟩,⟨RA,P,ka,va,ca,fun _=>0,rb,h.rh.sub (fun g q=>?_),fun x q e=>?_,by rw [ep];exact TI.fr0 h.rt h.en,h.iv,by rw [er];omega,by rw [er];omega⟩,fun g q=>?_,fun g q=>⟨.inl q,Nat.lt_of_lt_of_le q h.le⟩⟩⟩
  · rcases q with q | q
    · exact .inl q
    · exact .inr (own2 g q)
  · have:=own2 x q
    have e' : x < M:=e
    omega
  · by_cases hg : g < M
    · exact .inr hg
    · exact .inl (.inr ⟨by omega,q⟩)
end Go.Proofs.YtkmopcanaalemabGreat
