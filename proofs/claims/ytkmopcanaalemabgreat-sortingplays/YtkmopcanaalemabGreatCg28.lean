import Derived.Test.YtkmopcanaalemabGreatCg27
import Derived.Test.YtkmopcanaalemabGreatCg25
import Derived.Test.YtkmopcanaalemabGreatCg24
namespace Go.Proofs.YtkmopcanaalemabGreat
open Go.RowKit
section
variable {w:World} {RT A P ka va ca:Nat} {cb:Nat→Nat} {G:Nat} {t:TS}
structure Tb (w W:World):Prop where
 bel:Below w.heap.size w W
 r0:R3 W w.heap.size nil
 r1:R3 W (w.heap.size+1) nil
theorem Tb.made (w:World):Tb w ((w.alloc (vb 0 0 ⟨#[]⟩)).alloc (vb 0 0 ⟨#[]⟩)):=by
 have R0:=(R3.made w nil).below (b1 _ (vb 0 0 ⟨#[]⟩))
 have R1:=R3.made (w.alloc (vb 0 0 ⟨#[]⟩)) nil
 have eX:(w.alloc (vb 0 0 ⟨#[]⟩)).heap.size=w.heap.size+1:=by simp
 rw[eX] at R1
 exact ⟨b2 w (vb 0 0 ⟨#[]⟩) (vb 0 0 ⟨#[]⟩),R0,R1⟩
theorem Tb.below {W W':World} (h:Tb w W) (k:Below W.heap.size W W'):Tb w W':=⟨bthen h.bel h.bel.size k,h.r0.below k,h.r1.below k⟩
theorem Tb.two {W:World} (h:Tb w W) (x y:V):R3 (set3 W w.heap.size x) (w.heap.size+1) nil∧P2 w (set3 (set3 W w.heap.size x) (w.heap.size+1) y) w.heap.size x y∧Below w.heap.size w (set3 W w.heap.size x):=by
 have k:Keep (fun g=>g≠w.heap.size) W (set3 W w.heap.size x):=set3_keep _ _ _
 exact ⟨h.r1.kept k (by show _+1≠_;omega),P2.mk2 h.bel h.r0 h.r1 x y,bset3 h.bel (Nat.le_refl _) x⟩
set_option maxRecDepth 20000 in
set_option maxHeartbeats 4000000 in
theorem rpair_far (h:Rb w RT A P ka va ca cb G t) (ti:TI t.p) (m:Int) (hm:m<1∨((t.p.n+t.p.z:Nat):Int)<m):
 Calls Tryz.prog 37 #[.pointer (some ⟨RT,0,none⟩),.int .i64 m] w fun e w'=>e= .returned (.tuple #[vv nil,vv nil])∧Below w.heap.size w w':=by
 have T0:=Tb.made w
 obtain ⟨W0,hW0⟩:∃W0,(w.alloc (vb 0 0 ⟨#[]⟩)).alloc (vb 0 0 ⟨#[]⟩)=W0:=⟨_,rfl⟩
 rw[hW0] at T0
 have CP:=rplaces_any (h.below T0.bel) ti
 have HT0:Hid (Tb w W0):=T0
 generalize ((t.p.n+t.p.z:Nat):Int)=nz at *
 clear h ti T0
 unfold vb at hW0
 unfold vv vl nil
 have eX:(w.alloc (.cells #[.int .i64 0,.int .i64 0,.string ⟨#[]⟩] 36)).heap.size=w.heap.size+1:=by simp
 by_cases h1:m<1
 ·clear hm CP
  have n0:W0.cell? ⟨w.heap.size,0,none⟩=some (.int .i64 0):=HT0.out.r0.bx.c0
  have n1:W0.cell? ⟨w.heap.size,1,none⟩=some (.int .i64 0):=HT0.out.r0.bx.c1
  have n2:W0.cell? ⟨w.heap.size,2,none⟩=some (.string ⟨#[]⟩):=HT0.out.r0.bx.c2
  have nf:=HT0.out.r0.fz
  obtain ⟨r1,pp2,_⟩:=HT0.out.two nil nil
  obtain ⟨W2,hW2⟩:∃W2,set3 W0 w.heap.size nil=W2:=⟨_,rfl⟩
  rw[hW2] at r1 pp2
  obtain ⟨W3,hW3⟩:∃W3,set3 W2 (w.heap.size+1) nil=W3:=⟨_,rfl⟩
  rw[hW3] at pp2
  have m0:W2.cell? ⟨w.heap.size+1,0,none⟩=some (.int .i64 0):=r1.bx.c0
  have m1:W2.cell? ⟨w.heap.size+1,1,none⟩=some (.int .i64 0):=r1.bx.c1
  have m2:W2.cell? ⟨w.heap.size+1,2,none⟩=some (.string ⟨#[]⟩):=r1.bx.c2
  have mf:=r1.fz
  have HP:Hid (P2 w W3 w.heap.size nil nil):=pp2
  have hW2':(((W0.setCell ⟨w.heap.size,0,none⟩ (.int .i64 0)).setCell ⟨w.heap.size,1,none⟩ (.int .i64 0)).setCell ⟨w.heap.size,2,none⟩ (.string ⟨#[]⟩))=W2:=hW2
  have hW3':(((W2.setCell ⟨w.heap.size+1,0,none⟩ (.int .i64 0)).setCell ⟨w.heap.size+1,1,none⟩ (.int .i64 0)).setCell ⟨w.heap.size+1,2,none⟩ (.string ⟨#[]⟩))=W3:=hW3
  clear r1 pp2 hW2 hW3
  generalize hsz:w.heap.size=N at *
  go_enter Tryz.func37,Tryz.ntmps37
  go_wp2_with fail
  have v0:W3.cell? ⟨N,0,none⟩=some (.int .i64 0):=HP.out.r0.c0
  have v1:W3.cell? ⟨N,1,none⟩=some (.int .i64 0):=HP.out.r0.c1
  have v2:W3.cell? ⟨N,2,none⟩=some (.string ⟨#[]⟩):=HP.out.r0.c2
  have v3:W3.cell? ⟨N+1,0,none⟩=some (.int .i64 0):=HP.out.r1.c0
  have v4:W3.cell? ⟨N+1,1,none⟩=some (.int .i64 0):=HP.out.r1.c1
  have v5:W3.cell? ⟨N+1,2,none⟩=some (.string ⟨#[]⟩):=HP.out.r1.c2
  refine bodyPost_ret (v:=.tuple #[.agg #[.int .i64 0,.int .i64 0,.string ⟨#[]⟩],.agg #[.int .i64 0,.int .i64 0,.string ⟨#[]⟩]]) (by simp[results,Tryz.results37,go_sem,v0,v1,v2,v3,v4,v5]) rfl ⟨rfl,HP.out.bel⟩
 ·have h2:=hm.resolve_left h1
  clear hm
  generalize hsz:w.heap.size=N at *
  go_enter Tryz.func37,Tryz.ntmps37
  go_wp2_with fail
  refine CP.mono ?_;rintro e U ⟨rfl,hbU⟩
  have TU:=HT0.out.below hbU
  obtain ⟨r1,pp2,_⟩:=(HT0.out.below hbU).two nil nil
  rw[hsz] at r1 pp2
  have n0:U.cell? ⟨N,0,none⟩=some (.int .i64 0):=hsz▸TU.r0.bx.c0
  have n1:U.cell? ⟨N,1,none⟩=some (.int .i64 0):=hsz▸TU.r0.bx.c1
  have n2:U.cell? ⟨N,2,none⟩=some (.string ⟨#[]⟩):=hsz▸TU.r0.bx.c2
  have nf:∀j,U.frozen? ⟨N,j,none⟩=false:=hsz▸TU.r0.fz
  obtain ⟨W2,hW2⟩:∃W2,set3 U N nil=W2:=⟨_,rfl⟩
  rw[hW2] at r1 pp2
  obtain ⟨W3,hW3⟩:∃W3,set3 W2 (N+1) nil=W3:=⟨_,rfl⟩
  rw[hW3] at pp2
  have m0:W2.cell? ⟨N+1,0,none⟩=some (.int .i64 0):=r1.bx.c0
  have m1:W2.cell? ⟨N+1,1,none⟩=some (.int .i64 0):=r1.bx.c1
  have m2:W2.cell? ⟨N+1,2,none⟩=some (.string ⟨#[]⟩):=r1.bx.c2
  have mf:=r1.fz
  have HP:Hid (P2 w W3 N nil nil):=pp2
  have hW2':(((U.setCell ⟨N,0,none⟩ (.int .i64 0)).setCell ⟨N,1,none⟩ (.int .i64 0)).setCell ⟨N,2,none⟩ (.string ⟨#[]⟩))=W2:=hW2
  have hW3':(((W2.setCell ⟨N+1,0,none⟩ (.int .i64 0)).setCell ⟨N+1,1,none⟩ (.int .i64 0)).setCell ⟨N+1,2,none⟩ (.string ⟨#[]⟩))=W3:=hW3
  clear r1 pp2 hW2 hW3 TU hbU CP
  go_wp2_with fail
  have v0:W3.cell? ⟨N,0,none⟩=some (.int .i64 0):=HP.out.r0.c0
  have v1:W3.cell? ⟨N,1,none⟩=some (.int .i64 0):=HP.out.r0.c1
  have v2:W3.cell? ⟨N,2,none⟩=some (.string ⟨#[]⟩):=HP.out.r0.c2
  have v3:W3.cell? ⟨N+1,0,none⟩=some (.int .i64 0):=HP.out.r1.c0
  have v4:W3.cell? ⟨N+1,1,none⟩=some (.int .i64 0):=HP.out.r1.c1
  have v5:W3.cell? ⟨N+1,2,none⟩=some (.string ⟨#[]⟩):=HP.out.r1.c2
  refine bodyPost_ret (v:=.tuple #[.agg #[.int .i64 0,.int .i64 0,.string ⟨#[]⟩],.agg #[.int .i64 0,.int .i64 0,.string ⟨#[]⟩]]) (by simp[results,Tryz.results37,go_sem,v0,v1,v2,v3,v4,v5]) rfl ⟨rfl,HP.out.bel⟩
set_option maxRecDepth 20000 in
set_option maxHeartbeats 4000000 in
theorem rpair_in (h:Rb w RT A P ka va ca cb G t) (ti:TI t.p) (j:Nat) (hj:j<t.p.n):
 Calls Tryz.prog 37 #[.pointer (some ⟨RT,0,none⟩),.int .i64 ((j:Int)+1)] w fun e w'=>e= .returned (.tuple #[vv (kn ((j:Int)+1)),vv (t.p.F j)])∧Below w.heap.size w w':=by
 have T0:=Tb.made w
 obtain ⟨W0,hW0⟩:∃W0,(w.alloc (vb 0 0 ⟨#[]⟩)).alloc (vb 0 0 ⟨#[]⟩)=W0:=⟨_,rfl⟩
 rw[hW0] at T0
 have CP:=rplaces_any (h.below T0.bel) ti
 have HT0:Hid (Tb w W0):=T0
 have HRb:Hid (Rb w RT A P ka va ca cb G t):=h
 have hnz:¬((t.p.n+t.p.z:Nat):Int)<(j:Int)+1:=by push_cast;omega
 have hle:=ti.le
 generalize ((t.p.n+t.p.z:Nat):Int)=nz at *
 have lR:=h.ltR
 have lA:=h.ltA
 clear h ti T0
 unfold vb at hW0
 unfold vv vl
 have eX:(w.alloc (.cells #[.int .i64 0,.int .i64 0,.string ⟨#[]⟩] 36)).heap.size=w.heap.size+1:=by simp
 have HF:Hid (∀W,Tb w W→(∀y:V,(W.cell? ⟨RT,0,none⟩=some (.slice (some ⟨A,0,none⟩) t.p.n t.p.n)∧W.cell? ⟨A,j * 3,none⟩=some (.int .i64 (t.p.F j).1)∧W.cell? ⟨A,j * 3+1,none⟩=some (.int .i64 (t.p.F j).2.1)∧W.cell? ⟨A,j * 3+2,none⟩=some (.string (t.p.F j).2.2))∧
  ((set3 W w.heap.size y).cell? ⟨RT,0,none⟩=some (.slice (some ⟨A,0,none⟩) t.p.n t.p.n)∧(set3 W w.heap.size y).cell? ⟨A,j * 3,none⟩=some (.int .i64 (t.p.F j).1)∧(set3 W w.heap.size y).cell? ⟨A,j * 3+1,none⟩=some (.int .i64 (t.p.F j).2.1)∧(set3 W w.heap.size y).cell? ⟨A,j * 3+2,none⟩=some (.string (t.p.F j).2.2))∧
  R3 W w.heap.size nil∧R3 (set3 W w.heap.size y) (w.heap.size+1) nil∧P2 w (set3 (set3 W w.heap.size y) (w.heap.size+1) (t.p.F j)) w.heap.size y (t.p.F j))):=fun W tb y=>by
  have a1:=HRb.out.below tb.bel
  have a2:=HRb.out.below (tb.two y y).2.2
  obtain ⟨u0,u1,u2⟩:=a1.sl.at hj
  obtain ⟨v0,v1,v2⟩:=a2.sl.at hj
  exact ⟨⟨a1.c0,u0,u1,u2⟩,⟨a2.c0,v0,v1,v2⟩,tb.r0,(tb.two y y).1,(tb.two y (t.p.F j)).2.1⟩
 generalize t.p.F j=x at *
 generalize t.p.n=n at *
 have hj1:¬((j:Int)+1<1):=by omega
 have hj2:(j:Int)+1≤(n:Int):=by omega
 have hj3:(j:Int)<(n:Int):=by omega
 have hj4:¬((j:Int)<0):=by omega
 have hw0:IntKind.i64.wrap (j:Int)=(j:Int):=by rw[IntKind.wrap_i64];omega
 have hw1:IntKind.i64.wrap ((j:Int)+1 - 1)=(j:Int):=by rw[IntKind.wrap_i64];omega
 generalize hsz:w.heap.size=N at *
 go_enter Tryz.func37,Tryz.ntmps37
 go_wp2_with fail
 refine CP.mono ?_;rintro e U ⟨rfl,hbU⟩
 have TU:=HT0.out.below hbU
 have C1:=mkI ((j:Int)+1) U.drew
 unfold vl at C1
 have HTU:Hid (Tb w U):=TU
 obtain ⟨⟨d1,e0,e1,e2⟩,_⟩:=HF.out U TU x
 clear TU hbU CP
 go_wp2_with fail
 go_region_with (go_at_call 17;refine C1.mono ?_;rintro e W1 ⟨rfl,bb⟩;have bb1:Tb w W1:=HTU.out.below (bthen (bdrew1 U) (Nat.le_refl _) bb);obtain ⟨⟨d1',e0',e1',e2'⟩,⟨d1'',e0'',e1'',e2''⟩,q0,q1',pp2⟩:=HF.out W1 bb1 (2,(j:Int)+1,⟨#[]⟩);have n0:=q0.bx.c0;have n1:=q0.bx.c1;have n2:=q0.bx.c2;have nf:=q0.fz;obtain ⟨W2,hW2⟩:∃W2,set3 W1 N (2,(j:Int)+1,⟨#[]⟩)=W2:=⟨_,rfl⟩;rw[hW2] at q1' d1'' e0'' e1'' e2'' pp2;have m0:=q1'.bx.c0;have m1:=q1'.bx.c1;have m2:=q1'.bx.c2;have mf:=q1'.fz;obtain ⟨W3,hW3⟩:∃W3,set3 W2 (N+1) x=W3:=⟨_,rfl⟩;rw[hW3] at pp2;unfold set3 at hW2 hW3;have HB1:Hid (P2 w W3 N (2,(j:Int)+1,⟨#[]⟩) x):=pp2;clear q0 q1' bb bb1 pp2)
 all_goals
  go_wp2_with fail
  have v0:=HB1.out.r0.c0
  have v1:=HB1.out.r0.c1
  have v2:=HB1.out.r0.c2
  have v3:=HB1.out.r1.c0
  have v4:=HB1.out.r1.c1
  have v5:=HB1.out.r1.c2
  refine bodyPost_ret (v:=.tuple #[.agg #[.int .i64 2,.int .i64 ((j:Int)+1),.string ⟨#[]⟩],.agg #[.int .i64 x.1,.int .i64 x.2.1,.string x.2.2]]) (by simp[results,Tryz.results37,go_sem,v0,v1,v2,v3,v4,v5]) rfl ⟨rfl,HB1.out.bel⟩
end
end Go.Proofs.YtkmopcanaalemabGreat


namespace Go.Proofs.YtkmopcanaalemabGreat
open Go.RowKit
section
variable {w : World} {RT A P ka va ca : Nat} {cb : Nat → Nat} {G : Nat} {t : TS}
set_option maxRecDepth 20000 in
set_option maxHeartbeats 8000000 in
theorem rpair_out (h : Rb w RT A P ka va ca cb G t) (ti : TI t.p) (j : Nat) (hj : j < t.p.z) :
    Calls Tryz.prog 37 #[.pointer (some ⟨RT,0,none⟩),.int .i64 ((t.p.n : Int) + 1 + j)] w fun e w'=>e = .returned (.tuple #[vv (t.p.g.K j),vv (t.p.g.X j)]) ∧ Below w.heap.size w w':=by
  have T0:=Tb.made w
  obtain ⟨W0,hW0⟩ : ∃ W0,(w.alloc (vb 0 0 ⟨#[]⟩)).alloc (vb 0 0 ⟨#[]⟩) = W0:=⟨_,rfl⟩
  rw [hW0] at T0
  have CP:=rplaces_any (h.below T0.bel) ti
  have HT0 : Hid (Tb w W0):=T0
  have HRb : Hid (Rb w RT A P ka va ca cb G t):=h
  have hnz : ¬ ((t.p.n + t.p.z : Nat) : Int) < (t.p.n : Int) + 1 + (j : Int):=by push_cast;omega
  have hle:=ti.le
  have hlz:=ti.rt.le
  generalize ((t.p.n + t.p.z : Nat) : Int) = nz at *
  clear h ti T0
  unfold vb at hW0
  unfold vv vl
  have eX : (w.alloc (.cells #[.int .i64 0,.int .i64 0,.string ⟨#[]⟩] 36)).heap.size = w.heap.size + 1:=by simp
  have HC : Hid (∀ W,Below w.heap.size w W → W.cell? ⟨RT,0,none⟩ = some (.slice (some ⟨A,0,none⟩) t.p.n t.p.n) ∧ W.cell? ⟨RT,1,none⟩ = some (.pointer (some ⟨P,0,none⟩)) ∧ W.cell? ⟨P,0,none⟩ = some (.slice (some ⟨ka,0,none⟩) t.p.z t.p.z) ∧ W.cell? ⟨P,1,none⟩ = some (.slice (some ⟨va,0,none⟩) t.p.z t.p.z) ∧
      (W.cell? ⟨ka,j * 3,none⟩ = some (.int .i64 (t.p.g.K j).1) ∧ W.cell? ⟨ka,j * 3 + 1,none⟩ = some (.int .i64 (t.p.g.K j).2.1) ∧ W.cell? ⟨ka,j * 3 + 2,none⟩ = some (.string (t.p.g.K j).2.2)) ∧
      (W.cell? ⟨va,j * 3,none⟩ = some (.int .i64 (t.p.g.X j).1) ∧ W.cell? ⟨va,j * 3 + 1,none⟩ = some (.int .i64 (t.p.g.X j).2.1) ∧ W.cell? ⟨va,j * 3 + 2,none⟩ = some (.string (t.p.g.X j).2.2))):=fun W hb=>by
    have a1:=HRb.out.below hb
    exact ⟨a1.c0,a1.c1,a1.rp.s0,a1.rp.s1,a1.rp.k.at hj,a1.rp.v.at hj⟩
  clear HRb
  generalize t.p.g.K j = kk at *
  generalize t.p.g.X j = x at *
  generalize t.p.z = z at *
  generalize t.p.n = n at *
  have hj1 : ¬ ((n : Int) + 1 + (j : Int) < 1):=by omega
  have hj2 : ¬ ((n : Int) + 1 + (j : Int) ≤ (n : Int)):=by omega
  have hj3 : (j : Int) < (z : Int):=by omega
  have hj4 : ¬ ((j : Int) < 0):=by omega
  have hw0 : IntKind.i64.wrap ((n : Int) + 1 + (j : Int) - 1) = (n : Int) + (j : Int):=by rw [IntKind.wrap_i64];omega
  have hw1 : IntKind.i64.wrap ((n : Int) + (j : Int) - (n : Int)) = (j : Int):=by rw [IntKind.wrap_i64];omega
  have hw2 : IntKind.i64.wrap (j : Int) = (j : Int):=by rw [IntKind.wrap_i64];omega
  obtain ⟨nj,hnj⟩ : ∃ nj : Int,(n : Int) + (j : Int) = nj:=⟨_,rfl⟩
  rw [hnj] at hw0 hw1
  clear hnj
  generalize hm : (n : Int) + 1 + (j : Int) = m at *
  clear hm
  go_enter Tryz.func37,Tryz.ntmps37
  go_wp2_with fail
  refine CP.mono ?_;rintro e U ⟨rfl,hbU⟩
  have TU:=HT0.out.below hbU
  obtain ⟨d1,d2,d3,d4,⟨e0,e1,e2⟩,e3,e4,e5⟩:=HC.out U TU.bel
  obtain ⟨q1,pp2,bs⟩:=TU.two kk x
  obtain ⟨f1,f2,f3,f4,⟨g0,g1,g2⟩,g3,g4,g5⟩:=HC.out _ bs
  have n0 : U.cell? ⟨w.heap.size,0,none⟩ = some (.int .i64 0):=TU.r0.bx.c0
  have n1 : U.cell? ⟨w.heap.size,1,none⟩ = some (.int .i64 0):=TU.r0.bx.c1
  have n2 : U.cell? ⟨w.heap.size,2,none⟩ = some (.string ⟨#[]⟩):=TU.r0.bx.c2
  have nf:=TU.r0.fz
  obtain ⟨W2,hW2⟩ : ∃ W2,set3 U w.heap.size kk = W2:=⟨_,rfl⟩
  rw [hW2] at q1 pp2 f1 f2 f3 f4 g0 g1 g2 g3 g4 g5
  have m0 : W2.cell? ⟨w.heap.size + 1,0,none⟩ = some (.int .i64 0):=q1.bx.c0
  have m1 : W2.cell? ⟨w.heap.size + 1,1,none⟩ = some (.int .i64 0):=q1.bx.c1
  have m2 : W2.cell? ⟨w.heap.size + 1,2,none⟩ = some (.string ⟨#[]⟩):=q1.bx.c2
  have mf:=q1.fz
  obtain ⟨W3,hW3⟩ : ∃ W3,set3 W2 (w.heap.size + 1) x = W3:=⟨_,rfl⟩
  rw [hW3] at pp2
  have HB1 : Hid (P2 w W3 w.heap.size kk x):=pp2
  unfold set3 at hW2 hW3
  clear TU hbU CP q1 pp2 bs HC HT0 hW0 eX
  generalize hsz : w.heap.size = N at *
  go_wp2_with fail
  go_region
  all_goals
    go_wp2_with fail
    have v0:=HB1.out.r0.c0
    have v1:=HB1.out.r0.c1
    have v2:=HB1.out.r0.c2
    have v3:=HB1.out.r1.c0
    have v4:=HB1.out.r1.c1
    have v5:=HB1.out.r1.c2
    refine bodyPost_ret (v:=.tuple #[.agg #[.int .i64 kk.1,.int .i64 kk.2.1,.string kk.2.2],.agg #[.int .i64 x.1,.int .i64 x.2.1,.string x.2.2]]) (by simp [results,Tryz.results37,go_sem,v0,v1,v2,v3,v4,v5]) rfl ⟨rfl,by rw [hsz];first | exact HB1.out.bel | exact HB1.out.bel.trans (bdrew _ _ 1) | exact HB1.out.bel.trans ⟨rfl,rfl,rfl,Nat.le_refl _,fun _ _=>rfl⟩⟩
end
end Go.Proofs.YtkmopcanaalemabGreat


namespace Go.Proofs.YtkmopcanaalemabGreat
open Go.RowKit
def prP (p : Pa) (m : Int) : V × V :=
  if m < 1 then (nil,nil) else if m ≤ (p.n : Int) then (kn m,p.F (m - 1).toNat) else if m ≤ ((p.n + p.z : Nat) : Int) then (p.g.K (m - 1 - p.n).toNat,p.g.X (m - 1 - p.n).toNat) else (nil,nil)
theorem tpair_all {w : World} {T A b a S : Nat} {t : TS} (h : Tm w T A b a S t) (ti : TI t.p) (m : Int) (hm : m ≤ 9223372036854775807) :
    Calls Tryz.prog 36 #[tp T,.int .i64 m] w fun e w'=>e = .returned (.tuple #[vv (prP t.p m).1,vv (prP t.p m).2]) ∧ Below w.heap.size w w':=by
  have hn:=ti.le
  have hz:=ti.rt.le
  unfold prP
  by_cases q1 : m < 1
  · rw [if_pos q1];exact pair_neg m q1 w
  · rw [if_neg q1]
    by_cases q2 : m ≤ (t.p.n : Int)
    · rw [if_pos q2]
      have C:=pair_in h hn (m - 1).toNat (by omega)
      rwa [show ((m - 1).toNat : Int) + 1 = m by omega] at C
    · rw [if_neg q2]
      by_cases q3 : m ≤ ((t.p.n + t.p.z : Nat) : Int)
      · rw [if_pos q3]
        have C:=pair_out h hn hz (m - 1 - t.p.n).toNat (by omega)
        rwa [show (t.p.n : Int) + 1 + ((m - 1 - t.p.n).toNat : Int) = m by omega] at C
      · rw [if_neg q3]
        have C:=pair_far h hn hz (m - 1 - t.p.n).toNat (by omega) (by omega)
        rwa [show (t.p.n : Int) + 1 + ((m - 1 - t.p.n).toNat : Int) = m by omega] at C
theorem rpair_all {w : World} {RT A P ka va ca : Nat} {cb : Nat → Nat} {G : Nat} {t : TS} (h : Rb w RT A P ka va ca cb G t) (ti : TI t.p) (m : Int) :
    Calls Tryz.prog 37 #[tp RT,.int .i64 m] w fun e w'=>e = .returned (.tuple #[vv (prP t.p m).1,vv (prP t.p m).2]) ∧ Below w.heap.size w w':=by
  unfold prP
  by_cases q1 : m < 1
  · rw [if_pos q1];exact rpair_far h ti m (.inl q1)
  · rw [if_neg q1]
    by_cases q2 : m ≤ (t.p.n : Int)
    · rw [if_pos q2]
      have C:=rpair_in h ti (m - 1).toNat (by omega)
      rwa [show ((m - 1).toNat : Int) + 1 = m by omega] at C
    · rw [if_neg q2]
      by_cases q3 : m ≤ ((t.p.n + t.p.z : Nat) : Int)
      · rw [if_pos q3]
        have C:=rpair_out h ti (m - 1 - t.p.n).toNat (by omega)
        rwa [show (t.p.n : Int) + 1 + ((m - 1 - t.p.n).toNat : Int) = m by omega] at C
      · rw [if_neg q3];exact rpair_far h ti m (.inr (by omega))
section
variable {Q : Nat → Prop} {w w' : World} {T S hb RT G c : Nat} {t u : TS} {s s' : H.St}
theorem Bz.pair (h : Bz Q w T S hb RT G c t s u s') (m : Int) (hm : m ≤ 9223372036854775807) : Calls Tryz.prog 36 #[tp T,.int .i64 m] w fun e w'=>e = .returned (.tuple #[vv (prP t.p m).1,vv (prP t.p m).2]) ∧ Below w.heap.size w w':=by
  obtain ⟨N1,N2,⟨A,b,a,h1⟩,_⟩:=h.tt
  exact tpair_all h1.tm h1.ti m hm
theorem Bz.rpair (h : Bz Q w T S hb RT G c t s u s') (m : Int) : Calls Tryz.prog 37 #[tp RT,.int .i64 m] w fun e w'=>e = .returned (.tuple #[vv (prP u.p m).1,vv (prP u.p m).2]) ∧ Below w.heap.size w w':=by
  obtain ⟨N1,N2,_,⟨A',P,ka,va,ca,cb,h2⟩,_⟩:=h.tt
  exact rpair_all h2.rb h2.ti m
theorem Bz.rstats (h : Bz Q w T S hb RT G c t s u s') : Calls Tryz.prog 34 #[tp RT] w fun e w'=>e = .returned (ts u) ∧ Below w.heap.size w w':=by
  obtain ⟨N1,N2,_,⟨A',P,ka,va,ca,cb,h2⟩,_⟩:=h.tt
  exact rstats_any h2.rb
theorem Bz.rplaces (h : Bz Q w T S hb RT G c t s u s') : Calls Tryz.prog 35 #[tp RT] w fun e w'=>e = .returned (.int .i64 ((u.p.n + u.p.z : Nat) : Int)) ∧ Below w.heap.size w w':=by
  obtain ⟨N1,N2,_,⟨A',P,ka,va,ca,cb,h2⟩,_⟩:=h.tt
  exact rplaces_any h2.rb h2.ti
end
end Go.Proofs.YtkmopcanaalemabGreat


namespace Go.Proofs.YtkmopcanaalemabGreat
open Go.RowKit
set_option maxHeartbeats 1000000 in
theorem clone_any (a z cap:Nat) (F:Nat→Nat→Value) (w:World) (hv:Rc w a z F) (hlt:a<w.heap.size) (h1:∀i j,(F i j).oneCell'=true) (hz:z≤65536):
 Calls Tryz.prog 107 #[.slice (some ⟨a,0,none⟩) z cap] w fun e w'=>∃g' c',e= .returned (.slice (some ⟨g',0,none⟩) z c')∧Rc w' g' z F∧(∀j,w'.frozen? ⟨g',j,none⟩=false)∧w.heap.size≤g'∧g'<w'.heap.size∧Below w.heap.size w w':=by
 obtain ⟨g',c',W1,hr,H⟩:=clone_app a z cap F w hv hlt h1 hz
 have HH:Hid _:=H
 clear H h1
 have hn:=notnil a z cap
 go_enter Tryz.func107,Tryz.ntmps107
 go_wp2_with (at_builtin;refine wp_app rfl _ _ 81 rfl 81 rfl _ _ rfl rfl hr ?_)
 go_ret
 exact ⟨g',c',rfl,HH.out⟩
set_option maxHeartbeats 1000000 in
theorem dump_any {b a z:Nat} {g:G} (w:World) (h:Pt w b a z g) (hz:z≤65536):
 Calls Tryz.prog 72 #[pp b] w fun e w'=>∃g' c',e= .returned (.slice (some ⟨g',0,none⟩) z c')∧Rc w' g' z (nf (pl z) g)∧(∀j,w'.frozen? ⟨g',j,none⟩=false)∧w.heap.size≤g'∧g'<w'.heap.size∧Below w.heap.size w w':=by
 have C:=clone_any a z z (nf (pl z) g) w h.row h.lta (fun i j=>nc_one _ _ _ _) hz
 have c1:=h.all
 clear h
 unfold pp
 go_enter Tryz.func72,Tryz.ntmps72
 go_wp2_with fail
 refine C.mono ?_;rintro e w' ⟨g',c',rfl,H⟩
 have HH:Hid _:=H
 clear H C
 go_wp2_with fail
 go_ret
 exact ⟨g',c',rfl,HH.out⟩
theorem vclone_app (A n cap:Nat) (F:Nat→V) (w:World) (hv:Rv w A n F) (hlt:A<w.heap.size) (hn:n≤65536):
 ∃v' w',(Builtin.append_ #[22,22] 22 #[.slice (some ⟨w.heap.size,0,none⟩) 0 0,.slice (some ⟨A,0,none⟩) n cap]).run Tryz.prog (w.alloc (.cells #[] 36))= .ok v' w'∧Lv w' w.heap.size v' n F∧Below w.heap.size w w':=by
 obtain ⟨i0,hi,hz0,hz1,hz2⟩:=info_parts info32
 have hb0:Below w.heap.size w (w.alloc (.cells #[] 36)):=b1 w _
 have hv2:Rv (w.alloc (.cells #[] 36)) A n F:=hv.block (hb0.block A hlt)
 obtain ⟨v',w',hr,hown,hg,hne⟩:=run_append_own (P:=Tryz.prog) (w.alloc (.cells #[] 36)) w.heap.size 22 22 36 i0 (vl 0 0 ⟨#[]⟩) 3 32 Tryz.underlying22 hi hz0 hz1 hz2 rfl (by omega)
  (.slice (some ⟨w.heap.size,0,none⟩) 0 0) 0 [] (World.ownsRow_made w #[] 0 (Nat.le_refl _) (Nat.zero_le _) rfl)
  ⟨A,0,none⟩ n cap (cellsV F n) (cellsV_len F n) (fun j u hu=>by
    have hj:j<n * 3:=by
     obtain ⟨h,_⟩:=List.getElem?_eq_some_iff.1 hu
     rw[cellsV_len] at h
     exact h
    rw[cellsV_at F n j hj] at hu
    have h2:=hv2.c (j / 3) (by omega) (j % 3) (by omega)
    have e:(Addr.add ⟨A,0,none⟩ j)=⟨A,j / 3 * 3+j % 3,none⟩:=by
     have e2:j / 3 * 3+j % 3=j:=by omega
     rw[e2]
     by_cases hj0:j=0
     ·subst hj0;rfl
     ·simp[Addr.add,hj0]
    rw[e,h2]
    exact hu) (cellsV_one F n) (by simp only[maxLen];omega) (by omega) (by simp)
 have hbel:Below w.heap.size w w':=hb0.grown hg (by simp) (fun k hk=>by
  simp only[Value.ownBlock,Option.some.injEq] at hk
  omega)
 simp only[Nat.zero_add,List.nil_append] at hown
 exact ⟨v',w',hr,⟨hown⟩,hbel⟩
theorem vnotnil (a z cap:Nat) (W:World):(binOp .eql 22 (.slice (some ⟨a,0,none⟩) z cap) (.slice none 0 0)).run Tryz.prog W= .ok (.bool false) W:=by kernel_rfl
set_option maxHeartbeats 1000000 in
theorem vclone_any (A n cap:Nat) (F:Nat→V) (w:World) (hv:Rv w A n F) (hlt:A<w.heap.size) (hn:n≤65536):
 Calls Tryz.prog 71 #[.slice (some ⟨A,0,none⟩) n cap] w fun e w'=>∃v',e= .returned v'∧Lv w' w.heap.size v' n F∧Below w.heap.size w w':=by
 obtain ⟨v',W1,hr,H⟩:=vclone_app A n cap F w hv hlt hn
 have HH:Hid _:=H
 clear H hv
 have hn:=vnotnil A n cap
 go_enter Tryz.func71,Tryz.ntmps71
 go_wp2_with (at_builtin;refine wp_app rfl _ _ 22 rfl 22 rfl _ _ rfl rfl hr ?_)
 go_ret
 exact ⟨v',rfl,HH.out⟩
structure Dt (w w':World) (v:Value) (g' c':Nat) (p:Pa):Prop where
 lv:Lv w' w.heap.size v p.n p.F
 rc:Rc w' g' p.z (nf (pl p.z) p.g)
 fz:∀j,w'.frozen? ⟨g',j,none⟩=false
 ge:w.heap.size≤g'
 lt:g'<w'.heap.size
 bel:Below w.heap.size w w'
set_option maxRecDepth 20000 in
set_option maxHeartbeats 2000000 in
theorem tdump_any {w:World} {T A b a S:Nat} {t:TS} (h:Tm w T A b a S t) (ti:TI t.p):
 Calls Tryz.prog 30 #[tp T] w fun e w'=>∃v g' c',e= .returned (.tuple #[v,.slice (some ⟨g',0,none⟩) t.p.z c'])∧Dt w w' v g' c' t.p:=by
 have c1:w.cell? ⟨T,1,none⟩=some (.slice (some ⟨A,0,none⟩) t.p.n t.p.n):=h.pm.c0
 have c2:w.cell? ⟨T,2,none⟩=some (.pointer (some ⟨b,0,none⟩)):=h.pm.c1
 have hD:=h.below (bdrew1 w)
 have C1:=vclone_any A t.p.n t.p.n t.p.F w.drew hD.pm.sl hD.pm.ltA ti.le
 have HC2:Hid (∀w1,Below w.heap.size w w1→w1.cell? ⟨T,1,none⟩=some (.slice (some ⟨A,0,none⟩) t.p.n t.p.n)∧w1.cell? ⟨T,2,none⟩=some (.pointer (some ⟨b,0,none⟩))∧Calls Tryz.prog 72 #[pp b] w1 fun e w'=>∃g' c',e= .returned (.slice (some ⟨g',0,none⟩) t.p.z c')∧Rc w' g' t.p.z (nf (pl t.p.z) t.p.g)∧(∀j,w'.frozen? ⟨g',j,none⟩=false)∧w1.heap.size≤g'∧g'<w'.heap.size∧Below w1.heap.size w1 w'):=fun w1 q=>⟨(h.below q).pm.c0,(h.below q).pm.c1,dump_any w1 (h.below q).pm.pt ti.rt.le⟩
 unfold tp
 clear h hD ti
 go_enter Tryz.func30,Tryz.ntmps30
 go_wp2_with fail
 go_region_with (first
  | (go_at_call 71;refine C1.mono ?_;rintro e w1 ⟨v',rfl,hl1,hb1⟩;have hB1:Below w.heap.size w w1:=bthen (bdrew1 w) (Nat.le_refl _) hb1;obtain ⟨k1,k2,C2⟩:=HC2.out w1 hB1;have HL1:Hid (Lv w1 w.heap.size v' t.p.n t.p.F∧Below w.heap.size w w1):=⟨hl1,hB1⟩;unfold pp at C2;clear hl1 hb1 hB1)
  | (go_at_call 72;refine C2.mono ?_;rintro e w2 ⟨g',c',rfl,q1,q2,q3,q4,q5⟩;have HD:Hid (Dt w w2 v' g' c' t.p):=⟨HL1.out.1.keep (No:=fun _=>True) (Keep.of q5) (fun _ _=>trivial),q1,q2,Nat.le_trans HL1.out.2.size q3,q4,bthen HL1.out.2 HL1.out.2.size q5⟩;clear q1 q2 q3 q4 q5))
 all_goals
  go_wp2_with fail
  go_ret2
  exact ⟨v',g',c',rfl,HD.out⟩
set_option maxRecDepth 100000 in
set_option maxHeartbeats 4000000 in
theorem samev_any {B A n c2:Nat} {v:Value} {F:Nat→V} (w:World) (h1:Lv w B v n F) (h2:Rv w A n F) (hA:A<w.heap.size) (hn:n≤65536):
 Calls Tryz.prog 31 #[v,.slice (some ⟨A,0,none⟩) n c2] w fun e w'=>e= .returned (.bool true)∧Below w.heap.size w w':=by
 have HL:Hid (Lv w B v n F):=h1
 have HR:Hid (∀w',Below w.heap.size w w'→Rv w' A n F):=fun w' hw=>h2.block (hw.block A hA)
 obtain ⟨av,cv,rfl⟩:=h1.form
 clear h1 h2
 go_enter Tryz.func31,Tryz.ntmps31
 go_wp2_with fail
 go_loopw [5] (fun iw wr=>∃i:Nat,iw= .int .i64 (i:Nat)∧i≤n∧Hid (Below w.heap.size w wr)) (fun iw _=>n - (intOf iw).toNat)
 case atStart=>exact ⟨0,rfl,by omega,Below.refl _ _⟩
 case round=>
  obtain ⟨i,rfl,hi,HB⟩:=hrel
  by_cases hlt:i<n
  ·have hlt':(i:Int)<(n:Int):=by omega
   obtain ⟨g0,c0,hv,_,_,_,x0,x1,x2⟩:=(HL.out.below HB.out).at hlt
   obtain ⟨rfl,rfl⟩:av=some ⟨g0,0,none⟩∧cv=c0:=by simpa using hv
   obtain ⟨y0,y1,y2⟩:=(HR.out wr HB.out).at hlt
   have N1:=neq32 (F i).1 (F i).2.1 (F i).1 (F i).2.1 (F i).2.2 (F i).2.2
   simp only[decide_true,Bool.not_true] at N1
   unfold vl at N1
   have g32:=guard32
   clear hv
   generalize F i=x at *
   go_wp2_with fail
   go_quiet (fail)
   go_wp2_with fail
   go_round
   case rel=>exact ⟨i+1,by go_num,by omega,HB.out.trans (bdrew _ _ _)⟩
   case measure=>simp[intOf];omega
  ·have hlt':¬(i:Int)<(n:Int):=by omega
   go_wp2_with fail
   go_ret
   exact ⟨rfl,HB.out⟩
theorem Bz.dump {Q:Nat→Prop} {w:World} {T S hb RT G c:Nat} {t u:TS} {s s':H.St} (h:Bz Q w T S hb RT G c t s u s'):Calls Tryz.prog 30 #[tp T] w fun e w'=>∃v g' c',e= .returned (.tuple #[v,.slice (some ⟨g',0,none⟩) t.p.z c'])∧Dt w w' v g' c' t.p:=by
 obtain ⟨N1,N2,⟨A,b,a,h1⟩,_⟩:=h.tt
 exact tdump_any h1.tm h1.ti
end Go.Proofs.YtkmopcanaalemabGreat
