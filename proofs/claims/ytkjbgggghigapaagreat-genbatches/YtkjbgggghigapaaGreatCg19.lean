import Derived.Test.YtkjbgggghigapaaGreatCg18
import Derived.BigRegion
import Derived.Deep.DeepCutAuto
import Derived.Test.YtkjbgggghigapaaGreatCg06
namespace Go.Proofs.YtkjbgggghigapaaGreat
open Go.RowKit
theorem F.two (f:F) (h:2≤f.len):∃(k0:Int) (t0:Tx) (n0 q0:Int) (s0:F) (k1:Int) (t1:Tx) (n1 q1:Int) (s1 r:F),f= .cons k0 t0 n0 q0 s0 (.cons k1 t1 n1 q1 s1 r):=by
 cases f with
 | nil=>simp[F.len] at h
 | cons k0 t0 n0 q0 s0 r=>
   cases r with
   | nil=>simp[F.len] at h
   | cons k1 t1 n1 q1 s1 r=>exact ⟨k0,t0,n0,q0,s0,k1,t1,n1,q1,s1,r,rfl⟩
set_option maxRecDepth 20000 in
set_option maxHeartbeats 8000000 in
theorem index_any {N:Nat} {nd:Ndc} (H:∀k t n p ks s,Gd (ks.siz+1) s (nd k t n p ks s)) (CE:CN 23 N nd) (No:Nat→Prop) (b:Nat) (s:Cs) (W:World) (t:Tx) (n p:Int) (a:Option Addr) (c:Nat) (ks:F) (h:Ck No b s W) (hr:Rv W No a ks) (hs:ks.siz<N+1) (hwk:ks.wfC=true) (hcc:ks.len≤c∧c≤maxLen) (hm:2≤ks.len) (hL:s.wt+4 * (ks.siz+1)≤1000000) (hp0:0≤s.lp) (hp:s.lp+((ks.siz:Nat):Int)+1≤1000000):
 Calls Tryz.prog 36 #[.pointer (some ⟨b,0,none⟩),(.agg #[.int .i64 (7),.string ⟨(t).toArray⟩,.int .i64 (n),.int .i64 (p),.slice a ks.len c])] W (CP No b W (ckI nd p ks s)):=by
 have hlen:=ks.len_siz
 have B:=h.cy #[.int .i64 7,.string ⟨t.toArray⟩,.int .i64 n,.int .i64 p,.slice a ks.len c]
 obtain ⟨X,hX⟩:∃X,W.heap.size=X:=⟨_,rfl⟩
 obtain ⟨W1,hW1⟩:∃W1,W.alloc (.cells #[.int .i64 (7),.string ⟨(t).toArray⟩,.int .i64 (n),.int .i64 (p),.slice a ks.len c] 54)=W1:=⟨_,rfl⟩
 rw[hX,hW1] at B
 have hr1:=B.rv hr
 have CI:=ixkept_any (fun g=>No g∨g=X) W1 7 t n p a c ks hr1 (fun _=>by omega)
 obtain ⟨p0,p1,p2,p3,p4⟩:=B.bx.five
 have HB:Hid (Cy No b s W X #[.int .i64 7,.string ⟨t.toArray⟩,.int .i64 n,.int .i64 p,.slice a ks.len c] W1∧Rv W No a ks):=⟨B,hr⟩
 unfold ckI
 by_cases hix:ixk 7 ks=true
 ·rw[hix] at CI
  rw[if_pos hix]
  clear h hr B hr1
  obtain ⟨k0,t0,n0,q0,s0,k1,t1,n1,q1,s1,r,rfl⟩:=F.two ks hm
  obtain ⟨-,hw0⟩:=F.wfC_cons hwk
  have ht0:=(F.wfC_one (F.wfC_cons hwk).1).2.1
  have ht1:=(F.wfC_one (F.wfC_cons hw0).1).2.1
  have HRR:=HB.out.2.kn HB.out.1.kn
  obtain ⟨g,o,a0,c0,rfl,hg,d0,d1,d2,d3,d4,-,hNx,-⟩:=HRR.cons
  obtain ⟨g',o',a1,c1,e1,hg',f0,f1,f2,f3,f4,-,-,-⟩:=hNx.cons
  injection e1 with e1
  injection e1 with e1 e2
  subst e1 e2
  have hl1:1<(F.cons k0 t0 n0 q0 s0 (.cons k1 t1 n1 q1 s1 r)).len:=by simp only[F.len];omega
  have hl1':(1:Int)<((F.cons k0 t0 n0 q0 s0 (.cons k1 t1 n1 q1 s1 r)).len:Int):=by omega
  have hl0':(0:Int)<((F.cons k0 t0 n0 q0 s0 (.cons k1 t1 n1 q1 s1 r)).len:Int):=by omega
  have hl0:0<(F.cons k0 t0 n0 q0 s0 (.cons k1 t1 n1 q1 s1 r)).len:=by omega
  simp only[F.get?,Option.elim]
  generalize (F.cons k0 t0 n0 q0 s0 (.cons k1 t1 n1 q1 s1 r)).len=l at *
  clear hix hwk hw0 HRR hNx
  by_cases h5:k1=5
  ·subst h5
   by_cases hv:libN (t0++[46]++t1)=0
   ·rw[if_pos (by rw[decide_eq_true hv];simp)]
    have HV:Hid (libN (t0++[46]++t1)=0):=hv
    clear hv
    go_enter Tryz.func36,Tryz.ntmps36
    go_wp2_with fail
    refine CI.mono ?_
    rintro e v1 ⟨rfl,hbl⟩
    have D1:=HB.out.1.below hbl
    obtain ⟨z0,z1,z2,z3,z4⟩:=D1.bx.five
    have hgs:g<v1.heap.size:=Nat.lt_of_lt_of_le hg hbl.size
    have d0:=(hbl.cell (p:=⟨g,o,none⟩) (by exact hg)).trans d0
    have d1:=(hbl.cell (p:=⟨g,o+1,none⟩) (by exact hg)).trans d1
    have d2:=(hbl.cell (p:=⟨g,o+2,none⟩) (by exact hg)).trans d2
    have d3:=(hbl.cell (p:=⟨g,o+3,none⟩) (by exact hg)).trans d3
    have d4:=(hbl.cell (p:=⟨g,o+4,none⟩) (by exact hg)).trans d4
    have f0:=(hbl.cell (p:=⟨g,o+5,none⟩) (by exact hg)).trans f0
    have f1:=(hbl.cell (p:=⟨g,o+5+1,none⟩) (by exact hg)).trans f1
    have f2:=(hbl.cell (p:=⟨g,o+5+2,none⟩) (by exact hg)).trans f2
    have f3:=(hbl.cell (p:=⟨g,o+5+3,none⟩) (by exact hg)).trans f3
    have f4:=(hbl.cell (p:=⟨g,o+5+4,none⟩) (by exact hg)).trans f4
    have hXs:=D1.bx.lt
    have z4A:=fun o1=>((b1 v1 o1).cell (p:=⟨X,4,none⟩) (by exact hXs)).trans z4
    have z4B:=fun o1 o2=>((b2 v1 o1 o2).cell (p:=⟨X,4,none⟩) (by exact hXs)).trans z4
    have d0A:=fun o1=>((b1 v1 o1).cell (p:=⟨g,o,none⟩) (by exact hgs)).trans d0
    have d0B:=fun o1 o2=>((b2 v1 o1 o2).cell (p:=⟨g,o,none⟩) (by exact hgs)).trans d0
    have d1A:=fun o1=>((b1 v1 o1).cell (p:=⟨g,o+1,none⟩) (by exact hgs)).trans d1
    have d1B:=fun o1 o2=>((b2 v1 o1 o2).cell (p:=⟨g,o+1,none⟩) (by exact hgs)).trans d1
    have d2A:=fun o1=>((b1 v1 o1).cell (p:=⟨g,o+2,none⟩) (by exact hgs)).trans d2
    have d2B:=fun o1 o2=>((b2 v1 o1 o2).cell (p:=⟨g,o+2,none⟩) (by exact hgs)).trans d2
    have d3A:=fun o1=>((b1 v1 o1).cell (p:=⟨g,o+3,none⟩) (by exact hgs)).trans d3
    have d3B:=fun o1 o2=>((b2 v1 o1 o2).cell (p:=⟨g,o+3,none⟩) (by exact hgs)).trans d3
    have d4A:=fun o1=>((b1 v1 o1).cell (p:=⟨g,o+4,none⟩) (by exact hgs)).trans d4
    have d4B:=fun o1 o2=>((b2 v1 o1 o2).cell (p:=⟨g,o+4,none⟩) (by exact hgs)).trans d4
    have f0A:=fun o1=>((b1 v1 o1).cell (p:=⟨g,o+5,none⟩) (by exact hgs)).trans f0
    have f0B:=fun o1 o2=>((b2 v1 o1 o2).cell (p:=⟨g,o+5,none⟩) (by exact hgs)).trans f0
    have f1A:=fun o1=>((b1 v1 o1).cell (p:=⟨g,o+5+1,none⟩) (by exact hgs)).trans f1
    have f1B:=fun o1 o2=>((b2 v1 o1 o2).cell (p:=⟨g,o+5+1,none⟩) (by exact hgs)).trans f1
    have f2A:=fun o1=>((b1 v1 o1).cell (p:=⟨g,o+5+2,none⟩) (by exact hgs)).trans f2
    have f2B:=fun o1 o2=>((b2 v1 o1 o2).cell (p:=⟨g,o+5+2,none⟩) (by exact hgs)).trans f2
    have f3A:=fun o1=>((b1 v1 o1).cell (p:=⟨g,o+5+3,none⟩) (by exact hgs)).trans f3
    have f3B:=fun o1 o2=>((b2 v1 o1 o2).cell (p:=⟨g,o+5+3,none⟩) (by exact hgs)).trans f3
    have f4A:=fun o1=>((b1 v1 o1).cell (p:=⟨g,o+5+4,none⟩) (by exact hgs)).trans f4
    have f4B:=fun o1 o2=>((b2 v1 o1 o2).cell (p:=⟨g,o+5+4,none⟩) (by exact hgs)).trans f4
    have HD1:Hid _:=D1
    clear CI D1 p0 p1 p2 p3 p4 hbl
    go_wp2_with fail
    go_cut [4,5] (fun ov kv wx=>∃g1 g2,ov= .pointer (some ⟨g1,0,none⟩)∧kv= .pointer (some ⟨g2,0,none⟩)∧Cy No b s W X #[.int .i64 7,.string ⟨t.toArray⟩,.int .i64 n,.int .i64 p,.slice (some ⟨g,o,none⟩) l c] wx∧Bx g1 54 #[.int .i64 k0,.string ⟨t0.toArray⟩,.int .i64 n0,.int .i64 q0,.slice a0 s0.len c0] wx∧Bx g2 54 #[.int .i64 5,.string ⟨t1.toArray⟩,.int .i64 n1,.int .i64 q1,.slice a1 s1.len c1] wx)
    case first=>
     go_region
     all_goals
      go_wp2_with fail
      go_meet
      first
       | exact ⟨_,_,rfl,rfl,(HD1.out.below (b2 v1 _ _)).drew,((Bx.new v1 54 _).alloc _).drew,by have q:=(Bx.new (v1.alloc (.cells #[.int .i64 (k0),.string ⟨(t0).toArray⟩,.int .i64 (n0),.int .i64 (q0),.slice a0 s0.len c0] 54)) 54 #[.int .i64 5,.string ⟨t1.toArray⟩,.int .i64 n1,.int .i64 q1,.slice a1 s1.len c1]).drew;simpa using q⟩
       | exact ⟨_,_,rfl,rfl,(HD1.out.below (b2 v1 _ _)).drew,by have q:=(Bx.new (v1.alloc (.cells #[.int .i64 (5),.string ⟨(t1).toArray⟩,.int .i64 (n1),.int .i64 (q1),.slice a1 s1.len c1] 54)) 54 #[.int .i64 k0,.string ⟨t0.toArray⟩,.int .i64 n0,.int .i64 q0,.slice a0 s0.len c0]).drew;simpa using q,((Bx.new v1 54 _).alloc _).drew⟩
    case rest=>
     obtain ⟨g1,g2,rfl,rfl,D2,X1,X2⟩:=hcut
     clear HD1 hXs hgs d0 d1 d2 d3 d4 f0 f1 f2 f3 f4 z0 z1 z2 z3 z4 z4A z4B d0A d0B d1A d1B d2A d2B d3A d3B d4A d4B f0A f0B f1A f1B f2A f2B f3A f3B f4A f4B
     obtain ⟨x0,x1,x2,x3,x4⟩:=X1.five
     obtain ⟨y0,y1,y2,y3,y4⟩:=X2.five
     obtain ⟨p0,p1,p2,p3,p4⟩:=D2.bx.five
     have CF:=fault_any D2.ck 5 p
     have HD2:Hid _:=D2
     clear D2 X1 X2
     have L:=library_any (t0++[46]++t1) wc
     rw[HV.out] at L
     go_wp2_with fail
     refine L.mono ?_
     rintro e v3 ⟨rfl,hw⟩
     rw[hw]
     go_wp2_with fail
     refine CF.mono ?_
     rintro e v3 hq
     have D3:=(HD2.out.step hq).out
     obtain ⟨rfl,-⟩:=hq
     go_wp2
     go_end0
     exact D3
   ·rw[if_neg (by simpa using hv)]
    obtain ⟨z,hz⟩:∃z,libN (t0++[46]++t1)=z:=⟨_,rfl⟩
    have HV:Hid (libN (t0++[46]++t1)=z):=hz
    rw[hz] at hv
    have hvb:(z==0)=false:=by simpa using hv
    clear hz
    go_enter Tryz.func36,Tryz.ntmps36
    go_wp2_with fail
    refine CI.mono ?_
    rintro e v1 ⟨rfl,hbl⟩
    have D1:=HB.out.1.below hbl
    obtain ⟨z0,z1,z2,z3,z4⟩:=D1.bx.five
    have hgs:g<v1.heap.size:=Nat.lt_of_lt_of_le hg hbl.size
    have d0:=(hbl.cell (p:=⟨g,o,none⟩) (by exact hg)).trans d0
    have d1:=(hbl.cell (p:=⟨g,o+1,none⟩) (by exact hg)).trans d1
    have d2:=(hbl.cell (p:=⟨g,o+2,none⟩) (by exact hg)).trans d2
    have d3:=(hbl.cell (p:=⟨g,o+3,none⟩) (by exact hg)).trans d3
    have d4:=(hbl.cell (p:=⟨g,o+4,none⟩) (by exact hg)).trans d4
    have f0:=(hbl.cell (p:=⟨g,o+5,none⟩) (by exact hg)).trans f0
    have f1:=(hbl.cell (p:=⟨g,o+5+1,none⟩) (by exact hg)).trans f1
    have f2:=(hbl.cell (p:=⟨g,o+5+2,none⟩) (by exact hg)).trans f2
    have f3:=(hbl.cell (p:=⟨g,o+5+3,none⟩) (by exact hg)).trans f3
    have f4:=(hbl.cell (p:=⟨g,o+5+4,none⟩) (by exact hg)).trans f4
    have hXs:=D1.bx.lt
    have z4A:=fun o1=>((b1 v1 o1).cell (p:=⟨X,4,none⟩) (by exact hXs)).trans z4
    have z4B:=fun o1 o2=>((b2 v1 o1 o2).cell (p:=⟨X,4,none⟩) (by exact hXs)).trans z4
    have d0A:=fun o1=>((b1 v1 o1).cell (p:=⟨g,o,none⟩) (by exact hgs)).trans d0
    have d0B:=fun o1 o2=>((b2 v1 o1 o2).cell (p:=⟨g,o,none⟩) (by exact hgs)).trans d0
    have d1A:=fun o1=>((b1 v1 o1).cell (p:=⟨g,o+1,none⟩) (by exact hgs)).trans d1
    have d1B:=fun o1 o2=>((b2 v1 o1 o2).cell (p:=⟨g,o+1,none⟩) (by exact hgs)).trans d1
    have d2A:=fun o1=>((b1 v1 o1).cell (p:=⟨g,o+2,none⟩) (by exact hgs)).trans d2
    have d2B:=fun o1 o2=>((b2 v1 o1 o2).cell (p:=⟨g,o+2,none⟩) (by exact hgs)).trans d2
    have d3A:=fun o1=>((b1 v1 o1).cell (p:=⟨g,o+3,none⟩) (by exact hgs)).trans d3
    have d3B:=fun o1 o2=>((b2 v1 o1 o2).cell (p:=⟨g,o+3,none⟩) (by exact hgs)).trans d3
    have d4A:=fun o1=>((b1 v1 o1).cell (p:=⟨g,o+4,none⟩) (by exact hgs)).trans d4
    have d4B:=fun o1 o2=>((b2 v1 o1 o2).cell (p:=⟨g,o+4,none⟩) (by exact hgs)).trans d4
    have f0A:=fun o1=>((b1 v1 o1).cell (p:=⟨g,o+5,none⟩) (by exact hgs)).trans f0
    have f0B:=fun o1 o2=>((b2 v1 o1 o2).cell (p:=⟨g,o+5,none⟩) (by exact hgs)).trans f0
    have f1A:=fun o1=>((b1 v1 o1).cell (p:=⟨g,o+5+1,none⟩) (by exact hgs)).trans f1
    have f1B:=fun o1 o2=>((b2 v1 o1 o2).cell (p:=⟨g,o+5+1,none⟩) (by exact hgs)).trans f1
    have f2A:=fun o1=>((b1 v1 o1).cell (p:=⟨g,o+5+2,none⟩) (by exact hgs)).trans f2
    have f2B:=fun o1 o2=>((b2 v1 o1 o2).cell (p:=⟨g,o+5+2,none⟩) (by exact hgs)).trans f2
    have f3A:=fun o1=>((b1 v1 o1).cell (p:=⟨g,o+5+3,none⟩) (by exact hgs)).trans f3
    have f3B:=fun o1 o2=>((b2 v1 o1 o2).cell (p:=⟨g,o+5+3,none⟩) (by exact hgs)).trans f3
    have f4A:=fun o1=>((b1 v1 o1).cell (p:=⟨g,o+5+4,none⟩) (by exact hgs)).trans f4
    have f4B:=fun o1 o2=>((b2 v1 o1 o2).cell (p:=⟨g,o+5+4,none⟩) (by exact hgs)).trans f4
    have HD1:Hid _:=D1
    clear CI D1 p0 p1 p2 p3 p4 hbl
    go_wp2_with fail
    go_cut [4,5] (fun ov kv wx=>∃g1 g2,ov= .pointer (some ⟨g1,0,none⟩)∧kv= .pointer (some ⟨g2,0,none⟩)∧Cy No b s W X #[.int .i64 7,.string ⟨t.toArray⟩,.int .i64 n,.int .i64 p,.slice (some ⟨g,o,none⟩) l c] wx∧Bx g1 54 #[.int .i64 k0,.string ⟨t0.toArray⟩,.int .i64 n0,.int .i64 q0,.slice a0 s0.len c0] wx∧Bx g2 54 #[.int .i64 5,.string ⟨t1.toArray⟩,.int .i64 n1,.int .i64 q1,.slice a1 s1.len c1] wx)
    case first=>
     go_region
     all_goals
      go_wp2_with fail
      go_meet
      first
       | exact ⟨_,_,rfl,rfl,(HD1.out.below (b2 v1 _ _)).drew,((Bx.new v1 54 _).alloc _).drew,by have q:=(Bx.new (v1.alloc (.cells #[.int .i64 (k0),.string ⟨(t0).toArray⟩,.int .i64 (n0),.int .i64 (q0),.slice a0 s0.len c0] 54)) 54 #[.int .i64 5,.string ⟨t1.toArray⟩,.int .i64 n1,.int .i64 q1,.slice a1 s1.len c1]).drew;simpa using q⟩
       | exact ⟨_,_,rfl,rfl,(HD1.out.below (b2 v1 _ _)).drew,by have q:=(Bx.new (v1.alloc (.cells #[.int .i64 (5),.string ⟨(t1).toArray⟩,.int .i64 (n1),.int .i64 (q1),.slice a1 s1.len c1] 54)) 54 #[.int .i64 k0,.string ⟨t0.toArray⟩,.int .i64 n0,.int .i64 q0,.slice a0 s0.len c0]).drew;simpa using q,((Bx.new v1 54 _).alloc _).drew⟩
    case rest=>
     obtain ⟨g1,g2,rfl,rfl,D2,X1,X2⟩:=hcut
     clear HD1 hXs hgs d0 d1 d2 d3 d4 f0 f1 f2 f3 f4 z0 z1 z2 z3 z4 z4A z4B d0A d0B d1A d1B d2A d2B d3A d3B d4A d4B f0A f0B f1A f1B f2A f2B f3A f3B f4A f4B
     obtain ⟨x0,x1,x2,x3,x4⟩:=X1.five
     obtain ⟨y0,y1,y2,y3,y4⟩:=X2.five
     obtain ⟨p0,p1,p2,p3,p4⟩:=D2.bx.five
     have HD2:Hid (CP No b W s (.returned (.tuple #[])) wc):=D2.out
     clear D2 X1 X2
     have L:=library_any (t0++[46]++t1) wc
     rw[HV.out] at L
     go_wp2_with fail
     refine L.mono ?_
     rintro e v3 ⟨rfl,hw⟩
     rw[hw]
     go_wp2
     go_end0
     exact HD2.out
  ·rw[if_pos (by simp[h5])]
   have h5b:(k1==5)=false:=by simpa using h5
   go_enter Tryz.func36,Tryz.ntmps36
   go_wp2_with fail
   refine CI.mono ?_
   rintro e v1 ⟨rfl,hbl⟩
   have D1:=HB.out.1.below hbl
   obtain ⟨z0,z1,z2,z3,z4⟩:=D1.bx.five
   have hgs:g<v1.heap.size:=Nat.lt_of_lt_of_le hg hbl.size
   have d0:=(hbl.cell (p:=⟨g,o,none⟩) (by exact hg)).trans d0
   have d1:=(hbl.cell (p:=⟨g,o+1,none⟩) (by exact hg)).trans d1
   have d2:=(hbl.cell (p:=⟨g,o+2,none⟩) (by exact hg)).trans d2
   have d3:=(hbl.cell (p:=⟨g,o+3,none⟩) (by exact hg)).trans d3
   have d4:=(hbl.cell (p:=⟨g,o+4,none⟩) (by exact hg)).trans d4
   have f0:=(hbl.cell (p:=⟨g,o+5,none⟩) (by exact hg)).trans f0
   have f1:=(hbl.cell (p:=⟨g,o+5+1,none⟩) (by exact hg)).trans f1
   have f2:=(hbl.cell (p:=⟨g,o+5+2,none⟩) (by exact hg)).trans f2
   have f3:=(hbl.cell (p:=⟨g,o+5+3,none⟩) (by exact hg)).trans f3
   have f4:=(hbl.cell (p:=⟨g,o+5+4,none⟩) (by exact hg)).trans f4
   have hXs:=D1.bx.lt
   have z4A:=fun o1=>((b1 v1 o1).cell (p:=⟨X,4,none⟩) (by exact hXs)).trans z4
   have z4B:=fun o1 o2=>((b2 v1 o1 o2).cell (p:=⟨X,4,none⟩) (by exact hXs)).trans z4
   have d0A:=fun o1=>((b1 v1 o1).cell (p:=⟨g,o,none⟩) (by exact hgs)).trans d0
   have d0B:=fun o1 o2=>((b2 v1 o1 o2).cell (p:=⟨g,o,none⟩) (by exact hgs)).trans d0
   have d1A:=fun o1=>((b1 v1 o1).cell (p:=⟨g,o+1,none⟩) (by exact hgs)).trans d1
   have d1B:=fun o1 o2=>((b2 v1 o1 o2).cell (p:=⟨g,o+1,none⟩) (by exact hgs)).trans d1
   have d2A:=fun o1=>((b1 v1 o1).cell (p:=⟨g,o+2,none⟩) (by exact hgs)).trans d2
   have d2B:=fun o1 o2=>((b2 v1 o1 o2).cell (p:=⟨g,o+2,none⟩) (by exact hgs)).trans d2
   have d3A:=fun o1=>((b1 v1 o1).cell (p:=⟨g,o+3,none⟩) (by exact hgs)).trans d3
   have d3B:=fun o1 o2=>((b2 v1 o1 o2).cell (p:=⟨g,o+3,none⟩) (by exact hgs)).trans d3
   have d4A:=fun o1=>((b1 v1 o1).cell (p:=⟨g,o+4,none⟩) (by exact hgs)).trans d4
   have d4B:=fun o1 o2=>((b2 v1 o1 o2).cell (p:=⟨g,o+4,none⟩) (by exact hgs)).trans d4
   have f0A:=fun o1=>((b1 v1 o1).cell (p:=⟨g,o+5,none⟩) (by exact hgs)).trans f0
   have f0B:=fun o1 o2=>((b2 v1 o1 o2).cell (p:=⟨g,o+5,none⟩) (by exact hgs)).trans f0
   have f1A:=fun o1=>((b1 v1 o1).cell (p:=⟨g,o+5+1,none⟩) (by exact hgs)).trans f1
   have f1B:=fun o1 o2=>((b2 v1 o1 o2).cell (p:=⟨g,o+5+1,none⟩) (by exact hgs)).trans f1
   have f2A:=fun o1=>((b1 v1 o1).cell (p:=⟨g,o+5+2,none⟩) (by exact hgs)).trans f2
   have f2B:=fun o1 o2=>((b2 v1 o1 o2).cell (p:=⟨g,o+5+2,none⟩) (by exact hgs)).trans f2
   have f3A:=fun o1=>((b1 v1 o1).cell (p:=⟨g,o+5+3,none⟩) (by exact hgs)).trans f3
   have f3B:=fun o1 o2=>((b2 v1 o1 o2).cell (p:=⟨g,o+5+3,none⟩) (by exact hgs)).trans f3
   have f4A:=fun o1=>((b1 v1 o1).cell (p:=⟨g,o+5+4,none⟩) (by exact hgs)).trans f4
   have f4B:=fun o1 o2=>((b2 v1 o1 o2).cell (p:=⟨g,o+5+4,none⟩) (by exact hgs)).trans f4
   have HD1:Hid _:=D1
   clear CI D1 p0 p1 p2 p3 p4 hbl
   go_wp2_with fail
   go_cut [4,5] (fun ov kv wx=>∃g1 g2,ov= .pointer (some ⟨g1,0,none⟩)∧kv= .pointer (some ⟨g2,0,none⟩)∧Cy No b s W X #[.int .i64 7,.string ⟨t.toArray⟩,.int .i64 n,.int .i64 p,.slice (some ⟨g,o,none⟩) l c] wx∧Bx g1 54 #[.int .i64 k0,.string ⟨t0.toArray⟩,.int .i64 n0,.int .i64 q0,.slice a0 s0.len c0] wx∧Bx g2 54 #[.int .i64 k1,.string ⟨t1.toArray⟩,.int .i64 n1,.int .i64 q1,.slice a1 s1.len c1] wx)
   case first=>
    go_region
    all_goals
     go_wp2_with fail
     go_meet
     first
      | exact ⟨_,_,rfl,rfl,(HD1.out.below (b2 v1 _ _)).drew,((Bx.new v1 54 _).alloc _).drew,by have q:=(Bx.new (v1.alloc (.cells #[.int .i64 (k0),.string ⟨(t0).toArray⟩,.int .i64 (n0),.int .i64 (q0),.slice a0 s0.len c0] 54)) 54 #[.int .i64 k1,.string ⟨t1.toArray⟩,.int .i64 n1,.int .i64 q1,.slice a1 s1.len c1]).drew;simpa using q⟩
      | exact ⟨_,_,rfl,rfl,(HD1.out.below (b2 v1 _ _)).drew,by have q:=(Bx.new (v1.alloc (.cells #[.int .i64 (k1),.string ⟨(t1).toArray⟩,.int .i64 (n1),.int .i64 (q1),.slice a1 s1.len c1] 54)) 54 #[.int .i64 k0,.string ⟨t0.toArray⟩,.int .i64 n0,.int .i64 q0,.slice a0 s0.len c0]).drew;simpa using q,((Bx.new v1 54 _).alloc _).drew⟩
   case rest=>
    obtain ⟨g1,g2,rfl,rfl,D2,X1,X2⟩:=hcut
    clear HD1 hXs hgs d0 d1 d2 d3 d4 f0 f1 f2 f3 f4 z0 z1 z2 z3 z4 z4A z4B d0A d0B d1A d1B d2A d2B d3A d3B d4A d4B f0A f0B f1A f1B f2A f2B f3A f3B f4A f4B
    obtain ⟨x0,x1,x2,x3,x4⟩:=X1.five
    obtain ⟨y0,y1,y2,y3,y4⟩:=X2.five
    obtain ⟨p0,p1,p2,p3,p4⟩:=D2.bx.five
    have CF:=fault_any D2.ck 5 p
    have HD2:Hid _:=D2
    clear D2 X1 X2
    go_wp2_with fail
    refine CF.mono ?_
    rintro e v3 hq
    have D3:=(HD2.out.step hq).out
    obtain ⟨rfl,-⟩:=hq
    go_wp2
    go_end0
    exact D3
 ·rw[Bool.eq_false_iff.2 hix] at CI
  rw[if_neg hix]
  have HC:Hid (∀w,Cy No b s W X #[.int .i64 7,.string ⟨t.toArray⟩,.int .i64 n,.int .i64 p,.slice a ks.len c] w→Calls Tryz.prog 38 #[.pointer (some ⟨b,0,none⟩),.slice a ks.len c] w (CP (fun g=>No g∨g=X) b w (ckN nd ks s))):=fun w hw=>nodes_any H CE (fun g=>No g∨g=X) b s w a c ks hw.ck (hw.rv hr) (by omega) hwk (by omega) hp0 (by omega)
  clear h hr B hr1 hix
  go_enter Tryz.func36,Tryz.ntmps36
  go_wp2_with fail
  refine CI.mono ?_
  rintro e v1 ⟨rfl,hbl⟩
  have D1:=HB.out.1.below hbl
  obtain ⟨z0,z1,z2,z3,z4⟩:=D1.bx.five
  have K:=HC.out v1 D1
  have HD1:Hid _:=D1
  clear CI D1 p0 p1 p2 p3 p4 hbl HC HB
  go_wp2_with fail
  refine K.mono ?_
  rintro e v2 hq
  have D2:=(HD1.out.step hq).out
  obtain ⟨rfl,-⟩:=hq
  go_wp2
  go_end0
  exact D2
end Go.Proofs.YtkjbgggghigapaaGreat


namespace Go.Proofs.YtkjbgggghigapaaGreat
open Go.RowKit
set_option maxRecDepth 20000 in
set_option maxHeartbeats 2000000 in
theorem indexT_all (l:List Tx) (t:Tx) (v:Value) (w:World) (h:w.ownsRow 0 9 1 v l.length (strs l)):
 Calls Tryz.prog 80 #[v,.string ⟨t.toArray⟩] w fun e w'=>(∃i:Int,e= .returned (.int .i64 i)∧decide (0≤i)=l.contains t)∧w'=w:=by
 obtain ⟨a,c,rfl⟩:=slice_shape h
 have hl:l.length≤maxLen:=by
  rcases h.2 with ⟨_,e⟩ | ⟨g,cap,cur,_,_,_,h4,h5,_⟩
  ·rw[e];exact Nat.zero_le _
  ·omega
 have HL:Hid (∀i:Nat,i<l.length→IntKind.i64.wrap ((i:Int)+1)=(i:Int)+1):=fun i hi=>by rw[IntKind.wrap_i64];unfold maxLen at hl;omega
 clear hl
 have HC:Hid (∀i u,l[i]?=some u→∃g,a=some ⟨g,0,none⟩∧w.cell? ⟨g,i,none⟩=some (.string ⟨u.toArray⟩)):=fun i u hu=>by
  obtain ⟨g,h1,h2⟩:=own_at h i _ (strs_at l i u hu)
  rcases h.2 with ⟨e,_⟩ | ⟨g',cap,cur,e,_⟩
  ·rw[e] at h1;simp[Value.ownBlock] at h1
  ·rw[e] at h1
   injection e with e1 e2 e3
   have e4:g'=g:=by simpa [Value.ownBlock] using h1
   exact ⟨g,by rw[e1,e4],h2⟩
 clear h
 go_enter Tryz.func80,Tryz.ntmps80
 go_wp2_with fail
 go_loopw [4,5,8] (fun _ _ iv wx=>∃i:Nat,iv= .int .i64 (i:Nat)∧i≤l.length∧Hid ((l.take i).contains t=false)∧wx=w) (fun _ _ iv _=>l.length - (intOf iv).toNat)
 case atStart=>exact ⟨0,rfl,Nat.zero_le _,by show (l.take 0).contains t=false;simp,rfl⟩
 case round=>
  obtain ⟨i,rfl,hi,HR,rfl⟩:=hrel
  by_cases hlt:i<l.length
  ·obtain ⟨u,hu⟩:∃u,l[i]?=some u:=⟨_,List.getElem?_eq_getElem hlt⟩
   obtain ⟨g,rfl,hc⟩:=HC.out i u hu
   by_cases he:t=u
   ·have HE:Hid (l.contains t=true):=by
     have:=List.mem_of_getElem? hu
     rw[←he] at this
     show l.contains t=true
     simpa using this
    subst he
    clear hu
    go_wp2
    go_ret
    exact ⟨⟨_,rfl,by rw[HE.out];simp⟩,rfl⟩
   ·have HN:Hid ((l.take (i+1)).contains t=false):=by
     rw[List.take_add_one,hu]
     have:=HR.out
     simp at this⊢
     exact ⟨this,fun e=>he e⟩
    have he2:(t==u)=false:=by simpa using he
    have wi:=HL.out i hlt
    clear hu HR
    go_wp2
    refine ⟨⟨i+1,by go_num,by omega,HN,trivial⟩,?_⟩
    simp[intOf];omega
  ·obtain rfl:i=l.length:=by omega
   have HE:Hid (l.contains t=false):=by have:=HR.out;show l.contains t=false;simpa using this
   clear HR
   go_wp2
   go_ret
   exact ⟨⟨_,rfl,by rw[HE.out];decide⟩,rfl⟩
set_option maxRecDepth 20000 in
set_option maxHeartbeats 2000000 in
theorem containsT_all (l:List Tx) (t:Tx) (v:Value) (w:World) (h:w.ownsRow 0 9 1 v l.length (strs l)):
 Calls Tryz.prog 51 #[v,.string ⟨t.toArray⟩] w fun e w'=>e= .returned (.bool (l.contains t))∧w'=w:=by
 have C:=indexT_all l t v w h
 go_enter Tryz.func51,Tryz.ntmps51
 go_wp2_with fail
 refine C.mono ?_
 rintro e w1 ⟨⟨i,rfl,hi⟩,hw⟩
 rw[hw]
 go_wp2
 go_ret
 exact ⟨by simp,rfl⟩
set_option maxRecDepth 20000 in
set_option maxHeartbeats 4000000 in
theorem name_any (No:Nat→Prop) (b:Nat) (s:Cs) (W:World) (k:Int) (t:Tx) (n p:Int) (v:Value) (h:Ck No b s W) (hL:s.wt≤1000000) (ht:t.length≤20000):
 Calls Tryz.prog 35 #[.pointer (some ⟨b,0,none⟩),(.agg #[.int .i64 (k),.string ⟨(t).toArray⟩,.int .i64 (n),.int .i64 (p),v])] W (CP No b W (nmC t p s)):=by
 have B:=h.cy #[.int .i64 k,.string ⟨t.toArray⟩,.int .i64 n,.int .i64 p,v]
 obtain ⟨X,hX⟩:∃X,W.heap.size=X:=⟨_,rfl⟩
 obtain ⟨W1,hW1⟩:∃W1,W.alloc (.cells #[.int .i64 (k),.string ⟨(t).toArray⟩,.int .i64 (n),.int .i64 (p),v] 54)=W1:=⟨_,rfl⟩
 rw[hX,hW1] at B
 have CU:=unkept_any B.ck k t n p v
 obtain ⟨p0,p1,p2,p3,p4⟩:=B.bx.five
 have HB:Hid _:=B
 clear h B
 unfold nmC
 have hlo:s.lo.length≤s.wt∧s.gl.length≤s.wt:=by unfold Cs.wt;omega
 have hu:s.lo=(unk t p s).lo∧s.ar=(unk t p s).ar∧s.gl=(unk t p s).gl:=by
  unfold unk fau
  split
  ·split<;>exact ⟨rfl,rfl,rfl⟩
  ·exact ⟨rfl,rfl,rfl⟩
 rw[hu.1] at hlo⊢
 rw[hu.2.2] at hlo
 clear hu
 generalize unk t p s=s2 at *
 have hl3:s2.gl.length≤1000000:=by omega
 by_cases hc:s2.lo.contains t=true
 ·rw[if_pos hc]
  have H1:Hid (s2.lo.contains t=true):=hc
  clear hc
  go_enter Tryz.func35,Tryz.ntmps35
  go_wp2_with fail
  refine CU.mono ?_
  rintro e w2 hq
  have D:=HB.out.step hq
  obtain ⟨rfl,-⟩:=hq
  obtain ⟨x,hx⟩:=D.ck
  have b4:w2.cell? ⟨b,4,none⟩=some x.vL:=hx.bx.c 4 _ rfl
  have b6:w2.cell? ⟨b,6,none⟩=some x.vA:=hx.bx.c 6 _ rfl
  obtain ⟨q0,q1,q2,q3,q4⟩:=D.bx.five
  have C1:=fun V=>containsT_all s2.lo t x.vL V
  have C2:=fun V=>containsT_all s2.ar t x.vA V
  have hlr:=hx.lr
  have har:=hx.ar
  rw[H1.out] at C1
  have HD:Hid (Cy No b s2 W X #[.int .i64 k,.string ⟨t.toArray⟩,.int .i64 n,.int .i64 p,v] w2):=D
  clear CU D hx HB p0 p1 p2 p3 p4 hlo
  go_wp2_with fail
  go_region_with (refine (C1 _ (by exact hlr)).mono ?_;rintro e w3 ⟨rfl,hw⟩;rw[hw])
  all_goals
   go_wp2
   go_end0
   exact HD.out.drew.out
 ·rw[if_neg hc]
  have H1:Hid (s2.lo.contains t=false):=Bool.eq_false_iff.2 hc
  clear hc
  unfold ngl
  by_cases hc:s2.ar.contains t=true
  ·rw[if_pos hc]
   have H2:Hid (s2.ar.contains t=true):=hc
   clear hc
   go_enter Tryz.func35,Tryz.ntmps35
   go_wp2_with fail
   refine CU.mono ?_
   rintro e w2 hq
   have D:=HB.out.step hq
   obtain ⟨rfl,-⟩:=hq
   obtain ⟨x,hx⟩:=D.ck
   have b4:w2.cell? ⟨b,4,none⟩=some x.vL:=hx.bx.c 4 _ rfl
   have b6:w2.cell? ⟨b,6,none⟩=some x.vA:=hx.bx.c 6 _ rfl
   obtain ⟨q0,q1,q2,q3,q4⟩:=D.bx.five
   have C1:=fun V=>containsT_all s2.lo t x.vL V
   have C2:=fun V=>containsT_all s2.ar t x.vA V
   have hlr:=hx.lr
   have har:=hx.ar
   rw[H1.out] at C1
   rw[H2.out] at C2
   have HD:Hid (Cy No b s2 W X #[.int .i64 k,.string ⟨t.toArray⟩,.int .i64 n,.int .i64 p,v] w2):=D
   clear CU D hx HB p0 p1 p2 p3 p4 hlo
   go_wp2_with fail
   go_cut [14] (fun bv wx=>bv= .bool false∧wx=w2.drew)
   case first=>
    go_region_with (refine (C1 _ (by exact hlr)).mono ?_;rintro e w3 ⟨rfl,hw⟩;rw[hw])
    all_goals
     go_wp2_with fail
     go_meet
     exact ⟨rfl,rfl⟩
   case rest=>
    obtain ⟨rfl,rfl⟩:=hcut
    clear C1
    have CF:=fault_any HD.out.drew.drew.ck 5 p
    go_wp2_with fail
    go_cut [21] (fun bv wx=>bv= .bool true∧wx=w2.drew.drew)
    case first=>
     go_region_with (refine (C2 _ (by exact har)).mono ?_;rintro e w3 ⟨rfl,hw⟩;rw[hw])
     all_goals
      go_wp2_with fail
      go_meet
      exact ⟨rfl,rfl⟩
    case rest=>
     obtain ⟨rfl,rfl⟩:=hcut
     go_wp2_with fail
     refine CF.mono ?_
     rintro e w3 hq
     have D4:=HD.out.drew.drew.step hq
     obtain ⟨rfl,-⟩:=hq
     have gl4:(fau 5 p s2).gl.length≤1000000:=by unfold fau;split<;>exact hl3
     have CG:=global_any D4.ck t ht gl4
     obtain ⟨r0,r1,r2,r3,r4⟩:=D4.bx.five
     have HD4:Hid _:=D4
     clear D4 CF C2 HD
     go_wp2_with fail
     refine CG.mono ?_
     rintro e w5 hq
     have D5:=(HD4.out.step hq).out
     obtain ⟨rfl,-⟩:=hq
     go_wp2
     go_end0
     exact D5
  ·rw[if_neg hc]
   have H2:Hid (s2.ar.contains t=false):=Bool.eq_false_iff.2 hc
   clear hc
   go_enter Tryz.func35,Tryz.ntmps35
   go_wp2_with fail
   refine CU.mono ?_
   rintro e w2 hq
   have D:=HB.out.step hq
   obtain ⟨rfl,-⟩:=hq
   obtain ⟨x,hx⟩:=D.ck
   have b4:w2.cell? ⟨b,4,none⟩=some x.vL:=hx.bx.c 4 _ rfl
   have b6:w2.cell? ⟨b,6,none⟩=some x.vA:=hx.bx.c 6 _ rfl
   obtain ⟨q0,q1,q2,q3,q4⟩:=D.bx.five
   have C1:=fun V=>containsT_all s2.lo t x.vL V
   have C2:=fun V=>containsT_all s2.ar t x.vA V
   have hlr:=hx.lr
   have har:=hx.ar
   rw[H1.out] at C1
   rw[H2.out] at C2
   have HD:Hid (Cy No b s2 W X #[.int .i64 k,.string ⟨t.toArray⟩,.int .i64 n,.int .i64 p,v] w2):=D
   clear CU D hx HB p0 p1 p2 p3 p4 hlo
   go_wp2_with fail
   go_cut [14] (fun bv wx=>bv= .bool false∧wx=w2.drew)
   case first=>
    go_region_with (refine (C1 _ (by exact hlr)).mono ?_;rintro e w3 ⟨rfl,hw⟩;rw[hw])
    all_goals
     go_wp2_with fail
     go_meet
     exact ⟨rfl,rfl⟩
   case rest=>
    obtain ⟨rfl,rfl⟩:=hcut
    clear C1
    have CG:=global_any HD.out.drew.drew.ck t ht hl3
    go_wp2_with fail
    go_cut [21] (fun bv wx=>bv= .bool false∧wx=w2.drew.drew)
    case first=>
     go_region_with (refine (C2 _ (by exact har)).mono ?_;rintro e w3 ⟨rfl,hw⟩;rw[hw])
     all_goals
      go_wp2_with fail
      go_meet
      exact ⟨rfl,rfl⟩
    case rest=>
     obtain ⟨rfl,rfl⟩:=hcut
     go_wp2_with fail
     refine CG.mono ?_
     rintro e w5 hq
     have D5:=(HD.out.drew.drew.step hq).out
     obtain ⟨rfl,-⟩:=hq
     go_wp2
     go_end0
     exact D5
end Go.Proofs.YtkjbgggghigapaaGreat


namespace Go.Proofs.YtkjbgggghigapaaGreat
open Go.RowKit
set_option maxRecDepth 20000 in
set_option maxHeartbeats 8000000 in
theorem node_any' {N:Nat} {nd:Ndc} (H:∀k t n p ks s,Gd (ks.siz+1) s (nd k t n p ks s)) (CE:CN 23 N nd):CN 23 (N+1) (ckS nd):=by
 intro No b s W k t n p a c ks h hr hs hw hcc hL hp0 hp
 obtain ⟨har,ht,hwk⟩:=F.wfC_one hw
 have hlen:=ks.len_siz
 by_cases hb:s.bad=true
 ·have hv:ckS nd k t n p ks s=s:=by unfold ckS;rw[if_pos hb]
  rw[hv]
  have HBD:Hid (s.bad=true):=hb
  clear hv hb
  have B:=h.cy #[.int .i64 k,.string ⟨t.toArray⟩,.int .i64 n,.int .i64 p,.slice a ks.len c]
  obtain ⟨X,hX⟩:∃X,W.heap.size=X:=⟨_,rfl⟩
  obtain ⟨W1,hW1⟩:∃W1,W.alloc (.cells #[.int .i64 (k),.string ⟨(t).toArray⟩,.int .i64 (n),.int .i64 (p),.slice a ks.len c] 54)=W1:=⟨_,rfl⟩
  rw[hX,hW1] at B
  have rv1:=B.rv hr
  obtain ⟨p0,p1,p2,p3,p4⟩:=B.bx.five
  obtain ⟨x1,hx1⟩:=B.ck
  have CF:=failed_any hx1
  rw[HBD.out] at CF
  clear hx1
  have HE:Hid (CP No b W s (.returned (.tuple #[])) W1):=B.out
  clear h hr rv1 hw B
  go_enter Tryz.func23,Tryz.ntmps23
  go_wp2_with fail
  refine CF.mono ?_
  rintro e v0 ⟨rfl,hw0⟩
  rw[hw0]
  go_wp2
  go_end0
  exact HE.out
 have HBD:Hid (s.bad=false):=Bool.eq_false_iff.2 hb
 by_cases h4:k=4
 ·subst h4
  have hv:ckS nd 4 t n p ks s=con (2,n,[]) p s:=by unfold ckS;rw[if_neg hb];simp only[Int.reduceEq,if_false,if_true]
  rw[hv]
  clear hv hb
  have B:=h.cy #[.int .i64 4,.string ⟨t.toArray⟩,.int .i64 n,.int .i64 p,.slice a ks.len c]
  obtain ⟨X,hX⟩:∃X,W.heap.size=X:=⟨_,rfl⟩
  obtain ⟨W1,hW1⟩:∃W1,W.alloc (.cells #[.int .i64 (4),.string ⟨(t).toArray⟩,.int .i64 (n),.int .i64 (p),.slice a ks.len c] 54)=W1:=⟨_,rfl⟩
  rw[hX,hW1] at B
  have rv1:=B.rv hr
  obtain ⟨p0,p1,p2,p3,p4⟩:=B.bx.five
  obtain ⟨x1,hx1⟩:=B.ck
  have CF:=failed_any hx1
  rw[HBD.out] at CF
  clear hx1
  have C:=constant_any (fun g=>No g∨g=X) b s W1 4 t n p (.slice a ks.len c) (2,n,[]) B.ck (by omega)
  simp only at C
  clear h hr rv1 hw har
  go_enter Tryz.func23,Tryz.ntmps23
  go_wp2_with fail
  refine CF.mono ?_
  rintro e v0 ⟨rfl,hw0⟩
  rw[hw0]
  have HB:Hid _:=B
  clear B
  go_wp2_with fail
  refine C.mono ?_
  rintro e v2 hq
  have D2:=HB.out.step hq
  obtain ⟨rfl,-⟩:=hq
  have HE:=D2.out
  clear D2
  go_wp2
  go_end0
  exact HE
 by_cases h5:k=5
 ·subst h5
  have hv:ckS nd 5 t n p ks s=con (3,0,t) p s:=by unfold ckS;rw[if_neg hb];simp only[Int.reduceEq,if_false,if_true]
  rw[hv]
  clear hv hb
  have B:=h.cy #[.int .i64 5,.string ⟨t.toArray⟩,.int .i64 n,.int .i64 p,.slice a ks.len c]
  obtain ⟨X,hX⟩:∃X,W.heap.size=X:=⟨_,rfl⟩
  obtain ⟨W1,hW1⟩:∃W1,W.alloc (.cells #[.int .i64 (5),.string ⟨(t).toArray⟩,.int .i64 (n),.int .i64 (p),.slice a ks.len c] 54)=W1:=⟨_,rfl⟩
  rw[hX,hW1] at B
  have rv1:=B.rv hr
  obtain ⟨p0,p1,p2,p3,p4⟩:=B.bx.five
  obtain ⟨x1,hx1⟩:=B.ck
  have CF:=failed_any hx1
  rw[HBD.out] at CF
  clear hx1
  have C:=constant_any (fun g=>No g∨g=X) b s W1 5 t n p (.slice a ks.len c) (3,0,t) B.ck (by omega)
  simp only at C
  clear h hr rv1 hw har
  go_enter Tryz.func23,Tryz.ntmps23
  go_wp2_with fail
  refine CF.mono ?_
  rintro e v0 ⟨rfl,hw0⟩
  rw[hw0]
  have HB:Hid _:=B
  clear B
  go_wp2_with fail
  refine C.mono ?_
  rintro e v2 hq
  have D2:=HB.out.step hq
  obtain ⟨rfl,-⟩:=hq
  have HE:=D2.out
  clear D2
  go_wp2
  go_end0
  exact HE
 by_cases h6:k=6
 ·subst h6
  have hv:ckS nd 6 t n p ks s=nmC t p s:=by unfold ckS;rw[if_neg hb];simp only[Int.reduceEq,if_false,if_true]
  rw[hv]
  clear hv hb
  have B:=h.cy #[.int .i64 6,.string ⟨t.toArray⟩,.int .i64 n,.int .i64 p,.slice a ks.len c]
  obtain ⟨X,hX⟩:∃X,W.heap.size=X:=⟨_,rfl⟩
  obtain ⟨W1,hW1⟩:∃W1,W.alloc (.cells #[.int .i64 (6),.string ⟨(t).toArray⟩,.int .i64 (n),.int .i64 (p),.slice a ks.len c] 54)=W1:=⟨_,rfl⟩
  rw[hX,hW1] at B
  have rv1:=B.rv hr
  obtain ⟨p0,p1,p2,p3,p4⟩:=B.bx.five
  obtain ⟨x1,hx1⟩:=B.ck
  have CF:=failed_any hx1
  rw[HBD.out] at CF
  clear hx1
  have C:=name_any (fun g=>No g∨g=X) b s W1 6 t n p (.slice a ks.len c) B.ck (by omega) ht
  clear h hr rv1 hw har
  go_enter Tryz.func23,Tryz.ntmps23
  go_wp2_with fail
  refine CF.mono ?_
  rintro e v0 ⟨rfl,hw0⟩
  rw[hw0]
  have HB:Hid _:=B
  clear B
  go_wp2_with fail
  refine C.mono ?_
  rintro e v2 hq
  have D2:=HB.out.step hq
  obtain ⟨rfl,-⟩:=hq
  have HE:=D2.out
  clear D2
  go_wp2
  go_end0
  exact HE
 by_cases h7:k=7
 ·subst h7
  have hv:ckS nd 7 t n p ks s=ckI nd p ks s:=by unfold ckS;rw[if_neg hb];simp only[Int.reduceEq,if_false,if_true]
  rw[hv]
  clear hv hb
  have hn:2≤ks.len:=by simpa [arC] using har
  have B:=h.cy #[.int .i64 7,.string ⟨t.toArray⟩,.int .i64 n,.int .i64 p,.slice a ks.len c]
  obtain ⟨X,hX⟩:∃X,W.heap.size=X:=⟨_,rfl⟩
  obtain ⟨W1,hW1⟩:∃W1,W.alloc (.cells #[.int .i64 (7),.string ⟨(t).toArray⟩,.int .i64 (n),.int .i64 (p),.slice a ks.len c] 54)=W1:=⟨_,rfl⟩
  rw[hX,hW1] at B
  have rv1:=B.rv hr
  obtain ⟨p0,p1,p2,p3,p4⟩:=B.bx.five
  obtain ⟨x1,hx1⟩:=B.ck
  have CF:=failed_any hx1
  rw[HBD.out] at CF
  clear hx1
  have C:=index_any H CE (fun g=>No g∨g=X) b s W1 t n p a c ks B.ck rv1 hs hwk hcc hn hL hp0 hp
  clear h hr rv1 hw har
  go_enter Tryz.func23,Tryz.ntmps23
  go_wp2_with fail
  refine CF.mono ?_
  rintro e v0 ⟨rfl,hw0⟩
  rw[hw0]
  have HB:Hid _:=B
  clear B
  go_wp2_with fail
  refine C.mono ?_
  rintro e v2 hq
  have D2:=HB.out.step hq
  obtain ⟨rfl,-⟩:=hq
  have HE:=D2.out
  clear D2
  go_wp2
  go_end0
  exact HE
 by_cases h8:k=8
 ·subst h8
  have hv:ckS nd 8 t n p ks s=ckN nd ks (lim p ((ks.len:Int) - 1) 50 s):=by unfold ckS;rw[if_neg hb];simp only[Int.reduceEq,if_false,if_true]
  rw[hv]
  clear hv hb
  have B:=h.cy #[.int .i64 8,.string ⟨t.toArray⟩,.int .i64 n,.int .i64 p,.slice a ks.len c]
  obtain ⟨X,hX⟩:∃X,W.heap.size=X:=⟨_,rfl⟩
  obtain ⟨W1,hW1⟩:∃W1,W.alloc (.cells #[.int .i64 (8),.string ⟨(t).toArray⟩,.int .i64 (n),.int .i64 (p),.slice a ks.len c] 54)=W1:=⟨_,rfl⟩
  rw[hX,hW1] at B
  have rv1:=B.rv hr
  obtain ⟨p0,p1,p2,p3,p4⟩:=B.bx.five
  obtain ⟨x1,hx1⟩:=B.ck
  have CF:=failed_any hx1
  rw[HBD.out] at CF
  clear hx1
  have C1:=limit_any B.ck 8 t n p (.slice a ks.len c) ((ks.len:Int) - 1) 50
  have g1:=gd_lim p ((ks.len:Int) - 1) 50 s
  generalize lim p ((ks.len:Int) - 1) 50 s=s1 at *
  have w1:=g1.wt
  have l1:=g1.lp
  have C2:Hid (∀w,Ck (fun g=>No g∨g=X) b s1 w→Rv w (fun g=>No g∨g=X) a ks→Calls Tryz.prog 38 #[.pointer (some ⟨b,0,none⟩),.slice a ks.len c] w (CP (fun g=>No g∨g=X) b w (ckN nd ks s1))):=fun w hc hv=>nodes_any H CE (fun g=>No g∨g=X) b s1 w a c ks hc hv (by omega) hwk (by omega) (by omega) (by omega)
  have wl:IntKind.i64.wrap ((ks.len:Int) - 1)=(ks.len:Int) - 1:=by rw[IntKind.wrap_i64];omega
  have HR:Hid (Rv W No a ks):=hr
  clear h hr rv1 hw g1 w1 l1 har
  go_enter Tryz.func23,Tryz.ntmps23
  go_wp2_with fail
  refine CF.mono ?_
  rintro e v0 ⟨rfl,hw0⟩
  rw[hw0]
  have HB:Hid _:=B
  clear B
  go_wp2_with fail
  refine C1.mono ?_
  rintro e v2 hq
  have D2:=HB.out.step hq
  obtain ⟨rfl,-⟩:=hq
  obtain ⟨q0,q1,q2,q3,q4⟩:=D2.bx.five
  have K2:=C2.out v2 D2.ck (D2.rv HR.out)
  clear C1 C2
  have HD2:Hid _:=D2
  clear D2
  go_wp2_with fail
  refine K2.mono ?_
  rintro e v3 hq
  have D3:=HD2.out.step hq
  obtain ⟨rfl,-⟩:=hq
  have HE:=D3.out
  clear D3
  go_wp2
  go_end0
  exact HE
 by_cases h12:k=12
 ·subst h12
  have hv:ckS nd 12 t n p ks s=ckN nd ks (lim p (ks.len:Int) 200 s):=by unfold ckS;rw[if_neg hb];simp only[Int.reduceEq,if_false,if_true]
  rw[hv]
  clear hv hb
  have B:=h.cy #[.int .i64 12,.string ⟨t.toArray⟩,.int .i64 n,.int .i64 p,.slice a ks.len c]
  obtain ⟨X,hX⟩:∃X,W.heap.size=X:=⟨_,rfl⟩
  obtain ⟨W1,hW1⟩:∃W1,W.alloc (.cells #[.int .i64 (12),.string ⟨(t).toArray⟩,.int .i64 (n),.int .i64 (p),.slice a ks.len c] 54)=W1:=⟨_,rfl⟩
  rw[hX,hW1] at B
  have rv1:=B.rv hr
  obtain ⟨p0,p1,p2,p3,p4⟩:=B.bx.five
  obtain ⟨x1,hx1⟩:=B.ck
  have CF:=failed_any hx1
  rw[HBD.out] at CF
  clear hx1
  have C1:=limit_any B.ck 12 t n p (.slice a ks.len c) (ks.len:Int) 200
  have g1:=gd_lim p (ks.len:Int) 200 s
  generalize lim p (ks.len:Int) 200 s=s1 at *
  have w1:=g1.wt
  have l1:=g1.lp
  have C2:Hid (∀w,Ck (fun g=>No g∨g=X) b s1 w→Rv w (fun g=>No g∨g=X) a ks→Calls Tryz.prog 38 #[.pointer (some ⟨b,0,none⟩),.slice a ks.len c] w (CP (fun g=>No g∨g=X) b w (ckN nd ks s1))):=fun w hc hv=>nodes_any H CE (fun g=>No g∨g=X) b s1 w a c ks hc hv (by omega) hwk (by omega) (by omega) (by omega)
  have wl:IntKind.i64.wrap ((ks.len:Int) - 1)=(ks.len:Int) - 1:=by rw[IntKind.wrap_i64];omega
  have HR:Hid (Rv W No a ks):=hr
  clear h hr rv1 hw g1 w1 l1 har
  go_enter Tryz.func23,Tryz.ntmps23
  go_wp2_with fail
  refine CF.mono ?_
  rintro e v0 ⟨rfl,hw0⟩
  rw[hw0]
  have HB:Hid _:=B
  clear B
  go_wp2_with fail
  refine C1.mono ?_
  rintro e v2 hq
  have D2:=HB.out.step hq
  obtain ⟨rfl,-⟩:=hq
  obtain ⟨q0,q1,q2,q3,q4⟩:=D2.bx.five
  have K2:=C2.out v2 D2.ck (D2.rv HR.out)
  clear C1 C2
  have HD2:Hid _:=D2
  clear D2
  go_wp2_with fail
  refine K2.mono ?_
  rintro e v3 hq
  have D3:=HD2.out.step hq
  obtain ⟨rfl,-⟩:=hq
  have HE:=D3.out
  clear D3
  go_wp2
  go_end0
  exact HE
 have hv:ckS nd k t n p ks s=ckX nd k t n p ks s:=by unfold ckS;rw[if_neg hb,if_neg h4,if_neg h5,if_neg h6,if_neg h7,if_neg h8,if_neg h12]
 rw[hv]
 clear hv hb
 have e4:(k==4)=false:=by simpa using h4
 have e5:(k==5)=false:=by simpa using h5
 have e6:(k==6)=false:=by simpa using h6
 have e7:(k==7)=false:=by simpa using h7
 have e8:(k==8)=false:=by simpa using h8
 have e12:(k==12)=false:=by simpa using h12
 have B:=h.cy #[.int .i64 k,.string ⟨t.toArray⟩,.int .i64 n,.int .i64 p,.slice a ks.len c]
 obtain ⟨X,hX⟩:∃X,W.heap.size=X:=⟨_,rfl⟩
 obtain ⟨W1,hW1⟩:∃W1,W.alloc (.cells #[.int .i64 (k),.string ⟨(t).toArray⟩,.int .i64 (n),.int .i64 (p),.slice a ks.len c] 54)=W1:=⟨_,rfl⟩
 rw[hX,hW1] at B
 have rv1:=B.rv hr
 obtain ⟨p0,p1,p2,p3,p4⟩:=B.bx.five
 obtain ⟨x1,hx1⟩:=B.ck
 have CF:=failed_any hx1
 rw[HBD.out] at CF
 clear hx1
 have C:=statement_any' H CE (fun g=>No g∨g=X) b s W1 k t n p a c ks B.ck rv1 hs hw hcc hL hp0 hp
 clear h hr rv1 hw har
 go_enter Tryz.func23,Tryz.ntmps23
 go_wp2_with fail
 refine CF.mono ?_
 rintro e v0 ⟨rfl,hw0⟩
 rw[hw0]
 have HB:Hid _:=B
 clear B
 go_wp2_with fail
 refine C.mono ?_
 rintro e v2 hq
 have D2:=HB.out.step hq
 obtain ⟨rfl,-⟩:=hq
 have HE:=D2.out
 clear D2
 go_wp2
 go_end0
 exact HE
theorem nodes_all:∀N,CN 23 N (ck N)
 | 0=>fun _ _ _ _ _ _ _ _ _ _ _ _ _ hs=>absurd hs (Nat.not_lt_zero _)
 | N+1=>node_any' (gd_ck N) (nodes_all N)
end Go.Proofs.YtkjbgggghigapaaGreat
