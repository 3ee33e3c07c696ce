import Derived.Test.YtkjbgggghigapaaGreatCg09
import Derived.Test.YtkjbgggghigapaaGreatCg12
import Derived.Test.YtkjbgggghigapaaGreatCg17
namespace Go.Proofs.YtkjbgggghigapaaGreat
open Go.RowKit
set_option maxRecDepth 20000 in
set_option maxHeartbeats 8000000 in
theorem assign_any' {N:Nat} {nd:Ndc} (H:∀k t n p ks s,Gd (ks.siz+1) s (nd k t n p ks s)) (CE:CN 23 N nd) (No:Nat→Prop) (b:Nat) (s:Cs) (W:World) (k:Int) (t:Tx) (m:Nat) (p:Int) (a:Option Addr) (c:Nat) (ks:F) (h:Ck No b s W) (hr:Rv W No a ks) (hs:ks.siz<N+1) (hwk:ks.wfC=true) (hcc:ks.len≤c∧c≤maxLen) (hm:m≤ks.len) (hL:s.wt+4 * (ks.siz+1)≤1000000) (hp0:0≤s.lp) (hp:s.lp+((ks.siz:Nat):Int)+1≤1000000):
 Calls Tryz.prog 58 #[.pointer (some ⟨b,0,none⟩),(.agg #[.int .i64 (k),.string ⟨(t).toArray⟩,.int .i64 ((m:Nat)),.int .i64 (p),.slice a ks.len c])] W (CP No b W (ckA nd m 0 ks (lim p ((ks.len:Int) - m) 50 (lim p m 50 s)))):=by
 have hlen:=ks.len_siz
 have wl:IntKind.i64.wrap ((ks.len:Int) - (m:Int))=(ks.len:Int) - (m:Int):=by rw[IntKind.wrap_i64];omega
 have B:=h.cy #[.int .i64 k,.string ⟨t.toArray⟩,.int .i64 (m:Nat),.int .i64 p,.slice a ks.len c]
 obtain ⟨X,hX⟩:∃X,W.heap.size=X:=⟨_,rfl⟩
 obtain ⟨W1,hW1⟩:∃W1,W.alloc (.cells #[.int .i64 (k),.string ⟨(t).toArray⟩,.int .i64 ((m:Nat)),.int .i64 (p),.slice a ks.len c] 54)=W1:=⟨_,rfl⟩
 rw[hX,hW1] at B
 have HA:Hid (ks= .nil∨∃g o,a=some ⟨g,o,none⟩):=by
  cases ks with
  | nil=>exact .inl rfl
  | cons k t n p ks r'=>obtain ⟨g,o,_,_,e,_⟩:=hr.cons;exact .inr ⟨g,o,e⟩
 have C1:=limit_any B.ck k t m p (.slice a ks.len c) (m:Int) 50
 have g1:=gd_lim p (m:Int) 50 s
 generalize lim p (m:Int) 50 s=s1 at *
 have g2:=gd_lim p ((ks.len:Int) - (m:Int)) 50 s1
 have C2:Hid (∀(w:World),Ck (fun g=>No g∨g=X) b s1 w→Calls Tryz.prog 37 #[.pointer (some ⟨b,0,none⟩),(.agg #[.int .i64 (k),.string ⟨(t).toArray⟩,.int .i64 ((m:Nat)),.int .i64 (p),.slice a ks.len c]),.int .i64 ((ks.len:Int) - (m:Int)),.int .i64 50] w (CP (fun g=>No g∨g=X) b w (lim p ((ks.len:Int) - (m:Int)) 50 s1))):=fun w hw=>limit_any hw k t m p (.slice a ks.len c) ((ks.len:Int) - (m:Int)) 50
 generalize lim p ((ks.len:Int) - (m:Int)) 50 s1=s2 at *
 have w1:=g1.wt
 have w2:=g2.wt
 have l1:=g1.lp
 have l2:=g2.lp
 have HS:Hid (s2.wt+4 * ks.siz≤1000000∧0≤s2.lp∧s2.lp+((ks.siz:Nat):Int)≤1000000):=⟨by omega,by omega,by omega⟩
 obtain ⟨p0,p1,p2,p3,p4⟩:=B.bx.five
 have HB:Hid (_∧_):=⟨B,hr⟩
 have hsz:ks.siz≤250000:=by omega
 clear h B g1 g2 w1 w2 l1 l2 hr hL hp0 hp
 go_enter Tryz.func58,Tryz.ntmps58
 go_wp2_with fail
 refine C1.mono ?_
 rintro e v1 hq
 have D1:=HB.out.1.step hq
 obtain ⟨rfl,-⟩:=hq
 obtain ⟨q0,q1,q2,q3,q4⟩:=D1.bx.five
 have K2:=C2.out v1 D1.ck
 have HD1:Hid _:=D1
 clear C1 D1
 go_wp2_with fail
 refine K2.mono ?_
 rintro e v2 hq
 have D2:=HD1.out.step hq
 obtain ⟨rfl,-⟩:=hq
 obtain ⟨r0,r1,r2,r3,r4⟩:=D2.bx.five
 have HD2:Hid (Cy No b s2 W X #[.int .i64 k,.string ⟨t.toArray⟩,.int .i64 (m:Nat),.int .i64 p,.slice a ks.len c] v2):=D2
 clear K2 D2 HD1 C2
 go_wp2_with fail
 go_loopw [4,5,23] (fun _ _ iv wx=>∃(i:Nat) (q:F) (s':Cs),iv= .int .i64 (i:Nat)∧i+q.len=ks.len∧Hid (Cy No b s' W X #[.int .i64 k,.string ⟨t.toArray⟩,.int .i64 (m:Nat),.int .i64 p,.slice a ks.len c] wx∧(∀g o,a=some ⟨g,o,none⟩→Rv wx No (some ⟨g,o+i * 5,none⟩) q)∧ckA nd m i q s'=ckA nd m 0 ks s2∧q.siz≤ks.siz∧q.wfC=true∧s'.wt+4 * q.siz≤1000000∧s'.lp=s2.lp)) (fun _ _ iv _=>ks.len - (intOf iv).toNat)
 case atStart=>exact ⟨0,ks,s2,rfl,by omega,HD2.out,fun g o e=>by have:=HB.out.2.kn HD2.out.kn;rw[e] at this;simpa using this,rfl,Nat.le_refl _,hwk,HS.out.1,rfl⟩
 case round=>
  clear HD2 HB r0 r1 r2 r3 r4 q0 q1 q2 q3 q4 p0 p1 p2 p3 p4
  obtain ⟨i,q,s',rfl,hi,HR⟩:=hrel
  obtain ⟨D,-⟩:=HR.out
  obtain ⟨p0,p1,p2,p3,p4⟩:=D.bx.five
  clear D
  cases q with
  | nil=>
    have h1:¬(i:Int)<(ks.len:Int):=by simp only[F.len] at hi;omega
    have HE:Hid (CP No b W (ckA nd m 0 ks s2) (.returned (.tuple #[])) wr):=by
     obtain ⟨q1,_,q3,_⟩:=HR.out
     rw[←q3]
     exact q1.out
    go_wp2
    go_end0
    exact HE.out
  | cons k2 t2 n2 p2' ks2 q'=>
    simp only[F.len] at hi
    obtain ⟨D,hRv,hE,hz,hwf,hwt,hlp⟩:=HR.out
    obtain ⟨g,o,rfl⟩:∃g o,a=some ⟨g,o,none⟩:=HA.out.resolve_left fun e=>by rw[e] at hi;simp only[F.len] at hi;omega
    have hRv:=hRv g o rfl
    obtain ⟨g',o',a',c',e1,hg,c0,c1,c2,c3,c4,hKs,hNx,hcc2⟩:=hRv.cons
    injection e1 with e1
    injection e1 with e1 e2
    subst e1 e2
    simp only[F.siz] at hz hwt
    obtain ⟨hw1,hw2⟩:=F.wfC_cons hwf
    have h1:(i:Int)<(ks.len:Int):=by omega
    have wi:IntKind.i64.wrap ((i:Int)+1)=(i:Int)+1:=by rw[IntKind.wrap_i64];omega
    have har:=(F.wfC_one hw1).1
    have B2:=D.ck.cy #[.int .i64 k2,.string ⟨t2.toArray⟩,.int .i64 n2,.int .i64 p2',.slice a' ks2.len c']
    obtain ⟨Y,hY⟩:∃Y,wr.heap.size=Y:=⟨_,rfl⟩
    obtain ⟨V1,hV1⟩:∃V1,wr.alloc (.cells #[.int .i64 (k2),.string ⟨(t2).toArray⟩,.int .i64 (n2),.int .i64 (p2'),.slice a' ks2.len c'] 54)=V1:=⟨_,rfl⟩
    have bv:Below wr.heap.size wr V1:=by rw[←hV1];exact (Below.refl _ wr).alloc (Nat.le_refl _) _
    rw[hY,hV1] at B2
    have hKs2:=B2.rv (hKs.mono (Q:=fun g=>No g∨g=X) fun _ e=>.inl e)
    have D1:=D.below bv
    obtain ⟨x0,x1,x2,x3,x4⟩:=D1.bx.five
    obtain ⟨y0,y1,y2,y3,y4⟩:=B2.bx.five
    have HD:Hid (Cy No b s' W X #[.int .i64 k,.string ⟨t.toArray⟩,.int .i64 (m:Nat),.int .i64 p,.slice (some ⟨g,o,none⟩) ks.len c] wr∧Rv wr No (some ⟨g,o+i * 5+5,none⟩) q'∧Rv wr (fun g=>No g∨g=X) a' ks2):=⟨D,hNx,hKs.mono fun _ e=>.inl e⟩
    have HE:Hid (ckA nd m (i+1) q' (nd k2 t2 n2 p2' ks2 (if decide ((i:Int)<m) && ixk k2 ks2 then fau 5 p2' s' else s'))=ckA nd m 0 ks s2):=hE
    have hQ:=HS.out
    have gf:=gd_fau 5 p2' s'
    have HB2:Hid (Cy (fun g=>No g∨g=X) b s' wr Y #[.int .i64 k2,.string ⟨t2.toArray⟩,.int .i64 n2,.int .i64 p2',.slice a' ks2.len c'] V1):=B2
    have HG3:Hid (∀s3,Gd 0 s' s3→(nd k2 t2 n2 p2' ks2 s3).wt+4 * q'.siz≤1000000∧(nd k2 t2 n2 p2' ks2 s3).lp=s2.lp∧∀w,Ck (fun g=>(No g∨g=X)∨g=Y) b s3 w→Rv w (fun g=>(No g∨g=X)∨g=Y) a' ks2→Calls Tryz.prog 23 #[.pointer (some ⟨b,0,none⟩),(.agg #[.int .i64 (k2),.string ⟨(t2).toArray⟩,.int .i64 (n2),.int .i64 (p2'),.slice a' ks2.len c'])] w (CP (fun g=>(No g∨g=X)∨g=Y) b w (nd k2 t2 n2 p2' ks2 s3))):=fun s3 h3=>by
     have hg:=H k2 t2 n2 p2' ks2 s3
     have q1:=hg.wt
     have q2:=hg.lp
     have q3:=h3.wt
     have q4:=h3.lp
     refine ⟨by omega,by omega,fun w hc hv=>?_⟩
     exact CE _ b s3 w k2 t2 n2 p2' a' c' ks2 hc hv (by omega) hw1 hcc2 (by omega) (by omega) (by omega)
    clear D hRv hE HR hKs hNx B2 D1 hlp hwt hQ
    by_cases him:i<m
    ·have him':(i:Int)<(m:Int):=by omega
     have CI:=ixkept_any (fun g=>(No g∨g=X)∨g=Y) V1 k2 t2 n2 p2' a' c' ks2 hKs2 (fun e=>by subst e;simp[arC] at har;omega)
     by_cases hix:ixk k2 ks2=true
     ·rw[hix] at CI
      have HE2:Hid (ckA nd m ((i:Int)+1) q' (nd k2 t2 n2 p2' ks2 (fau 5 p2' s'))=ckA nd m 0 ks s2):=by have:=HE.out;rw[decide_eq_true him',hix] at this;exact this
      have HG4:Hid _:=HG3.out (fau 5 p2' s') gf
      clear HE hix har gf HG3 hKs2
      go_wp2_with fail
      refine CI.mono ?_
      rintro e v2' ⟨rfl,hbl⟩
      have D2:=HB2.out.below hbl
      obtain ⟨z0,z1,z2,z3,z4⟩:=D2.bx.five
      have CF:=fault_any D2.ck 5 p2'
      have HD2:Hid _:=D2
      clear CI D2 hbl
      go_wp2_with fail
      refine CF.mono ?_
      rintro e v3 hq
      have D3:=HD2.out.step hq
      obtain ⟨rfl,-⟩:=hq
      obtain ⟨z0,z1,z2,z3,z4⟩:=D3.bx.five
      have K4:=HG4.out.2.2 v3 D3.ck (D3.rv HD.out.2.2)
      have D3H:Hid _:=D3
      clear CF D3 HD2
      go_wp2_with fail
      refine K4.mono ?_
      rintro e v4 hq
      have D4:=(D3H.out.step hq).out
      have D5:=HD.out.1.step D4
      have HN:Hid (Cy No b (nd k2 t2 n2 p2' ks2 (fau 5 p2' s')) W X #[.int .i64 k,.string ⟨t.toArray⟩,.int .i64 (m:Nat),.int .i64 p,.slice (some ⟨g,o,none⟩) ks.len c] v4∧Rv v4 No (some ⟨g,o+i * 5+5,none⟩) q'):=⟨D5,HD.out.2.1.kn (D4.2.2.mono fun _ _ e=>.inl e)⟩
      obtain ⟨rfl,-⟩:=hq
      clear K4 D4 D5 D3H
      go_wp2
      refine ⟨⟨i+1,q',nd k2 t2 n2 p2' ks2 (fau 5 p2' s'),by go_num,by omega,HN.out.1,fun g' o' e=>?_,HE2.out,by omega,hw2,HG4.out.1,HG4.out.2.1⟩,?_⟩
      ·injection e with e
       injection e with e1 e2
       subst e1 e2
       rw[show o+(i+1) * 5=o+i * 5+5 by omega]
       exact HN.out.2
      ·simp[intOf];omega
     ·have hix:=Bool.eq_false_iff.2 hix
      rw[hix] at CI
      have HE2:Hid (ckA nd m ((i:Int)+1) q' (nd k2 t2 n2 p2' ks2 s')=ckA nd m 0 ks s2):=by have:=HE.out;rw[decide_eq_true him',hix] at this;exact this
      have HG4:Hid _:=HG3.out s' (Gd.refl _ _)
      clear HE hix har gf HG3 hKs2
      go_wp2_with fail
      refine CI.mono ?_
      rintro e v2' ⟨rfl,hbl⟩
      have D2:=HB2.out.below hbl
      obtain ⟨z0,z1,z2,z3,z4⟩:=D2.bx.five
      have K4:=HG4.out.2.2 v2' D2.ck (D2.rv HD.out.2.2)
      have D3H:Hid _:=D2
      clear CI D2 hbl
      go_wp2_with fail
      refine K4.mono ?_
      rintro e v4 hq
      have D4:=(D3H.out.step hq).out
      have D5:=HD.out.1.step D4
      have HN:Hid (Cy No b (nd k2 t2 n2 p2' ks2 s') W X #[.int .i64 k,.string ⟨t.toArray⟩,.int .i64 (m:Nat),.int .i64 p,.slice (some ⟨g,o,none⟩) ks.len c] v4∧Rv v4 No (some ⟨g,o+i * 5+5,none⟩) q'):=⟨D5,HD.out.2.1.kn (D4.2.2.mono fun _ _ e=>.inl e)⟩
      obtain ⟨rfl,-⟩:=hq
      clear K4 D4 D5 D3H
      go_wp2
      refine ⟨⟨i+1,q',nd k2 t2 n2 p2' ks2 s',by go_num,by omega,HN.out.1,fun g' o' e=>?_,HE2.out,by omega,hw2,HG4.out.1,HG4.out.2.1⟩,?_⟩
      ·injection e with e
       injection e with e1 e2
       subst e1 e2
       rw[show o+(i+1) * 5=o+i * 5+5 by omega]
       exact HN.out.2
      ·simp[intOf];omega
    ·have him':¬(i:Int)<(m:Int):=by omega
     have HE2:Hid (ckA nd m ((i:Int)+1) q' (nd k2 t2 n2 p2' ks2 s')=ckA nd m 0 ks s2):=by have:=HE.out;rw[decide_eq_false him'] at this;exact this
     have HG4:Hid _:=HG3.out s' (Gd.refl _ _)
     have K4:=HG4.out.2.2 V1 HB2.out.ck hKs2
     have D3H:Hid (Cy (fun g=>No g∨g=X) b s' wr Y #[.int .i64 k2,.string ⟨t2.toArray⟩,.int .i64 n2,.int .i64 p2',.slice a' ks2.len c'] V1):=HB2.out
     clear HE har gf HG3 hKs2 HB2
     go_wp2_with fail
     refine K4.mono ?_
     rintro e v4 hq
     have D4:=(D3H.out.step hq).out
     have D5:=HD.out.1.step D4
     have HN:Hid (Cy No b (nd k2 t2 n2 p2' ks2 s') W X #[.int .i64 k,.string ⟨t.toArray⟩,.int .i64 (m:Nat),.int .i64 p,.slice (some ⟨g,o,none⟩) ks.len c] v4∧Rv v4 No (some ⟨g,o+i * 5+5,none⟩) q'):=⟨D5,HD.out.2.1.kn (D4.2.2.mono fun _ _ e=>.inl e)⟩
     obtain ⟨rfl,-⟩:=hq
     clear K4 D4 D5 D3H
     go_wp2
     refine ⟨⟨i+1,q',nd k2 t2 n2 p2' ks2 s',by go_num,by omega,HN.out.1,fun g' o' e=>?_,HE2.out,by omega,hw2,HG4.out.1,HG4.out.2.1⟩,?_⟩
     ·injection e with e
      injection e with e1 e2
      subst e1 e2
      rw[show o+(i+1) * 5=o+i * 5+5 by omega]
      exact HN.out.2
     ·simp[intOf];omega
end Go.Proofs.YtkjbgggghigapaaGreat


namespace Go.Proofs.YtkjbgggghigapaaGreat
open Go.RowKit
set_option maxRecDepth 20000 in
set_option maxHeartbeats 8000000 in
theorem statement_any' {N:Nat} {nd:Ndc} (H:∀k t n p ks s,Gd (ks.siz+1) s (nd k t n p ks s)) (CE:CN 23 N nd):CN 39 (N+1) (ckX nd):=by
 intro No b s W k t n p a c ks h hr hs hw hcc hL hp0 hp
 obtain ⟨har,ht,hwk⟩:=F.wfC_one hw
 have hlen:=ks.len_siz
 by_cases h20:k=20
 ·subst h20
  have hv:ckX nd 20 t n p ks s=blkC nd ks s:=by unfold ckX;rw[if_pos rfl]
  rw[hv]
  clear hv
  have B:=h.cy #[.int .i64 20,.string ⟨t.toArray⟩,.int .i64 n,.int .i64 p,.slice a ks.len c]
  obtain ⟨X,hX⟩:∃X,W.heap.size=X:=⟨_,rfl⟩
  obtain ⟨W1,hW1⟩:∃W1,W.alloc (.cells #[.int .i64 (20),.string ⟨(t).toArray⟩,.int .i64 (n),.int .i64 (p),.slice a ks.len c] 54)=W1:=⟨_,rfl⟩
  rw[hX,hW1] at B
  have rv1:=B.rv hr
  obtain ⟨p0,p1,p2,p3,p4⟩:=B.bx.five
  have C:=blockc_any H CE (fun g=>No g∨g=X) b s W1 20 t n p a c ks B.ck rv1 hs hw hcc hL hp0 hp
  clear h hr rv1 hw
  go_enter Tryz.func39,Tryz.ntmps39
  have HB:Hid _:=B
  clear B
  go_wp2_with fail
  refine C.mono ?_
  rintro e v2 hq
  have D2:=HB.out.step hq
  obtain ⟨rfl,-⟩:=hq
  have HE:=D2.out
  clear D2
  go_wp2
  go_end0
  exact HE
 by_cases h21:k=21
 ·subst h21
  have hv:ckX nd 21 t n p ks s=bri p (ks.take n.toNat) (ckN nd (ks.drop n.toNat) (lim p ((ks.len:Int) - n) 50 (lim p n 50 s))):=by unfold ckX;simp only[Int.reduceEq,if_false,if_true]
  rw[hv]
  clear hv
  have hn:0≤n∧n≤ks.len:=by simpa [arC] using har
  obtain ⟨m,rfl⟩:∃m:Nat,n=m:=⟨n.toNat,by omega⟩
  try rw[Int.toNat_natCast]
  have B:=h.cy #[.int .i64 21,.string ⟨t.toArray⟩,.int .i64 (m:Nat),.int .i64 p,.slice a ks.len c]
  obtain ⟨X,hX⟩:∃X,W.heap.size=X:=⟨_,rfl⟩
  obtain ⟨W1,hW1⟩:∃W1,W.alloc (.cells #[.int .i64 (21),.string ⟨(t).toArray⟩,.int .i64 ((m:Nat)),.int .i64 (p),.slice a ks.len c] 54)=W1:=⟨_,rfl⟩
  rw[hX,hW1] at B
  have rv1:=B.rv hr
  obtain ⟨p0,p1,p2,p3,p4⟩:=B.bx.five
  have C:=localc_any H CE (fun g=>No g∨g=X) b s W1 21 t m p a c ks B.ck rv1 hs hwk hcc (by omega) hL hp0 hp
  clear h hr rv1 hw har hn
  go_enter Tryz.func39,Tryz.ntmps39
  have HB:Hid _:=B
  clear B
  go_wp2_with fail
  refine C.mono ?_
  rintro e v2 hq
  have D2:=HB.out.step hq
  obtain ⟨rfl,-⟩:=hq
  have HE:=D2.out
  clear D2
  go_wp2
  go_end0
  exact HE
 by_cases h22:k=22
 ·subst h22
  have hv:ckX nd 22 t n p ks s=ckA nd n 0 ks (lim p ((ks.len:Int) - n) 50 (lim p n 50 s)):=by unfold ckX;simp only[Int.reduceEq,if_false,if_true]
  rw[hv]
  clear hv
  have hn:0≤n∧n≤ks.len:=by simpa [arC] using har
  obtain ⟨m,rfl⟩:∃m:Nat,n=m:=⟨n.toNat,by omega⟩
  try rw[Int.toNat_natCast]
  have B:=h.cy #[.int .i64 22,.string ⟨t.toArray⟩,.int .i64 (m:Nat),.int .i64 p,.slice a ks.len c]
  obtain ⟨X,hX⟩:∃X,W.heap.size=X:=⟨_,rfl⟩
  obtain ⟨W1,hW1⟩:∃W1,W.alloc (.cells #[.int .i64 (22),.string ⟨(t).toArray⟩,.int .i64 ((m:Nat)),.int .i64 (p),.slice a ks.len c] 54)=W1:=⟨_,rfl⟩
  rw[hX,hW1] at B
  have rv1:=B.rv hr
  obtain ⟨p0,p1,p2,p3,p4⟩:=B.bx.five
  have C:=assign_any' H CE (fun g=>No g∨g=X) b s W1 22 t m p a c ks B.ck rv1 hs hwk hcc (by omega) hL hp0 hp
  clear h hr rv1 hw har hn
  go_enter Tryz.func39,Tryz.ntmps39
  have HB:Hid _:=B
  clear B
  go_wp2_with fail
  refine C.mono ?_
  rintro e v2 hq
  have D2:=HB.out.step hq
  obtain ⟨rfl,-⟩:=hq
  have HE:=D2.out
  clear D2
  go_wp2
  go_end0
  exact HE
 by_cases h25:k=25
 ·subst h25
  have hv:ckX nd 25 t n p ks s={ckN nd ks {s with lp:=s.lp+1} with lp:=(ckN nd ks {s with lp:=s.lp+1}).lp - 1}:=by unfold ckX;simp only[Int.reduceEq,if_false,if_true]
  rw[hv]
  have HV:Hid (True):=trivial
  clear hv
  have B:=h.cy #[.int .i64 25,.string ⟨t.toArray⟩,.int .i64 n,.int .i64 p,.slice a ks.len c]
  obtain ⟨X,hX⟩:∃X,W.heap.size=X:=⟨_,rfl⟩
  obtain ⟨W1,hW1⟩:∃W1,W.alloc (.cells #[.int .i64 (25),.string ⟨(t).toArray⟩,.int .i64 (n),.int .i64 (p),.slice a ks.len c] 54)=W1:=⟨_,rfl⟩
  rw[hX,hW1] at B
  have rv1:=B.rv hr
  obtain ⟨p0,p1,p2,p3,p4⟩:=B.bx.five
  obtain ⟨x1,hx1⟩:=B.ck
  have b5:W1.cell? ⟨b,5,none⟩=some (.int .i64 s.lp):=hx1.bx.c 5 _ rfl
  have f5:=hx1.bx.f 5
  have D1:=B.loops (s.lp+1)
  have wp1:IntKind.i64.wrap (s.lp+1)=s.lp+1:=by rw[IntKind.wrap_i64];omega
  have w4:({s with lp:=s.lp+1}:Cs).wt=s.wt:=rfl
  have C:=nodes_any H CE (fun g=>No g∨g=X) b {s with lp:=s.lp+1} (W1.setCell ⟨b,5,none⟩ (.int .i64 (s.lp+1))) a c ks D1.ck (D1.rv hr) (by omega) hwk (by rw[w4];omega) (by show 0≤s.lp+1;omega) (by show s.lp+1+((ks.siz:Nat):Int)≤1000000;omega)
  have g1:=(gd_ckN H ks {s with lp:=s.lp+1}).lp
  simp only at g1
  obtain ⟨q0,q1,q2,q3,q4⟩:=D1.bx.five
  obtain ⟨V1,hV1⟩:∃V1,W1.setCell ⟨b,5,none⟩ (.int .i64 (s.lp+1))=V1:=⟨_,rfl⟩
  rw[hV1] at D1 C q0 q1 q2 q3 q4
  generalize ckN nd ks {s with lp:=s.lp+1}=s2 at *
  have wp2:IntKind.i64.wrap (s2.lp - 1)=s2.lp - 1:=by rw[IntKind.wrap_i64];omega
  clear h hr rv1 hw B hx1 w4 g1
  go_enter Tryz.func39,Tryz.ntmps39
  have HD1:Hid _:=D1
  clear D1
  go_wp2_with fail
  refine C.mono ?_
  rintro e v2 hq
  have D2:=HD1.out.step hq
  obtain ⟨rfl,-⟩:=hq
  obtain ⟨x2,hx2⟩:=D2.ck
  have d5:v2.cell? ⟨b,5,none⟩=some (.int .i64 s2.lp):=hx2.bx.c 5 _ rfl
  have e5:=hx2.bx.f 5
  have HE:=(D2.loops (s2.lp - 1)).out
  have HE2:Hid (CP No b W {s2 with lp:=s2.lp - 1} (.returned (.tuple #[])) (v2.setCell ⟨b,5,none⟩ (.int .i64 (s2.lp - 1)))):=HE
  clear D2 hx2 HE
  go_wp2
  go_end0
  exact HE2.out
 by_cases h26:k=26
 ·subst h26
  have hv:ckX nd 26 t n p ks s=lopC nd p ks 1 s:=by unfold ckX;simp only[Int.reduceEq,if_false,if_true]
  rw[hv]
  clear hv
  have hn:2≤ks.len:=by simpa [arC] using har
  have B:=h.cy #[.int .i64 26,.string ⟨t.toArray⟩,.int .i64 n,.int .i64 p,.slice a ks.len c]
  obtain ⟨X,hX⟩:∃X,W.heap.size=X:=⟨_,rfl⟩
  obtain ⟨W1,hW1⟩:∃W1,W.alloc (.cells #[.int .i64 (26),.string ⟨(t).toArray⟩,.int .i64 (n),.int .i64 (p),.slice a ks.len c] 54)=W1:=⟨_,rfl⟩
  rw[hX,hW1] at B
  have rv1:=B.rv hr
  obtain ⟨p0,p1,p2,p3,p4⟩:=B.bx.five
  have C:=loopc_any H CE (fun g=>No g∨g=X) b s W1 26 t n 1 p a c ks B.ck rv1 hs hwk hcc (by omega) hL hp0 hp
  clear h hr rv1 hw har hn
  go_enter Tryz.func39,Tryz.ntmps39
  have HB:Hid _:=B
  clear B
  go_wp2_with fail
  refine C.mono ?_
  rintro e v2 hq
  have D2:=HB.out.step hq
  obtain ⟨rfl,-⟩:=hq
  have HE:=D2.out
  clear D2
  go_wp2
  go_end0
  exact HE
 by_cases h27:k=27
 ·subst h27
  have hv:ckX nd 27 t n p ks s=lopC nd p ks n.toNat (lim p ((ks.len:Int) - n - 1) 50 (lim p n 50 s)):=by unfold ckX;simp only[Int.reduceEq,if_false,if_true]
  rw[hv]
  clear hv
  have hn:0≤n∧n+1≤ks.len:=by simpa [arC] using har
  obtain ⟨m,rfl⟩:∃m:Nat,n=m:=⟨n.toNat,by omega⟩
  rw[Int.toNat_natCast]
  have B:=h.cy #[.int .i64 27,.string ⟨t.toArray⟩,.int .i64 (m:Nat),.int .i64 p,.slice a ks.len c]
  obtain ⟨X,hX⟩:∃X,W.heap.size=X:=⟨_,rfl⟩
  obtain ⟨W1,hW1⟩:∃W1,W.alloc (.cells #[.int .i64 (27),.string ⟨(t).toArray⟩,.int .i64 ((m:Nat)),.int .i64 (p),.slice a ks.len c] 54)=W1:=⟨_,rfl⟩
  rw[hX,hW1] at B
  have rv1:=B.rv hr
  obtain ⟨p0,p1,p2,p3,p4⟩:=B.bx.five
  have C1:=limit_any B.ck 27 t m p (.slice a ks.len c) (m:Int) 50
  have g1:=gd_lim p (m:Int) 50 s
  generalize lim p (m:Int) 50 s=s1 at *
  have g2:=gd_lim p ((ks.len:Int) - (m:Int) - 1) 50 s1
  have C2:Hid (∀(w:World),Ck (fun g=>No g∨g=X) b s1 w→Calls Tryz.prog 37 #[.pointer (some ⟨b,0,none⟩),(.agg #[.int .i64 (27),.string ⟨(t).toArray⟩,.int .i64 ((m:Nat)),.int .i64 (p),.slice a ks.len c]),.int .i64 ((ks.len:Int) - (m:Int) - 1),.int .i64 50] w (CP (fun g=>No g∨g=X) b w (lim p ((ks.len:Int) - (m:Int) - 1) 50 s1))):=fun w hw=>limit_any hw 27 t m p (.slice a ks.len c) ((ks.len:Int) - (m:Int) - 1) 50
  generalize lim p ((ks.len:Int) - (m:Int) - 1) 50 s1=s2 at *
  have w1:=g1.wt
  have w2:=g2.wt
  have l1:=g1.lp
  have l2:=g2.lp
  have C3:Hid (∀w,Ck (fun g=>No g∨g=X) b s2 w→Rv w (fun g=>No g∨g=X) a ks→Calls Tryz.prog 59 #[.pointer (some ⟨b,0,none⟩),(.agg #[.int .i64 (27),.string ⟨(t).toArray⟩,.int .i64 ((m:Nat)),.int .i64 (p),.slice a ks.len c]),.int .i64 (m:Nat)] w (CP (fun g=>No g∨g=X) b w (lopC nd p ks m s2))):=fun w hc hv=>loopc_any H CE (fun g=>No g∨g=X) b s2 w 27 t m m p a c ks hc hv hs hwk hcc (by omega) (by omega) (by omega) (by omega)
  have wl1:IntKind.i64.wrap ((ks.len:Int) - (m:Int))=(ks.len:Int) - (m:Int):=by rw[IntKind.wrap_i64];omega
  have wl2:IntKind.i64.wrap ((ks.len:Int) - (m:Int) - 1)=(ks.len:Int) - (m:Int) - 1:=by rw[IntKind.wrap_i64];omega
  have HR:Hid (Rv W No a ks):=hr
  clear h hr rv1 hw har hn g1 g2 w1 w2 l1 l2
  go_enter Tryz.func39,Tryz.ntmps39
  have HB:Hid _:=B
  clear B
  go_wp2_with fail
  refine C1.mono ?_
  rintro e v2 hq
  have D2:=HB.out.step hq
  obtain ⟨rfl,-⟩:=hq
  obtain ⟨q0,q1,q2,q3,q4⟩:=D2.bx.five
  have K2:=C2.out v2 D2.ck
  clear C1 C2
  have HD2:Hid _:=D2
  clear D2
  go_wp2_with fail
  refine K2.mono ?_
  rintro e v3 hq
  have D3:=HD2.out.step hq
  obtain ⟨rfl,-⟩:=hq
  obtain ⟨r0,r1,r2,r3,r4⟩:=D3.bx.five
  have K3:=C3.out v3 D3.ck (D3.rv HR.out)
  clear K2 C3
  have HD3:Hid _:=D3
  clear D3
  go_wp2_with fail
  refine K3.mono ?_
  rintro e v4 hq
  have D4:=HD3.out.step hq
  obtain ⟨rfl,-⟩:=hq
  have HE:=D4.out
  clear D4
  go_wp2
  go_end0
  exact HE
 by_cases h29:k=29
 ·subst h29
  have hv:ckX nd 29 t n p ks s=(if s.lp=0 then fau 5 p s else s):=by unfold ckX;simp only[Int.reduceEq,if_false,if_true]
  rw[hv]
  clear hv
  have B:=h.cy #[.int .i64 29,.string ⟨t.toArray⟩,.int .i64 n,.int .i64 p,.slice a ks.len c]
  obtain ⟨X,hX⟩:∃X,W.heap.size=X:=⟨_,rfl⟩
  obtain ⟨W1,hW1⟩:∃W1,W.alloc (.cells #[.int .i64 (29),.string ⟨(t).toArray⟩,.int .i64 (n),.int .i64 (p),.slice a ks.len c] 54)=W1:=⟨_,rfl⟩
  rw[hX,hW1] at B
  have rv1:=B.rv hr
  obtain ⟨p0,p1,p2,p3,p4⟩:=B.bx.five
  obtain ⟨x1,hx1⟩:=B.ck
  have b5:W1.cell? ⟨b,5,none⟩=some (.int .i64 s.lp):=hx1.bx.c 5 _ rfl
  clear h hr rv1 hw hx1
  by_cases hl:s.lp=0
  ·rw[if_pos hl]
   rw[hl] at b5
   have C:=fault_any B.ck 5 p
   clear hl hp0 hp
   go_enter Tryz.func39,Tryz.ntmps39
   have HB:Hid _:=B
   clear B
   go_wp2_with fail
   refine C.mono ?_
   rintro e v2 hq
   have D2:=HB.out.step hq
   obtain ⟨rfl,-⟩:=hq
   have HE:=D2.out
   clear D2
   go_wp2
   go_end0
   exact HE
  ·rw[if_neg hl]
   have hlb:(s.lp==0)=false:=by simpa using hl
   have HE:Hid (CP No b W s (.returned (.tuple #[])) W1):=B.out
   clear B
   go_enter Tryz.func39,Tryz.ntmps39
   go_wp2
   go_end0
   exact HE.out
 by_cases h30:k=30
 ·subst h30
  have hv:ckX nd 30 t n p ks s=ckN nd ks (lim p (ks.len:Int) 50 s):=by unfold ckX;simp only[Int.reduceEq,if_false,if_true]
  rw[hv]
  clear hv
  have B:=h.cy #[.int .i64 30,.string ⟨t.toArray⟩,.int .i64 n,.int .i64 p,.slice a ks.len c]
  obtain ⟨X,hX⟩:∃X,W.heap.size=X:=⟨_,rfl⟩
  obtain ⟨W1,hW1⟩:∃W1,W.alloc (.cells #[.int .i64 (30),.string ⟨(t).toArray⟩,.int .i64 (n),.int .i64 (p),.slice a ks.len c] 54)=W1:=⟨_,rfl⟩
  rw[hX,hW1] at B
  have rv1:=B.rv hr
  obtain ⟨p0,p1,p2,p3,p4⟩:=B.bx.five
  have C1:=limit_any B.ck 30 t n p (.slice a ks.len c) (ks.len:Int) 50
  have g1:=gd_lim p (ks.len:Int) 50 s
  generalize lim p (ks.len:Int) 50 s=s1 at *
  have w1:=g1.wt
  have l1:=g1.lp
  have C2:Hid (∀w,Ck (fun g=>No g∨g=X) b s1 w→Rv w (fun g=>No g∨g=X) a ks→Calls Tryz.prog 38 #[.pointer (some ⟨b,0,none⟩),.slice a ks.len c] w (CP (fun g=>No g∨g=X) b w (ckN nd ks s1))):=fun w hc hv=>nodes_any H CE (fun g=>No g∨g=X) b s1 w a c ks hc hv (by omega) hwk (by omega) (by omega) (by omega)
  have HR:Hid (Rv W No a ks):=hr
  clear h hr rv1 hw g1 w1 l1
  go_enter Tryz.func39,Tryz.ntmps39
  have HB:Hid _:=B
  clear B
  go_wp2_with fail
  refine C1.mono ?_
  rintro e v2 hq
  have D2:=HB.out.step hq
  obtain ⟨rfl,-⟩:=hq
  obtain ⟨q0,q1,q2,q3,q4⟩:=D2.bx.five
  have K2:=C2.out v2 D2.ck (D2.rv HR.out)
  clear C1 C2
  have HD2:Hid _:=D2
  clear D2
  go_wp2_with fail
  refine K2.mono ?_
  rintro e v3 hq
  have D3:=HD2.out.step hq
  obtain ⟨rfl,-⟩:=hq
  have HE:=D3.out
  clear D3
  go_wp2
  go_end0
  exact HE
 by_cases h31:k=31
 ·subst h31
  have hv:ckX nd 31 t n p ks s=fncB nd t n p ks n.toNat (fncH t n p s):=by unfold ckX;simp only[Int.reduceEq,if_false,if_true]
  rw[hv]
  clear hv
  have hn:0≤n∧n+1≤ks.len:=by simpa [arC] using har
  obtain ⟨m,rfl⟩:∃m:Nat,n=m:=⟨n.toNat,by omega⟩
  rw[Int.toNat_natCast]
  have B:=h.cy #[.int .i64 31,.string ⟨t.toArray⟩,.int .i64 (m:Nat),.int .i64 p,.slice a ks.len c]
  obtain ⟨X,hX⟩:∃X,W.heap.size=X:=⟨_,rfl⟩
  obtain ⟨W1,hW1⟩:∃W1,W.alloc (.cells #[.int .i64 (31),.string ⟨(t).toArray⟩,.int .i64 ((m:Nat)),.int .i64 (p),.slice a ks.len c] 54)=W1:=⟨_,rfl⟩
  rw[hX,hW1] at B
  have rv1:=B.rv hr
  obtain ⟨p0,p1,p2,p3,p4⟩:=B.bx.five
  have C:=function_any' H CE (fun g=>No g∨g=X) b s W1 31 t m p a c ks B.ck rv1 hs hwk ht hcc (by omega) hL
  clear h hr rv1 hw har hn
  go_enter Tryz.func39,Tryz.ntmps39
  have HB:Hid _:=B
  clear B
  go_wp2_with fail
  refine C.mono ?_
  rintro e v2 hq
  have D2:=HB.out.step hq
  obtain ⟨rfl,-⟩:=hq
  have HE:=D2.out
  clear D2
  go_wp2
  go_end0
  exact HE
 have hv:ckX nd k t n p ks s=ckN nd ks s:=by unfold ckX;rw[if_neg h20,if_neg h21,if_neg h22,if_neg h25,if_neg h26,if_neg h27,if_neg h29,if_neg h30,if_neg h31]
 rw[hv]
 clear hv
 have e20:(k==20)=false:=by simpa using h20
 have e21:(k==21)=false:=by simpa using h21
 have e22:(k==22)=false:=by simpa using h22
 have e25:(k==25)=false:=by simpa using h25
 have e26:(k==26)=false:=by simpa using h26
 have e27:(k==27)=false:=by simpa using h27
 have e29:(k==29)=false:=by simpa using h29
 have e30:(k==30)=false:=by simpa using h30
 have e31:(k==31)=false:=by simpa using h31
 have B:=h.cy #[.int .i64 k,.string ⟨t.toArray⟩,.int .i64 n,.int .i64 p,.slice a ks.len c]
 obtain ⟨X,hX⟩:∃X,W.heap.size=X:=⟨_,rfl⟩
 obtain ⟨W1,hW1⟩:∃W1,W.alloc (.cells #[.int .i64 (k),.string ⟨(t).toArray⟩,.int .i64 (n),.int .i64 (p),.slice a ks.len c] 54)=W1:=⟨_,rfl⟩
 rw[hX,hW1] at B
 have rv1:=B.rv hr
 obtain ⟨p0,p1,p2,p3,p4⟩:=B.bx.five
 have C:=nodes_any H CE (fun g=>No g∨g=X) b s W1 a c ks B.ck rv1 (by omega) hwk (by omega) hp0 (by omega)
 clear h hr rv1 hw har
 go_enter Tryz.func39,Tryz.ntmps39
 have HB:Hid _:=B
 clear B
 go_wp2_with fail
 refine C.mono ?_
 rintro e v2 hq
 have D2:=HB.out.step hq
 obtain ⟨rfl,-⟩:=hq
 have HE:=D2.out
 clear D2
 go_wp2
 go_end0
 exact HE
end Go.Proofs.YtkjbgggghigapaaGreat
