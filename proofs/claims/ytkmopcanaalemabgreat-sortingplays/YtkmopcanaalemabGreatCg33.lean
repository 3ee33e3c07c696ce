import Derived.Test.YtkmopcanaalemabGreatCg32
namespace Go.Proofs.YtkmopcanaalemabGreat
open Go.RowKit
def PtL (B xb n:Nat) (rv:Value) (i a b:Int) (W8:World) (s:Nat) (v:Value) (W:World):Prop:=
 W.cell? ⟨B,4,none⟩=some (.int .i64 i)∧W.cell? ⟨B,1,none⟩=some rv∧(s=0→W=W8)∧(s=1→W=W8.alloc (.cells #[.int .i64 a,.int .i64 b] 3)∧v= .slice (some ⟨W8.heap.size,0,none⟩) 2 2)∧(s=2→W=(W8.alloc (.cells #[.int .i64 a,.int .i64 b] 3)).setCell ⟨xb,n,none⟩ (.slice (some ⟨W8.heap.size,0,none⟩) 2 2))
def ApL (B:Nat) (rv:Value) (i a b:Int) (W8 W3:World) (nv:Value) (s:Nat) (v:Value) (W:World):Prop:=
 W.cell? ⟨B,4,none⟩=some (.int .i64 i)∧(s≤2→W.cell? ⟨B,1,none⟩=some rv)∧(s=0→W=W8)∧(s=1→W=W8.alloc (.cells #[.int .i64 a,.int .i64 b] 3)∧v= .slice (some ⟨W8.heap.size,0,none⟩) 2 2)∧(s=2→W=(W8.alloc (.cells #[.int .i64 a,.int .i64 b] 3)).alloc (.cells #[.slice (some ⟨W8.heap.size,0,none⟩) 2 2] 46)∧v= .slice (some ⟨W8.heap.size+1,0,none⟩) 1 1)∧(s=3→W=W3∧v=nv)∧(s=4→W=W3.setCell ⟨B,1,none⟩ nv)
def rpart (r:RD) (lo up:Int):RD:=
    let x:=gtV r (up - 1)
    let r1:=gtD r (up - 1)
    let y:=gtV r1 r.1.i
    let r2:=gtD r1 r.1.i
    let r3:=rput r2 (up - 1) y r.1.i x
    if r.1.i - lo<up - r.1.i then rfst ((lo,r.1.i - 1)::(r.1.i+1,up)::r.1.rows.tail) r3
    else rfst ((r.1.i+1,up)::(lo,r.1.i - 1)::r.1.rows.tail) r3
set_option maxRecDepth 20000 in
set_option maxHeartbeats 4000000 in
theorem rson7d {No:Nat→Prop} {w:World} {B RT G c:Nat} {rv:Value} {gs:List Nat} {r:RD} (h:Ro No w B RT G c rv gs r) (hc:c≤400000) (hln:r.1.ln=7) (her:r.1.er=0) {q:Int×Int} {l:List (Int×Int)} (hr:r.1.rows=q::l) (hb:Brw l) (hq:-2305843009213693952≤q.1∧q.1<q.2∧q.2≤2305843009213693952) (_:-2305843009213693952≤r.1.m∧r.1.m≤2305843009213693952) (hi:-2305843009213693952≤r.1.i∧r.1.i≤2305843009213693952) (hj:-2305843009213693952≤r.1.j∧r.1.j≤2305843009213693952) (hji:¬r.1.i≤r.1.j) (hwl:l.length≤900000):
 Calls Tryz.prog 29 #[.pointer (some ⟨B,0,none⟩),.bool false] w (RP No w B RT G (c+40) (.tuple #[]) (rpart r q.1 q.2)):=by
 obtain ⟨xb,cap,g,gs2,ef,eg,hgB,hcap,hcap2,fx,g0,q0,q1,hnew⟩:=h.last hr
 subst ef eg
 have K0:Rk No w (w) B RT G c (.slice (some ⟨xb,0,none⟩) (l.length+1) cap) (g::gs2) r:=⟨h,Keep.refl _ _⟩
 have c1:w.cell? ⟨B,1,none⟩=some (.slice (some ⟨xb,0,none⟩) (l.length+1) cap):=K0.cell (j:=1) rfl
 have c2:w.cell? ⟨B,2,none⟩=some (.int .i64 7):=by rw[←hln];exact K0.cell (j:=2) rfl
 have hsub:((l.length:Int)+1) - 1=(l.length:Int):=by omega
 have hsubw:IntKind.i64.wrap ((l.length:Int)+1 - 1)=(l.length:Int):=by rw[IntKind.wrap_i64];omega
 have hlast:l.length<l.length+1:=Nat.lt_succ_self _
 have hn0:¬(l.length:Int)<0:=by omega
 have hlt1:(l.length:Int)<(l.length:Int)+1:=by omega
 have f0:=K0.so.free
 have HK0:Hid (Rk No w (w) B RT G c (.slice (some ⟨xb,0,none⟩) (l.length+1) cap) (g::gs2) r):=K0
 have HR:Hid (r.1.rows=q::l∧Brw l):=⟨hr,hb⟩
 have HE:Hid (r.1.er=0):=her
 have c4:w.cell? ⟨B,4,none⟩=some (.int .i64 (r.1.i)):=K0.cell (j:=4) rfl
 have c5:w.cell? ⟨B,5,none⟩=some (.int .i64 (r.1.j)):=K0.cell (j:=5) rfl
 have wa:IntKind.i64.wrap (r.1.i - q.1)=r.1.i - q.1:=by rw[IntKind.wrap_i64];omega
 have wb:IntKind.i64.wrap (q.2 - r.1.i)=q.2 - r.1.i:=by rw[IntKind.wrap_i64];omega
 have wc:IntKind.i64.wrap (r.1.i+1)=r.1.i+1:=by rw[IntKind.wrap_i64];omega
 have wd:IntKind.i64.wrap (r.1.i - 1)=r.1.i - 1:=by rw[IntKind.wrap_i64];omega
 have wu:IntKind.i64.wrap (q.2 - 1)=q.2 - 1:=by rw[IntKind.wrap_i64];omega
 obtain ⟨x1,hx1⟩:∃x,gtV r (q.2 - 1)=x:=⟨_,rfl⟩
 obtain ⟨t1,ht1⟩:∃x,(gtD r (q.2 - 1)).2=x:=⟨_,rfl⟩
 obtain ⟨y,hy⟩:∃x,gtV (r.1,t1) r.1.i=x:=⟨_,rfl⟩
 obtain ⟨t2,ht2⟩:∃x,(gtD (r.1,t1) r.1.i).2=x:=⟨_,rfl⟩
 have HC1:Hid (∀m,Calls Tryz.prog 66 #[.pointer (some ⟨B,0,none⟩),.int .i64 (q.2 - 1)] (w.drewN m) fun e w'=>e= .returned (.agg #[.int .i64 x1.1,.int .i64 x1.2.1,.string x1.2.2])∧Rk No w (w') B RT G (c+1) (.slice (some ⟨xb,0,none⟩) (l.length+1) cap) (g::gs2) (r.1,t1)):=fun m=>Rk.gt (s:=r.1) (t:=r.2) (HK0.out.drewN m) (by omega) (q.2 - 1) (by omega) (by omega) hx1 ht1
 have HC2:Hid (∀(N2:Nat→Prop) W0 W,Rk N2 W0 (W) B RT G (c+1) (.slice (some ⟨xb,0,none⟩) (l.length+1) cap) (g::gs2) (r.1,t1)→Calls Tryz.prog 66 #[.pointer (some ⟨B,0,none⟩),.int .i64 r.1.i] W fun e w'=>e= .returned (.agg #[.int .i64 y.1,.int .i64 y.2.1,.string y.2.2])∧Rk N2 W0 (w') B RT G (c+2) (.slice (some ⟨xb,0,none⟩) (l.length+1) cap) (g::gs2) (r.1,t2)):=fun N2 W0 W k=>Rk.gt k (by omega) r.1.i (by omega) (by omega) hy ht2
 obtain ⟨r3,hr3⟩:∃x,rput (r.1,t2) (q.2 - 1) y r.1.i x1=x:=⟨_,rfl⟩
 have HPut:Hid (∀(N2:Nat→Prop) W0 W,Rk N2 W0 (W) B RT G (c+2) (.slice (some ⟨xb,0,none⟩) (l.length+1) cap) (g::gs2) (r.1,t2)→Calls Tryz.prog 65 #[.pointer (some ⟨B,0,none⟩),.int .i64 (q.2 - 1),.agg #[.int .i64 y.1,.int .i64 y.2.1,.string y.2.2],.int .i64 r.1.i,.agg #[.int .i64 x1.1,.int .i64 x1.2.1,.string x1.2.2]] W fun e w'=>e= .returned (.tuple #[])∧Rk N2 W0 (w') B RT G (c+16) (.slice (some ⟨xb,0,none⟩) (l.length+1) cap) (g::gs2) r3):=fun N2 W0 W k=>by
  have:=rsput_any k.so (by omega) (q.2 - 1) r.1.i y x1 (by omega) (by omega) (by omega) (by omega)
  rw[hr3] at this
  exact this.mono fun e w' ⟨q1,q2,q3⟩=>⟨q1,q2,k.kp.trans q3⟩
 have H5:Hid (r3.1.rows=q::l∧r3.1.m=r.1.m∧r3.1.i=r.1.i∧r3.1.j=r.1.j):=by
  subst hr3
  have e:=rput_keeps (r.1,t2) (q.2 - 1) y r.1.i x1
  exact ⟨e.1.trans hr,e.2.1,e.2.2.1,e.2.2.2⟩
 have HP:Hid (rpart r q.1 q.2=if r.1.i - q.1<q.2 - r.1.i then rfst ((q.1,r.1.i - 1)::(r.1.i+1,q.2)::l) r3 else rfst ((r.1.i+1,q.2)::(q.1,r.1.i - 1)::l) r3):=by
  show _=_
  subst hr3 hy ht2 hx1 ht1
  unfold rpart
  rw[hr]
  rfl
 by_cases hbr:r.1.i - q.1<q.2 - r.1.i
 ·have HB2:Hid (Brw ((q.1,r.1.i - 1)::(r.1.i+1,q.2)::l)):=fun z hz hlt=>by
   rcases List.mem_cons.1 hz with e | hz
   ·subst e;show -4611686018427387904≤_∧_≤4611686018427387904;dsimp only at *;omega
   rcases List.mem_cons.1 hz with e | hz
   ·subst e;show -4611686018427387904≤_∧_≤4611686018427387904;dsimp only at *;omega
   exact HR.out.2 z hz hlt
  clear hr3 hy ht2 hx1 ht1 hnew hr hb h K0 hln her
  unfold RP
  go_enter Tryz.func29,Tryz.ntmps29
  go_wp2_with fail
  go_quiet (fail)
  go_wp2_with fail
  go_quiet (fail)
  go_wp2_with fail
  go_quiet (fail)
  go_wp2_with fail
  refine (HC1.out _).mono ?_;rintro e w3 ⟨rfl,k3⟩
  have B6:=b1 w3 (vb x1.1 x1.2.1 x1.2.2)
  have XW4:=Bx.made w3 x1
  have sW4:=k3.so.news B6
  obtain ⟨W4,hW4⟩:∃W6,w3.alloc (vb x1.1 x1.2.1 x1.2.2)=W6:=⟨_,rfl⟩
  rw[hW4] at B6 XW4 sW4
  unfold vb at hW4
  obtain ⟨N2,hN2⟩:∃N2,(fun g=>No g∨(w3.heap.size≤g∧g<W4.heap.size))=N2:=⟨_,rfl⟩
  rw[hN2] at sW4
  have HN2:Hid (∀g,No g→N2 g):=by subst hN2;exact fun g q=>.inl q
  have HKK:Hid (Keep No w W4):=k3.kp.trans (Keep.of B6)
  have hNx:N2 w3.heap.size:=by subst hN2;exact .inr ⟨Nat.le_refl _,XW4.lt⟩
  have K4:Rk N2 W4 (W4) B RT G (c+1) (.slice (some ⟨xb,0,none⟩) (l.length+1) cap) (g::gs2) (r.1,t1):=⟨sW4,Keep.refl _ _⟩
  have d4:W4.cell? ⟨B,4,none⟩=some (.int .i64 (r.1.i)):=K4.cell (j:=4) rfl
  have C2:=HC2.out N2 W4 W4 K4
  clear HC1 HC2 hN2 sW4 B6 k3 K4
  go_wp2_with fail
  refine C2.mono ?_;rintro e w5 ⟨rfl,k5⟩
  clear C2
  have E6:=b1 w5 (vb y.1 y.2.1 y.2.2)
  have XW6:=Bx.made w5 y
  have sW6:=k5.so.news E6
  obtain ⟨W6,hW6⟩:∃W6,w5.alloc (vb y.1 y.2.1 y.2.2)=W6:=⟨_,rfl⟩
  rw[hW6] at E6 XW6 sW6
  unfold vb at hW6
  obtain ⟨N3,hN3⟩:∃N9,(fun g=>N2 g∨(w5.heap.size≤g∧g<W6.heap.size))=N9:=⟨_,rfl⟩
  rw[hN3] at sW6
  have X4:=(XW4.kept k5.kp hNx).below E6
  have HN:Hid (∀g,No g→N3 g):=by subst hN3;exact fun g q=>.inl (HN2.out g q)
  have HK2:Hid (Keep No w W6):=HKK.out.trans ((k5.kp.trans (Keep.of E6)).sub HN2.out)
  have K6:Rk N3 W6 (W6) B RT G (c+2) (.slice (some ⟨xb,0,none⟩) (l.length+1) cap) (g::gs2) (r.1,t2):=⟨sW6,Keep.refl _ _⟩
  have xc0:=X4.c0
  have xc1:=X4.c1
  have xc2:=X4.c2
  have yc0:=XW6.c0
  have yc1:=XW6.c1
  have yc2:=XW6.c2
  have m4:W6.cell? ⟨B,4,none⟩=some (.int .i64 (r.1.i)):=K6.cell (j:=4) rfl
  have C3:=HPut.out N3 W6 W6.drew K6.drew
  clear HPut hN3 sW6 E6 XW4 XW6 X4 hNx k5 K6 HKK HN2
  go_wp2_with fail
  refine wp_tail 9 (by kernel_rfl) (by kernel_rfl) ?_
  simp only[List.take_succ_cons,List.take_zero,List.drop_succ_cons,List.drop_zero]
  repeat still_step
  refine wpStill_nil ?_
  go_wp2_with fail
  refine C3.mono ?_;rintro e w7 ⟨rfl,k7⟩
  have n4:w7.cell? ⟨B,4,none⟩=some (.int .i64 r.1.i):=by rw[←H5.out.2.2.1];exact k7.cell (j:=4) rfl
  clear C3
  go_wp2_with fail
  go_quiet (fail)
  go_wp2_with fail
  have K8:=(k7.drewN nq).drew
  obtain ⟨W8,hW8⟩:∃W,(w7.drewN nq).drew=W:=⟨_,rfl⟩
  rw[hW8] at K8
  have K10:=K8.repl H5.out.1 (r.1.i+1) (q.2)
  have K9:=K8.below (b1 W8 (.cells #[.int .i64 (r.1.i+1),.int .i64 (q.2)] 3))
  obtain ⟨x9,p9,g9,t9,e9,e8,zB,_,_,zf,zc,_⟩:=K9.so.last H5.out.1
  obtain ⟨rfl,rfl⟩:xb=x9∧cap=p9:=by simpa using e9
  have h84:W8.cell? ⟨B,4,none⟩=some (.int .i64 r.1.i):=(K8.cell (v:=.int .i64 r3.1.i) (j:=4) rfl).trans (by rw[H5.out.2.2.1])
  have h94:(W8.alloc (.cells #[.int .i64 (r.1.i+1),.int .i64 (q.2)] 3)).cell? ⟨B,4,none⟩=some (.int .i64 r.1.i):=(K9.cell (v:=.int .i64 r3.1.i) (j:=4) rfl).trans (by rw[H5.out.2.2.1])
  have h04:((W8.alloc (.cells #[.int .i64 (r.1.i+1),.int .i64 (q.2)] 3)).setCell ⟨xb,l.length,none⟩ (.slice (some ⟨W8.heap.size,0,none⟩) 2 2)).cell? ⟨B,4,none⟩=some (.int .i64 r.1.i):=(K10.cell (v:=.int .i64 r3.1.i) (j:=4) rfl).trans (by rw[H5.out.2.2.1])
  have HL0:Hid (∀v,PtL B xb l.length (.slice (some ⟨xb,0,none⟩) (l.length+1) cap) r.1.i (r.1.i+1) (q.2) W8 0 v W8):=fun v=>⟨h84,K8.cell (j:=1) rfl,fun _=>rfl,fun e=>absurd e (by decide),fun e=>absurd e (by decide)⟩
  have HL1:Hid (PtL B xb l.length (.slice (some ⟨xb,0,none⟩) (l.length+1) cap) r.1.i (r.1.i+1) (q.2) W8 1 (.slice (some ⟨W8.heap.size,0,none⟩) 2 2) (W8.alloc (.cells #[.int .i64 (r.1.i+1),.int .i64 (q.2)] 3))):=⟨h94,K9.cell (j:=1) rfl,fun e=>absurd e (by decide),fun _=>⟨rfl,rfl⟩,fun e=>absurd e (by decide)⟩
  have HL2:Hid (∀v,PtL B xb l.length (.slice (some ⟨xb,0,none⟩) (l.length+1) cap) r.1.i (r.1.i+1) (q.2) W8 2 v ((W8.alloc (.cells #[.int .i64 (r.1.i+1),.int .i64 (q.2)] 3)).setCell ⟨xb,l.length,none⟩ (.slice (some ⟨W8.heap.size,0,none⟩) 2 2))):=fun v=>⟨h04,K10.cell (j:=1) rfl,fun e=>absurd e (by decide),fun e=>absurd e (by decide),fun _=>rfl⟩
  have HK10:Hid (Rk N3 W6 ((W8.alloc (.cells #[.int .i64 (r.1.i+1),.int .i64 (q.2)] 3)).setCell ⟨xb,l.length,none⟩ (.slice (some ⟨W8.heap.size,0,none⟩) 2 2)) B RT G (c+16) (.slice (some ⟨xb,0,none⟩) (l.length+1) cap) (W8.heap.size::gs2) ({r3.1 with rows:=(r.1.i+1,q.2)::l},r3.2)):=K10
  clear K8 K9 K10 k7 h84 h94 h04 e9 e8
  (try clear n4)
  refine wp_region_any (by kernel_rfl) ?_
  change wpAny _ _ _ _ _ _ _ ((w7.drewN nq).drew)
  rw[hW8]
  refine wpAny_sv 14 [313,314,315,316,317,318,319,320,321,322,323,324,325] [(0,313),(1,314),(2,315),(3,316),(4,317),(5,318),(6,319),(7,320),(8,321),(9,322),(10,323),(12,325)] (fun i=>if i=2 then (.pointer (some ⟨B,1,none⟩)) else if i=3 then (.slice (some ⟨xb,0,none⟩) (l.length+1) cap) else if i=4 then (.int .i64 (l.length:Int)) else if i=7 then (.pointer (some ⟨B,4,none⟩)) else if i=8 then (.int .i64 r.1.i) else if i=9 then (.int .i64 (r.1.i+1)) else if i=10 then (.int .i64 q.2) else if i=12 then (.pointer (some ⟨xb,l.length,none⟩)) else (.pointer (some ⟨B,0,none⟩))) [(11,some 324),(13,none)] [] (PtL B xb l.length (.slice (some ⟨xb,0,none⟩) (l.length+1) cap) r.1.i (r.1.i+1) (q.2) W8) rfl (HL0.out _) ?hs47 ?hd47
  case hs47=>
   intro l9 a w' h i hi
   have hin:i<14:=ready_lt hi
   have hii:i=0∨i=1∨i=2∨i=3∨i=4∨i=5∨i=6∨i=7∨i=8∨i=9∨i=10∨i=11∨i=12∨i=13:=by omega
   clear hin
   rcases hii with rfl | rfl | rfl | rfl | rfl | rfl | rfl | rfl | rfl | rfl | rfl | rfl | rfl | rfl
   ·obtain ⟨hb,hr⟩:=ready_get hi rfl
    have f0:a.tmps[0]?.getD undef=(.pointer (some ⟨B,0,none⟩)):=tmp_at ((h.fx 0 (by decide)).trans rfl)
    refine wpOp_val rfl rfl rfl (v:=(.pointer (some ⟨B,0,none⟩))) (w':=w') ?_ (h.pure 0 313 _ rfl (by decide) (by decide) (by decide) (by decide) (show 313<373 by decide))
    simp[go_sem,f0]
   ·obtain ⟨hb,hr⟩:=ready_get hi rfl
    have f313:a.tmps[313]?.getD undef=(.pointer (some ⟨B,0,none⟩)):=tmp_at (h.pu (0,313) (by simp) (hr {on:=0,ground:=.data} (by simp) rfl))
    refine wpOp_val rfl rfl rfl (v:=(.pointer (some ⟨B,0,none⟩))) (w':=w') ?_ (h.pure 1 314 _ rfl (by decide) (by decide) (by decide) (by decide) (show 314<373 by decide))
    simp[go_sem,f313]
   ·obtain ⟨hb,hr⟩:=ready_get hi rfl
    have f314:a.tmps[314]?.getD undef=(.pointer (some ⟨B,0,none⟩)):=tmp_at (h.pu (1,314) (by simp) (hr {on:=1,ground:=.data} (by simp) rfl))
    refine wpOp_val rfl rfl rfl (v:=(.pointer (some ⟨B,1,none⟩))) (w':=w') ?_ (h.pure 2 315 _ rfl (by decide) (by decide) (by decide) (by decide) (show 315<373 by decide))
    simp[go_sem,f314]
   ·obtain ⟨hb,hr⟩:=ready_get hi rfl
    have f315:a.tmps[315]?.getD undef=(.pointer (some ⟨B,1,none⟩)):=tmp_at (h.pu (2,315) (by simp) (hr {on:=2,ground:=.data} (by simp) rfl))
    obtain ⟨v9,s9,hs9,hL,h41,h42,h43⟩:=h.ex
    have z0:=hL.2.1
    refine wpOp_val rfl rfl rfl (v:=(.slice (some ⟨xb,0,none⟩) (l.length+1) cap)) (w':=w') ?_ (h.pure 3 316 _ rfl (by decide) (by decide) (by decide) (by decide) (show 316<373 by decide))
    simp[go_sem,f315,z0]
   ·obtain ⟨hb,hr⟩:=ready_get hi rfl
    have f5:a.tmps[5]?.getD undef=(.int .i64 (l.length:Int)):=tmp_at ((h.fx 5 (by decide)).trans rfl)
    refine wpOp_val rfl rfl rfl (v:=(.int .i64 (l.length:Int))) (w':=w') ?_ (h.pure 4 317 _ rfl (by decide) (by decide) (by decide) (by decide) (show 317<373 by decide))
    simp[go_sem,f5]
   ·obtain ⟨hb,hr⟩:=ready_get hi rfl
    have f0:a.tmps[0]?.getD undef=(.pointer (some ⟨B,0,none⟩)):=tmp_at ((h.fx 0 (by decide)).trans rfl)
    refine wpOp_val rfl rfl rfl (v:=(.pointer (some ⟨B,0,none⟩))) (w':=w') ?_ (h.pure 5 318 _ rfl (by decide) (by decide) (by decide) (by decide) (show 318<373 by decide))
    simp[go_sem,f0]
   ·obtain ⟨hb,hr⟩:=ready_get hi rfl
    have f318:a.tmps[318]?.getD undef=(.pointer (some ⟨B,0,none⟩)):=tmp_at (h.pu (5,318) (by simp) (hr {on:=5,ground:=.data} (by simp) rfl))
    refine wpOp_val rfl rfl rfl (v:=(.pointer (some ⟨B,0,none⟩))) (w':=w') ?_ (h.pure 6 319 _ rfl (by decide) (by decide) (by decide) (by decide) (show 319<373 by decide))
    simp[go_sem,f318]
   ·obtain ⟨hb,hr⟩:=ready_get hi rfl
    have f319:a.tmps[319]?.getD undef=(.pointer (some ⟨B,0,none⟩)):=tmp_at (h.pu (6,319) (by simp) (hr {on:=6,ground:=.data} (by simp) rfl))
    refine wpOp_val rfl rfl rfl (v:=(.pointer (some ⟨B,4,none⟩))) (w':=w') ?_ (h.pure 7 320 _ rfl (by decide) (by decide) (by decide) (by decide) (show 320<373 by decide))
    simp[go_sem,f319]
   ·obtain ⟨hb,hr⟩:=ready_get hi rfl
    have f320:a.tmps[320]?.getD undef=(.pointer (some ⟨B,4,none⟩)):=tmp_at (h.pu (7,320) (by simp) (hr {on:=7,ground:=.data} (by simp) rfl))
    obtain ⟨v9,s9,hs9,hL,h41,h42,h43⟩:=h.ex
    have z0:=hL.1
    refine wpOp_val rfl rfl rfl (v:=(.int .i64 r.1.i)) (w':=w') ?_ (h.pure 8 321 _ rfl (by decide) (by decide) (by decide) (by decide) (show 321<373 by decide))
    simp[go_sem,f320,z0]
   ·obtain ⟨hb,hr⟩:=ready_get hi rfl
    have f321:a.tmps[321]?.getD undef=(.int .i64 r.1.i):=tmp_at (h.pu (8,321) (by simp) (hr {on:=8,ground:=.data} (by simp) rfl))
    refine wpOp_val rfl rfl rfl (v:=(.int .i64 (r.1.i+1))) (w':=w') ?_ (h.pure 9 322 _ rfl (by decide) (by decide) (by decide) (by decide) (show 322<373 by decide))
    simp[go_sem,f321,wc]
   ·obtain ⟨hb,hr⟩:=ready_get hi rfl
    have f7:a.tmps[7]?.getD undef=(.int .i64 q.2):=tmp_at ((h.fx 7 (by decide)).trans rfl)
    refine wpOp_val rfl rfl rfl (v:=(.int .i64 q.2)) (w':=w') ?_ (h.pure 10 323 _ rfl (by decide) (by decide) (by decide) (by decide) (show 323<373 by decide))
    simp[go_sem,f7]
   ·obtain ⟨hb,hr⟩:=ready_get hi rfl
    have hp:∀i' c',0=i'+1→([(11,some 324),(13,none)]:List (Nat×Option Nat))[i']?=some c'→l9.getD c'.1 false=true:=fun i' c' e hc=>by
     exact absurd e (by omega)
    obtain ⟨v9,hL,hv⟩:=h.at 0 (11,some 324) rfl hb hp
    have f322:a.tmps[322]?.getD undef=(.int .i64 (r.1.i+1)):=tmp_at (h.pu (9,322) (by simp) (hr {on:=9,ground:=.data} (by simp) rfl))
    have f323:a.tmps[323]?.getD undef=(.int .i64 q.2):=tmp_at (h.pu (10,323) (by simp) (hr {on:=10,ground:=.data} (by simp) rfl))
    refine wpOp_val rfl rfl rfl (v:=(.slice (some ⟨W8.heap.size,0,none⟩) 2 2)) (w':=(W8.alloc (.cells #[.int .i64 (r.1.i+1),.int .i64 (q.2)] 3))) ?_ (h.eff 0 11 (some 324) _ rfl hb hp HL1.out (fun d e=>by injection e with e;subst e;exact ⟨by decide,(show 324<373 by decide),by decide⟩) (by decide) (effs_other _ 0 11 (by decide)) (by decide) (fun x hx e=>by simp at hx) (by decide))
    rw[hL.2.2.1 rfl]
    simp[go_sem,f322,f323]
   ·obtain ⟨hb,hr⟩:=ready_get hi rfl
    have f316:a.tmps[316]?.getD undef=(.slice (some ⟨xb,0,none⟩) (l.length+1) cap):=tmp_at (h.pu (3,316) (by simp) (hr {on:=3,ground:=.data} (by simp) rfl))
    have f317:a.tmps[317]?.getD undef=(.int .i64 (l.length:Int)):=tmp_at (h.pu (4,317) (by simp) (hr {on:=4,ground:=.data} (by simp) rfl))
    refine wpOp_val rfl rfl rfl (v:=(.pointer (some ⟨xb,l.length,none⟩))) (w':=w') ?_ (h.pure 12 325 _ rfl (by decide) (by decide) (by decide) (by decide) (show 325<373 by decide))
    simp[go_sem,f316,f317,hn0,hlt1]
   ·obtain ⟨hb,hr⟩:=ready_get hi rfl
    have hp:∀i' c',1=i'+1→([(11,some 324),(13,none)]:List (Nat×Option Nat))[i']?=some c'→l9.getD c'.1 false=true:=fun i' c' e hc=>by
     obtain rfl:i'=0:=by omega
     obtain rfl:c'=(11,some 324):=by injection hc with hc;exact hc.symm
     exact hr {on:=11,ground:=.data} (by simp) rfl
    obtain ⟨v9,hL,hv⟩:=h.at 1 (13,none) rfl hb hp
    have f325:a.tmps[325]?.getD undef=(.pointer (some ⟨xb,l.length,none⟩)):=tmp_at (h.pu (12,325) (by simp) (hr {on:=12,ground:=.data} (by simp) rfl))
    have f324:a.tmps[324]?.getD undef=v9:=tmp_at (hv 0 11 324 rfl rfl)
    obtain ⟨e0,e1⟩:=hL.2.2.2.1 rfl
    refine wpOp_skip rfl rfl rfl (w':=((W8.alloc (.cells #[.int .i64 (r.1.i+1),.int .i64 (q.2)] 3)).setCell ⟨xb,l.length,none⟩ (.slice (some ⟨W8.heap.size,0,none⟩) 2 2))) ?_ (h.eff 1 13 none undef rfl hb hp (HL2.out _) (fun d e=>by cases e) (by decide) (effs_other _ 1 13 (by decide)) (by decide) (fun x hx e=>by simp at hx) (by decide))
    rw[e0]
    simp[go_sem,f325,f324,e1,zf,zc]
  intro l9 a w' h hr
  have hz:=h.sz
  have d0:=ready_nil2 (i:=0) hr hz rfl (fun e he hbb=>by simp at he<;>(repeat' (first | (rcases he with rfl | he) | (subst he)))<;>first | assumption | exact absurd hbb (by decide))
  have d1:=ready_nil2 (i:=1) hr hz rfl (fun e he hbb=>by simp at he<;>(repeat' (first | (rcases he with rfl | he) | (subst he)))<;>first | assumption | exact absurd hbb (by decide))
  have d2:=ready_nil2 (i:=2) hr hz rfl (fun e he hbb=>by simp at he<;>(repeat' (first | (rcases he with rfl | he) | (subst he)))<;>first | assumption | exact absurd hbb (by decide))
  have d3:=ready_nil2 (i:=3) hr hz rfl (fun e he hbb=>by simp at he<;>(repeat' (first | (rcases he with rfl | he) | (subst he)))<;>first | assumption | exact absurd hbb (by decide))
  have d4:=ready_nil2 (i:=4) hr hz rfl (fun e he hbb=>by simp at he<;>(repeat' (first | (rcases he with rfl | he) | (subst he)))<;>first | assumption | exact absurd hbb (by decide))
  have d5:=ready_nil2 (i:=5) hr hz rfl (fun e he hbb=>by simp at he<;>(repeat' (first | (rcases he with rfl | he) | (subst he)))<;>first | assumption | exact absurd hbb (by decide))
  have d6:=ready_nil2 (i:=6) hr hz rfl (fun e he hbb=>by simp at he<;>(repeat' (first | (rcases he with rfl | he) | (subst he)))<;>first | assumption | exact absurd hbb (by decide))
  have d7:=ready_nil2 (i:=7) hr hz rfl (fun e he hbb=>by simp at he<;>(repeat' (first | (rcases he with rfl | he) | (subst he)))<;>first | assumption | exact absurd hbb (by decide))
  have d8:=ready_nil2 (i:=8) hr hz rfl (fun e he hbb=>by simp at he<;>(repeat' (first | (rcases he with rfl | he) | (subst he)))<;>first | assumption | exact absurd hbb (by decide))
  have d9:=ready_nil2 (i:=9) hr hz rfl (fun e he hbb=>by simp at he<;>(repeat' (first | (rcases he with rfl | he) | (subst he)))<;>first | assumption | exact absurd hbb (by decide))
  have d10:=ready_nil2 (i:=10) hr hz rfl (fun e he hbb=>by simp at he<;>(repeat' (first | (rcases he with rfl | he) | (subst he)))<;>first | assumption | exact absurd hbb (by decide))
  have d11:=ready_nil2 (i:=11) hr hz rfl (fun e he hbb=>by simp at he<;>(repeat' (first | (rcases he with rfl | he) | (subst he)))<;>first | assumption | exact absurd hbb (by decide))
  have d12:=ready_nil2 (i:=12) hr hz rfl (fun e he hbb=>by simp at he<;>(repeat' (first | (rcases he with rfl | he) | (subst he)))<;>first | assumption | exact absurd hbb (by decide))
  have d13:=ready_nil2 (i:=13) hr hz rfl (fun e he hbb=>by simp at he<;>(repeat' (first | (rcases he with rfl | he) | (subst he)))<;>first | assumption | exact absurd hbb (by decide))
  obtain ⟨v9,s9,hs9,hL,h41,h42,h43⟩:=h.ex
  have hlt9:=(h41 1 (13,none) rfl).1 d13
  have hle9:s9≤2:=hs9
  obtain rfl:s9=2:=by omega
  have ha:=act_puts a _ _ h.df h.tz h.fx
  obtain ⟨fa,hfa⟩:∃f,(fun d=>a.tmps.getD d undef)=f:=⟨_,rfl⟩
  rw[hfa] at ha
  have ew:=hL.2.2.2.2 rfl
  clear hfa h hr hz d0 d1 d2 d3 d4 d5 d6 d7 d8 d9 d10 d11 d12 d13 h41 h42 h43 hlt9 hle9 hs9
  clear hL
  subst ew ha
  clear HL0 HL1 HL2 zf zc
  simp only[putAll]
  go_wp2_with fail
  have K12:=HK10.out.drew
  obtain ⟨W12,hW12⟩:∃W,(((W8.alloc (.cells #[.int .i64 (r.1.i+1),.int .i64 (q.2)] 3)).setCell ⟨xb,l.length,none⟩ (.slice (some ⟨W8.heap.size,0,none⟩) 2 2))).drew=W:=⟨_,rfl⟩
  rw[hW12] at K12
  have J1:=K12.below (b1 W12 (.cells #[.int .i64 (q.1),.int .i64 (r.1.i - 1)] 3))
  have J2:=K12.below (b2 W12 (.cells #[.int .i64 (q.1),.int .i64 (r.1.i - 1)] 3) (.cells #[.slice (some ⟨W12.heap.size,0,none⟩) 2 2] 46))
  obtain ⟨x3,cap3,W3,hap,hbB,hpu⟩:=K12.push (by show l.length+1≤_;omega) (q.1) (r.1.i - 1) (w2:=((W12.alloc (.cells #[.int .i64 (q.1),.int .i64 (r.1.i - 1)] 3)).alloc (.cells #[.slice (some ⟨W12.heap.size,0,none⟩) 2 2] 46))) (b2 W12 _ _) (by simp) (((Keep.of (b1 (W12.alloc (.cells #[.int .i64 (q.1),.int .i64 (r.1.i - 1)] 3)) (.cells #[.slice (some ⟨W12.heap.size,0,none⟩) 2 2] 46)):Keep (fun _=>True) _ _).block W12.heap.size (by simp) trivial).trans (MapKept.heap_alloc W12 (.cells #[.int .i64 (q.1),.int .i64 (r.1.i - 1)] 3)).1) (by simp[go_sem])
  have c3B:W3.heap[B]?=some (.cells (rcl RT (.slice (some ⟨xb,0,none⟩) (l.length+1) cap) {r3.1 with rows:=(r.1.i+1,q.2)::l}) 76 (0,0)):=hbB.trans K12.so.blk
  have K14:=hpu (W3.setCell ⟨B,1,none⟩ (.slice (some ⟨x3,0,none⟩) (l.length+2) cap3)) ((Keep.refl _ W3).set (p:=⟨B,1,none⟩) (fun q=>q rfl) _) ((blk_set (j:=1) c3B _).trans rfl)
  have h34:W3.cell? ⟨B,4,none⟩=some (.int .i64 r.1.i):=(show W3.cell? ⟨B,4,none⟩=some (.int .i64 r3.1.i) by simp only[World.cell?,c3B];rfl).trans (by rw[H5.out.2.2.1])
  have h31:W3.cell? ⟨B,1,none⟩=some (.slice (some ⟨xb,0,none⟩) (l.length+1) cap):=by simp only[World.cell?,c3B];rfl
  have h3f:W3.frozen? ⟨B,1,none⟩=false:=by simp[World.frozen?,c3B]
  have h124:W12.cell? ⟨B,4,none⟩=some (.int .i64 r.1.i):=(K12.cell (v:=.int .i64 r3.1.i) (j:=4) rfl).trans (by rw[H5.out.2.2.1])
  have hA14:(W12.alloc (.cells #[.int .i64 (q.1),.int .i64 (r.1.i - 1)] 3)).cell? ⟨B,4,none⟩=some (.int .i64 r.1.i):=(J1.cell (v:=.int .i64 r3.1.i) (j:=4) rfl).trans (by rw[H5.out.2.2.1])
  have hA24:((W12.alloc (.cells #[.int .i64 (q.1),.int .i64 (r.1.i - 1)] 3)).alloc (.cells #[.slice (some ⟨W12.heap.size,0,none⟩) 2 2] 46)).cell? ⟨B,4,none⟩=some (.int .i64 r.1.i):=(J2.cell (v:=.int .i64 r3.1.i) (j:=4) rfl).trans (by rw[H5.out.2.2.1])
  have hA44:(W3.setCell ⟨B,1,none⟩ (.slice (some ⟨x3,0,none⟩) (l.length+2) cap3)).cell? ⟨B,4,none⟩=some (.int .i64 r.1.i):=(K14.cell (v:=.int .i64 r3.1.i) (j:=4) rfl).trans (by rw[H5.out.2.2.1])
  have HL0:Hid (∀v,ApL B (.slice (some ⟨xb,0,none⟩) (l.length+1) cap) r.1.i (q.1) (r.1.i - 1) W12 W3 (.slice (some ⟨x3,0,none⟩) (l.length+2) cap3) 0 v W12):=fun v=>⟨h124,fun _=>K12.cell (j:=1) rfl,fun _=>rfl,fun e=>absurd e (by decide),fun e=>absurd e (by decide),fun e=>absurd e (by decide),fun e=>absurd e (by decide)⟩
  have HL1:Hid (ApL B (.slice (some ⟨xb,0,none⟩) (l.length+1) cap) r.1.i (q.1) (r.1.i - 1) W12 W3 (.slice (some ⟨x3,0,none⟩) (l.length+2) cap3) 1 (.slice (some ⟨W12.heap.size,0,none⟩) 2 2) (W12.alloc (.cells #[.int .i64 (q.1),.int .i64 (r.1.i - 1)] 3))):=⟨hA14,fun _=>J1.cell (j:=1) rfl,fun e=>absurd e (by decide),fun _=>⟨rfl,rfl⟩,fun e=>absurd e (by decide),fun e=>absurd e (by decide),fun e=>absurd e (by decide)⟩
  have HL2:Hid (ApL B (.slice (some ⟨xb,0,none⟩) (l.length+1) cap) r.1.i (q.1) (r.1.i - 1) W12 W3 (.slice (some ⟨x3,0,none⟩) (l.length+2) cap3) 2 (.slice (some ⟨W12.heap.size+1,0,none⟩) 1 1) ((W12.alloc (.cells #[.int .i64 (q.1),.int .i64 (r.1.i - 1)] 3)).alloc (.cells #[.slice (some ⟨W12.heap.size,0,none⟩) 2 2] 46))):=⟨hA24,fun _=>J2.cell (j:=1) rfl,fun e=>absurd e (by decide),fun e=>absurd e (by decide),fun _=>⟨rfl,rfl⟩,fun e=>absurd e (by decide),fun e=>absurd e (by decide)⟩
  have HL3:Hid (ApL B (.slice (some ⟨xb,0,none⟩) (l.length+1) cap) r.1.i (q.1) (r.1.i - 1) W12 W3 (.slice (some ⟨x3,0,none⟩) (l.length+2) cap3) 3 (.slice (some ⟨x3,0,none⟩) (l.length+2) cap3) W3):=⟨h34,fun e=>absurd e (by decide),fun e=>absurd e (by decide),fun e=>absurd e (by decide),fun e=>absurd e (by decide),fun _=>⟨rfl,rfl⟩,fun e=>absurd e (by decide)⟩
  have HL4:Hid (∀v,ApL B (.slice (some ⟨xb,0,none⟩) (l.length+1) cap) r.1.i (q.1) (r.1.i - 1) W12 W3 (.slice (some ⟨x3,0,none⟩) (l.length+2) cap3) 4 v (W3.setCell ⟨B,1,none⟩ (.slice (some ⟨x3,0,none⟩) (l.length+2) cap3))):=fun v=>⟨hA44,fun e=>absurd e (by decide),fun e=>absurd e (by decide),fun e=>absurd e (by decide),fun e=>absurd e (by decide),fun e=>absurd e (by decide),fun _=>rfl⟩
  have HF:=K14.fst (by omega) HB2.out
  clear HK10 hpu hbB c3B h34 h124 hA14 hA24 hA44 J1 J2 K12 K14
  refine wp_region_any (by kernel_rfl) ?_
  change wpAny _ _ _ _ _ _ _ (World.drew _)
  rw[hW12]
  refine wpAny_sv 17 [326,327,328,329,330,331,332,333,334,335,336,337,338,339,340,341] [(0,326),(1,327),(2,328),(3,329),(4,330),(5,331),(6,332),(7,333),(8,334),(9,335),(10,336),(14,340),(15,341)] (fun i=>if i=3 then (.pointer (some ⟨B,1,none⟩)) else if i=4 then (.slice (some ⟨xb,0,none⟩) (l.length+1) cap) else if i=5 then (.int .i64 q.1) else if i=8 then (.pointer (some ⟨B,4,none⟩)) else if i=9 then (.int .i64 r.1.i) else if i=10 then (.int .i64 (r.1.i - 1)) else if i=15 then (.pointer (some ⟨B,1,none⟩)) else (.pointer (some ⟨B,0,none⟩))) [(11,some 337),(12,some 338),(13,some 339),(16,none)] [(4,2)] (ApL B (.slice (some ⟨xb,0,none⟩) (l.length+1) cap) r.1.i (q.1) (r.1.i - 1) W12 W3 (.slice (some ⟨x3,0,none⟩) (l.length+2) cap3)) rfl (HL0.out _) ?hs48 ?hd48
  case hs48=>
   intro l9 a w' h i hi
   have hin:i<17:=ready_lt hi
   have hii:i=0∨i=1∨i=2∨i=3∨i=4∨i=5∨i=6∨i=7∨i=8∨i=9∨i=10∨i=11∨i=12∨i=13∨i=14∨i=15∨i=16:=by omega
   clear hin
   rcases hii with rfl | rfl | rfl | rfl | rfl | rfl | rfl | rfl | rfl | rfl | rfl | rfl | rfl | rfl | rfl | rfl | rfl
   ·obtain ⟨hb,hr⟩:=ready_get hi rfl
    have f0:a.tmps[0]?.getD undef=(.pointer (some ⟨B,0,none⟩)):=tmp_at ((h.fx 0 (by decide)).trans rfl)
    refine wpOp_val rfl rfl rfl (v:=(.pointer (some ⟨B,0,none⟩))) (w':=w') ?_ (h.pure 0 326 _ rfl (by decide) (by decide) (by decide) (by decide) (show 326<373 by decide))
    simp[go_sem,f0]
   ·obtain ⟨hb,hr⟩:=ready_get hi rfl
    have f0:a.tmps[0]?.getD undef=(.pointer (some ⟨B,0,none⟩)):=tmp_at ((h.fx 0 (by decide)).trans rfl)
    refine wpOp_val rfl rfl rfl (v:=(.pointer (some ⟨B,0,none⟩))) (w':=w') ?_ (h.pure 1 327 _ rfl (by decide) (by decide) (by decide) (by decide) (show 327<373 by decide))
    simp[go_sem,f0]
   ·obtain ⟨hb,hr⟩:=ready_get hi rfl
    have f327:a.tmps[327]?.getD undef=(.pointer (some ⟨B,0,none⟩)):=tmp_at (h.pu (1,327) (by simp) (hr {on:=1,ground:=.data} (by simp) rfl))
    refine wpOp_val rfl rfl rfl (v:=(.pointer (some ⟨B,0,none⟩))) (w':=w') ?_ (h.pure 2 328 _ rfl (by decide) (by decide) (by decide) (by decide) (show 328<373 by decide))
    simp[go_sem,f327]
   ·obtain ⟨hb,hr⟩:=ready_get hi rfl
    have f328:a.tmps[328]?.getD undef=(.pointer (some ⟨B,0,none⟩)):=tmp_at (h.pu (2,328) (by simp) (hr {on:=2,ground:=.data} (by simp) rfl))
    refine wpOp_val rfl rfl rfl (v:=(.pointer (some ⟨B,1,none⟩))) (w':=w') ?_ (h.pure 3 329 _ rfl (by decide) (by decide) (by decide) (by decide) (show 329<373 by decide))
    simp[go_sem,f328]
   ·obtain ⟨hb,hr⟩:=ready_get hi rfl
    have f329:a.tmps[329]?.getD undef=(.pointer (some ⟨B,1,none⟩)):=tmp_at (h.pu (3,329) (by simp) (hr {on:=3,ground:=.data} (by simp) rfl))
    obtain ⟨v9,s9,hs9,hL,h41,h42,h43⟩:=h.ex
    have hle:¬2<s9:=fun e=>by have:=h43 (4,2) (by simp) e;rw[hb] at this;cases this
    have z0:=hL.2.1 (by omega)
    refine wpOp_val rfl rfl rfl (v:=(.slice (some ⟨xb,0,none⟩) (l.length+1) cap)) (w':=w') ?_ (h.pure 4 330 _ rfl (by decide) (by decide) (by decide) (by decide) (show 330<373 by decide))
    simp[go_sem,f329,z0]
   ·obtain ⟨hb,hr⟩:=ready_get hi rfl
    have f6:a.tmps[6]?.getD undef=(.int .i64 q.1):=tmp_at ((h.fx 6 (by decide)).trans rfl)
    refine wpOp_val rfl rfl rfl (v:=(.int .i64 q.1)) (w':=w') ?_ (h.pure 5 331 _ rfl (by decide) (by decide) (by decide) (by decide) (show 331<373 by decide))
    simp[go_sem,f6]
   ·obtain ⟨hb,hr⟩:=ready_get hi rfl
    have f0:a.tmps[0]?.getD undef=(.pointer (some ⟨B,0,none⟩)):=tmp_at ((h.fx 0 (by decide)).trans rfl)
    refine wpOp_val rfl rfl rfl (v:=(.pointer (some ⟨B,0,none⟩))) (w':=w') ?_ (h.pure 6 332 _ rfl (by decide) (by decide) (by decide) (by decide) (show 332<373 by decide))
    simp[go_sem,f0]
   ·obtain ⟨hb,hr⟩:=ready_get hi rfl
    have f332:a.tmps[332]?.getD undef=(.pointer (some ⟨B,0,none⟩)):=tmp_at (h.pu (6,332) (by simp) (hr {on:=6,ground:=.data} (by simp) rfl))
    refine wpOp_val rfl rfl rfl (v:=(.pointer (some ⟨B,0,none⟩))) (w':=w') ?_ (h.pure 7 333 _ rfl (by decide) (by decide) (by decide) (by decide) (show 333<373 by decide))
    simp[go_sem,f332]
   ·obtain ⟨hb,hr⟩:=ready_get hi rfl
    have f333:a.tmps[333]?.getD undef=(.pointer (some ⟨B,0,none⟩)):=tmp_at (h.pu (7,333) (by simp) (hr {on:=7,ground:=.data} (by simp) rfl))
    refine wpOp_val rfl rfl rfl (v:=(.pointer (some ⟨B,4,none⟩))) (w':=w') ?_ (h.pure 8 334 _ rfl (by decide) (by decide) (by decide) (by decide) (show 334<373 by decide))
    simp[go_sem,f333]
   ·obtain ⟨hb,hr⟩:=ready_get hi rfl
    have f334:a.tmps[334]?.getD undef=(.pointer (some ⟨B,4,none⟩)):=tmp_at (h.pu (8,334) (by simp) (hr {on:=8,ground:=.data} (by simp) rfl))
    obtain ⟨v9,s9,hs9,hL,h41,h42,h43⟩:=h.ex
    have z0:=hL.1
    refine wpOp_val rfl rfl rfl (v:=(.int .i64 r.1.i)) (w':=w') ?_ (h.pure 9 335 _ rfl (by decide) (by decide) (by decide) (by decide) (show 335<373 by decide))
    simp[go_sem,f334,z0]
   ·obtain ⟨hb,hr⟩:=ready_get hi rfl
    have f335:a.tmps[335]?.getD undef=(.int .i64 r.1.i):=tmp_at (h.pu (9,335) (by simp) (hr {on:=9,ground:=.data} (by simp) rfl))
    refine wpOp_val rfl rfl rfl (v:=(.int .i64 (r.1.i - 1))) (w':=w') ?_ (h.pure 10 336 _ rfl (by decide) (by decide) (by decide) (by decide) (show 336<373 by decide))
    simp[go_sem,f335,wd]
   ·obtain ⟨hb,hr⟩:=ready_get hi rfl
    have hp:∀i' c',0=i'+1→([(11,some 337),(12,some 338),(13,some 339),(16,none)]:List (Nat×Option Nat))[i']?=some c'→l9.getD c'.1 false=true:=fun i' c' e hc=>by
     exact absurd e (by omega)
    obtain ⟨v9,hL,hv⟩:=h.at 0 (11,some 337) rfl hb hp
    have f331:a.tmps[331]?.getD undef=(.int .i64 q.1):=tmp_at (h.pu (5,331) (by simp) (hr {on:=5,ground:=.data} (by simp) rfl))
    have f336:a.tmps[336]?.getD undef=(.int .i64 (r.1.i - 1)):=tmp_at (h.pu (10,336) (by simp) (hr {on:=10,ground:=.data} (by simp) rfl))
    refine wpOp_val rfl rfl rfl (v:=(.slice (some ⟨W12.heap.size,0,none⟩) 2 2)) (w':=(W12.alloc (.cells #[.int .i64 (q.1),.int .i64 (r.1.i - 1)] 3))) ?_ (h.eff 0 11 (some 337) _ rfl hb hp HL1.out (fun d e=>by injection e with e;subst e;exact ⟨by decide,(show 337<373 by decide),by decide⟩) (by decide) (effs_other _ 0 11 (by decide)) (by decide) (fun x hx e=>by simp at hx;subst hx;exact absurd e (by decide)) (by decide))
    rw[hL.2.2.1 rfl]
    simp[go_sem,f331,f336]
   ·obtain ⟨hb,hr⟩:=ready_get hi rfl
    have hp:∀i' c',1=i'+1→([(11,some 337),(12,some 338),(13,some 339),(16,none)]:List (Nat×Option Nat))[i']?=some c'→l9.getD c'.1 false=true:=fun i' c' e hc=>by
     obtain rfl:i'=0:=by omega
     obtain rfl:c'=(11,some 337):=by injection hc with hc;exact hc.symm
     exact hr {on:=11,ground:=.data} (by simp) rfl
    obtain ⟨v9,hL,hv⟩:=h.at 1 (12,some 338) rfl hb hp
    have f337:a.tmps[337]?.getD undef=v9:=tmp_at (hv 0 11 337 rfl rfl)
    obtain ⟨e0,e1⟩:=hL.2.2.2.1 rfl
    refine wpOp_val rfl rfl rfl (v:=(.slice (some ⟨W12.heap.size+1,0,none⟩) 1 1)) (w':=((W12.alloc (.cells #[.int .i64 (q.1),.int .i64 (r.1.i - 1)] 3)).alloc (.cells #[.slice (some ⟨W12.heap.size,0,none⟩) 2 2] 46))) ?_ (h.eff 1 12 (some 338) _ rfl hb hp HL2.out (fun d e=>by injection e with e;subst e;exact ⟨by decide,(show 338<373 by decide),by decide⟩) (by decide) (effs_other _ 1 12 (by decide)) (by decide) (fun x hx e=>by simp at hx;subst hx;exact absurd e (by decide)) (by decide))
    rw[e0]
    simp[go_sem,f337,e1]
   ·obtain ⟨hb,hr⟩:=ready_get hi rfl
    have hp:∀i' c',2=i'+1→([(11,some 337),(12,some 338),(13,some 339),(16,none)]:List (Nat×Option Nat))[i']?=some c'→l9.getD c'.1 false=true:=fun i' c' e hc=>by
     obtain rfl:i'=1:=by omega
     obtain rfl:c'=(12,some 338):=by injection hc with hc;exact hc.symm
     exact hr {on:=12,ground:=.data} (by simp) rfl
    obtain ⟨v9,hL,hv⟩:=h.at 2 (13,some 339) rfl hb hp
    have f330:a.tmps[330]?.getD undef=(.slice (some ⟨xb,0,none⟩) (l.length+1) cap):=tmp_at (h.pu (4,330) (by simp) (hr {on:=4,ground:=.data} (by simp) rfl))
    have f338:a.tmps[338]?.getD undef=v9:=tmp_at (hv 1 12 338 rfl rfl)
    obtain ⟨e0,e1⟩:=hL.2.2.2.2.1 rfl
    refine wpOp_val rfl rfl rfl (v:=((.slice (some ⟨x3,0,none⟩) (l.length+2) cap3))) (w':=W3) ?_ (h.eff 2 13 (some 339) _ rfl hb hp HL3.out (fun d e=>by injection e with e;subst e;exact ⟨by decide,(show 339<373 by decide),by decide⟩) (by decide) (effs_other _ 2 13 (by decide)) (by decide) (fun x hx e=>by simp at hx;subst hx;exact hr {on:=4,ground:=.data} (by simp) rfl) (by decide))
    rw[e0]
    have g330:a.eval (.tmp 330)= .slice (some ⟨xb,0,none⟩) (l.length+1) cap:=by simp[go_sem,f330]
    have g338:a.eval (.tmp 338)=v9:=by simp[go_sem,f338]
    simp[execOp,resolve,invoke,builtin,g330,g338,e1,hap,Result.andThen]
   ·obtain ⟨hb,hr⟩:=ready_get hi rfl
    have f326:a.tmps[326]?.getD undef=(.pointer (some ⟨B,0,none⟩)):=tmp_at (h.pu (0,326) (by simp) (hr {on:=0,ground:=.data} (by simp) rfl))
    refine wpOp_val rfl rfl rfl (v:=(.pointer (some ⟨B,0,none⟩))) (w':=w') ?_ (h.pure 14 340 _ rfl (by decide) (by decide) (by decide) (by decide) (show 340<373 by decide))
    simp[go_sem,f326]
   ·obtain ⟨hb,hr⟩:=ready_get hi rfl
    have f340:a.tmps[340]?.getD undef=(.pointer (some ⟨B,0,none⟩)):=tmp_at (h.pu (14,340) (by simp) (hr {on:=14,ground:=.data} (by simp) rfl))
    refine wpOp_val rfl rfl rfl (v:=(.pointer (some ⟨B,1,none⟩))) (w':=w') ?_ (h.pure 15 341 _ rfl (by decide) (by decide) (by decide) (by decide) (show 341<373 by decide))
    simp[go_sem,f340]
   ·obtain ⟨hb,hr⟩:=ready_get hi rfl
    have hp:∀i' c',3=i'+1→([(11,some 337),(12,some 338),(13,some 339),(16,none)]:List (Nat×Option Nat))[i']?=some c'→l9.getD c'.1 false=true:=fun i' c' e hc=>by
     obtain rfl:i'=2:=by omega
     obtain rfl:c'=(13,some 339):=by injection hc with hc;exact hc.symm
     exact hr {on:=13,ground:=.data} (by simp) rfl
    obtain ⟨v9,hL,hv⟩:=h.at 3 (16,none) rfl hb hp
    have f341:a.tmps[341]?.getD undef=(.pointer (some ⟨B,1,none⟩)):=tmp_at (h.pu (15,341) (by simp) (hr {on:=15,ground:=.data} (by simp) rfl))
    have f339:a.tmps[339]?.getD undef=v9:=tmp_at (hv 2 13 339 rfl rfl)
    obtain ⟨e0,e1⟩:=hL.2.2.2.2.2.1 rfl
    refine wpOp_skip rfl rfl rfl (w':=(W3.setCell ⟨B,1,none⟩ (.slice (some ⟨x3,0,none⟩) (l.length+2) cap3))) ?_ (h.eff 3 16 none undef rfl hb hp (HL4.out _) (fun d e=>by cases e) (by decide) (effs_other _ 3 16 (by decide)) (by decide) (fun x hx e=>by simp at hx;subst hx;exact absurd e (by decide)) (by decide))
    rw[e0]
    simp[go_sem,f341,f339,e1,h3f,h31]
  intro l9 a w' h hr
  have hz:=h.sz
  have d0:=ready_nil2 (i:=0) hr hz rfl (fun e he hbb=>by simp at he<;>(repeat' (first | (rcases he with rfl | he) | (subst he)))<;>first | assumption | exact absurd hbb (by decide))
  have d1:=ready_nil2 (i:=1) hr hz rfl (fun e he hbb=>by simp at he<;>(repeat' (first | (rcases he with rfl | he) | (subst he)))<;>first | assumption | exact absurd hbb (by decide))
  have d2:=ready_nil2 (i:=2) hr hz rfl (fun e he hbb=>by simp at he<;>(repeat' (first | (rcases he with rfl | he) | (subst he)))<;>first | assumption | exact absurd hbb (by decide))
  have d3:=ready_nil2 (i:=3) hr hz rfl (fun e he hbb=>by simp at he<;>(repeat' (first | (rcases he with rfl | he) | (subst he)))<;>first | assumption | exact absurd hbb (by decide))
  have d4:=ready_nil2 (i:=4) hr hz rfl (fun e he hbb=>by simp at he<;>(repeat' (first | (rcases he with rfl | he) | (subst he)))<;>first | assumption | exact absurd hbb (by decide))
  have d5:=ready_nil2 (i:=5) hr hz rfl (fun e he hbb=>by simp at he<;>(repeat' (first | (rcases he with rfl | he) | (subst he)))<;>first | assumption | exact absurd hbb (by decide))
  have d6:=ready_nil2 (i:=6) hr hz rfl (fun e he hbb=>by simp at he<;>(repeat' (first | (rcases he with rfl | he) | (subst he)))<;>first | assumption | exact absurd hbb (by decide))
  have d7:=ready_nil2 (i:=7) hr hz rfl (fun e he hbb=>by simp at he<;>(repeat' (first | (rcases he with rfl | he) | (subst he)))<;>first | assumption | exact absurd hbb (by decide))
  have d8:=ready_nil2 (i:=8) hr hz rfl (fun e he hbb=>by simp at he<;>(repeat' (first | (rcases he with rfl | he) | (subst he)))<;>first | assumption | exact absurd hbb (by decide))
  have d9:=ready_nil2 (i:=9) hr hz rfl (fun e he hbb=>by simp at he<;>(repeat' (first | (rcases he with rfl | he) | (subst he)))<;>first | assumption | exact absurd hbb (by decide))
  have d10:=ready_nil2 (i:=10) hr hz rfl (fun e he hbb=>by simp at he<;>(repeat' (first | (rcases he with rfl | he) | (subst he)))<;>first | assumption | exact absurd hbb (by decide))
  have d11:=ready_nil2 (i:=11) hr hz rfl (fun e he hbb=>by simp at he<;>(repeat' (first | (rcases he with rfl | he) | (subst he)))<;>first | assumption | exact absurd hbb (by decide))
  have d12:=ready_nil2 (i:=12) hr hz rfl (fun e he hbb=>by simp at he<;>(repeat' (first | (rcases he with rfl | he) | (subst he)))<;>first | assumption | exact absurd hbb (by decide))
  have d13:=ready_nil2 (i:=13) hr hz rfl (fun e he hbb=>by simp at he<;>(repeat' (first | (rcases he with rfl | he) | (subst he)))<;>first | assumption | exact absurd hbb (by decide))
  have d14:=ready_nil2 (i:=14) hr hz rfl (fun e he hbb=>by simp at he<;>(repeat' (first | (rcases he with rfl | he) | (subst he)))<;>first | assumption | exact absurd hbb (by decide))
  have d15:=ready_nil2 (i:=15) hr hz rfl (fun e he hbb=>by simp at he<;>(repeat' (first | (rcases he with rfl | he) | (subst he)))<;>first | assumption | exact absurd hbb (by decide))
  have d16:=ready_nil2 (i:=16) hr hz rfl (fun e he hbb=>by simp at he<;>(repeat' (first | (rcases he with rfl | he) | (subst he)))<;>first | assumption | exact absurd hbb (by decide))
  obtain ⟨v9,s9,hs9,hL,h41,h42,h43⟩:=h.ex
  have hlt9:=(h41 3 (16,none) rfl).1 d16
  have hle9:s9≤4:=hs9
  obtain rfl:s9=4:=by omega
  have ha:=act_puts a _ _ h.df h.tz h.fx
  obtain ⟨fa,hfa⟩:∃f,(fun d=>a.tmps.getD d undef)=f:=⟨_,rfl⟩
  rw[hfa] at ha
  have ew:=hL.2.2.2.2.2.2 rfl
  clear hfa h hr hz d0 d1 d2 d3 d4 d5 d6 d7 d8 d9 d10 d11 d12 d13 d14 d15 d16 h41 h42 h43 hlt9 hle9 hs9
  clear hL
  subst ew ha
  clear HL0 HL1 HL2 HL3 HL4 hap
  simp only[putAll]
  go_wp2_with fail
  refine HF.mono ?_;rintro e w16 ⟨rfl,rv6,gs6,k16⟩
  go_wp2
  first | go_end0 | ((try simp only[Exit.inBlock,Exit.then]);refine bodyPost_ret (results_none rfl _ _ _) rfl ?_)
  rw[HP.out,if_pos hbr,←rfst_same ((q.1,r.1.i - 1)::(r.1.i+1,q.2)::l) _ r3]
  have kf:=k16.fin HN.out HK2.out (c':=c+40) (by omega)
  exact ⟨rfl,⟨_,_,kf.1⟩,kf.2⟩
 ·have HB2:Hid (Brw ((r.1.i+1,q.2)::(q.1,r.1.i - 1)::l)):=fun z hz hlt=>by
   rcases List.mem_cons.1 hz with e | hz
   ·subst e;show -4611686018427387904≤_∧_≤4611686018427387904;dsimp only at *;omega
   rcases List.mem_cons.1 hz with e | hz
   ·subst e;show -4611686018427387904≤_∧_≤4611686018427387904;dsimp only at *;omega
   exact HR.out.2 z hz hlt
  clear hr3 hy ht2 hx1 ht1 hnew hr hb h K0 hln her
  unfold RP
  go_enter Tryz.func29,Tryz.ntmps29
  go_wp2_with fail
  go_quiet (fail)
  go_wp2_with fail
  go_quiet (fail)
  go_wp2_with fail
  go_quiet (fail)
  go_wp2_with fail
  refine (HC1.out _).mono ?_;rintro e w3 ⟨rfl,k3⟩
  have B6:=b1 w3 (vb x1.1 x1.2.1 x1.2.2)
  have XW4:=Bx.made w3 x1
  have sW4:=k3.so.news B6
  obtain ⟨W4,hW4⟩:∃W6,w3.alloc (vb x1.1 x1.2.1 x1.2.2)=W6:=⟨_,rfl⟩
  rw[hW4] at B6 XW4 sW4
  unfold vb at hW4
  obtain ⟨N2,hN2⟩:∃N2,(fun g=>No g∨(w3.heap.size≤g∧g<W4.heap.size))=N2:=⟨_,rfl⟩
  rw[hN2] at sW4
  have HN2:Hid (∀g,No g→N2 g):=by subst hN2;exact fun g q=>.inl q
  have HKK:Hid (Keep No w W4):=k3.kp.trans (Keep.of B6)
  have hNx:N2 w3.heap.size:=by subst hN2;exact .inr ⟨Nat.le_refl _,XW4.lt⟩
  have K4:Rk N2 W4 (W4) B RT G (c+1) (.slice (some ⟨xb,0,none⟩) (l.length+1) cap) (g::gs2) (r.1,t1):=⟨sW4,Keep.refl _ _⟩
  have d4:W4.cell? ⟨B,4,none⟩=some (.int .i64 (r.1.i)):=K4.cell (j:=4) rfl
  have C2:=HC2.out N2 W4 W4 K4
  clear HC1 HC2 hN2 sW4 B6 k3 K4
  go_wp2_with fail
  refine C2.mono ?_;rintro e w5 ⟨rfl,k5⟩
  clear C2
  have E6:=b1 w5 (vb y.1 y.2.1 y.2.2)
  have XW6:=Bx.made w5 y
  have sW6:=k5.so.news E6
  obtain ⟨W6,hW6⟩:∃W6,w5.alloc (vb y.1 y.2.1 y.2.2)=W6:=⟨_,rfl⟩
  rw[hW6] at E6 XW6 sW6
  unfold vb at hW6
  obtain ⟨N3,hN3⟩:∃N9,(fun g=>N2 g∨(w5.heap.size≤g∧g<W6.heap.size))=N9:=⟨_,rfl⟩
  rw[hN3] at sW6
  have X4:=(XW4.kept k5.kp hNx).below E6
  have HN:Hid (∀g,No g→N3 g):=by subst hN3;exact fun g q=>.inl (HN2.out g q)
  have HK2:Hid (Keep No w W6):=HKK.out.trans ((k5.kp.trans (Keep.of E6)).sub HN2.out)
  have K6:Rk N3 W6 (W6) B RT G (c+2) (.slice (some ⟨xb,0,none⟩) (l.length+1) cap) (g::gs2) (r.1,t2):=⟨sW6,Keep.refl _ _⟩
  have xc0:=X4.c0
  have xc1:=X4.c1
  have xc2:=X4.c2
  have yc0:=XW6.c0
  have yc1:=XW6.c1
  have yc2:=XW6.c2
  have m4:W6.cell? ⟨B,4,none⟩=some (.int .i64 (r.1.i)):=K6.cell (j:=4) rfl
  have C3:=HPut.out N3 W6 W6.drew K6.drew
  clear HPut hN3 sW6 E6 XW4 XW6 X4 hNx k5 K6 HKK HN2
  go_wp2_with fail
  refine wp_tail 9 (by kernel_rfl) (by kernel_rfl) ?_
  simp only[List.take_succ_cons,List.take_zero,List.drop_succ_cons,List.drop_zero]
  repeat still_step
  refine wpStill_nil ?_
  go_wp2_with fail
  refine C3.mono ?_;rintro e w7 ⟨rfl,k7⟩
  have n4:w7.cell? ⟨B,4,none⟩=some (.int .i64 r.1.i):=by rw[←H5.out.2.2.1];exact k7.cell (j:=4) rfl
  clear C3
  go_wp2_with fail
  go_quiet (fail)
  go_wp2_with fail
  have K8:=(k7.drewN nq).drew
  obtain ⟨W8,hW8⟩:∃W,(w7.drewN nq).drew=W:=⟨_,rfl⟩
  rw[hW8] at K8
  have K10:=K8.repl H5.out.1 (q.1) (r.1.i - 1)
  have K9:=K8.below (b1 W8 (.cells #[.int .i64 (q.1),.int .i64 (r.1.i - 1)] 3))
  obtain ⟨x9,p9,g9,t9,e9,e8,zB,_,_,zf,zc,_⟩:=K9.so.last H5.out.1
  obtain ⟨rfl,rfl⟩:xb=x9∧cap=p9:=by simpa using e9
  have h84:W8.cell? ⟨B,4,none⟩=some (.int .i64 r.1.i):=(K8.cell (v:=.int .i64 r3.1.i) (j:=4) rfl).trans (by rw[H5.out.2.2.1])
  have h94:(W8.alloc (.cells #[.int .i64 (q.1),.int .i64 (r.1.i - 1)] 3)).cell? ⟨B,4,none⟩=some (.int .i64 r.1.i):=(K9.cell (v:=.int .i64 r3.1.i) (j:=4) rfl).trans (by rw[H5.out.2.2.1])
  have h04:((W8.alloc (.cells #[.int .i64 (q.1),.int .i64 (r.1.i - 1)] 3)).setCell ⟨xb,l.length,none⟩ (.slice (some ⟨W8.heap.size,0,none⟩) 2 2)).cell? ⟨B,4,none⟩=some (.int .i64 r.1.i):=(K10.cell (v:=.int .i64 r3.1.i) (j:=4) rfl).trans (by rw[H5.out.2.2.1])
  have HL0:Hid (∀v,PtL B xb l.length (.slice (some ⟨xb,0,none⟩) (l.length+1) cap) r.1.i (q.1) (r.1.i - 1) W8 0 v W8):=fun v=>⟨h84,K8.cell (j:=1) rfl,fun _=>rfl,fun e=>absurd e (by decide),fun e=>absurd e (by decide)⟩
  have HL1:Hid (PtL B xb l.length (.slice (some ⟨xb,0,none⟩) (l.length+1) cap) r.1.i (q.1) (r.1.i - 1) W8 1 (.slice (some ⟨W8.heap.size,0,none⟩) 2 2) (W8.alloc (.cells #[.int .i64 (q.1),.int .i64 (r.1.i - 1)] 3))):=⟨h94,K9.cell (j:=1) rfl,fun e=>absurd e (by decide),fun _=>⟨rfl,rfl⟩,fun e=>absurd e (by decide)⟩
  have HL2:Hid (∀v,PtL B xb l.length (.slice (some ⟨xb,0,none⟩) (l.length+1) cap) r.1.i (q.1) (r.1.i - 1) W8 2 v ((W8.alloc (.cells #[.int .i64 (q.1),.int .i64 (r.1.i - 1)] 3)).setCell ⟨xb,l.length,none⟩ (.slice (some ⟨W8.heap.size,0,none⟩) 2 2))):=fun v=>⟨h04,K10.cell (j:=1) rfl,fun e=>absurd e (by decide),fun e=>absurd e (by decide),fun _=>rfl⟩
  have HK10:Hid (Rk N3 W6 ((W8.alloc (.cells #[.int .i64 (q.1),.int .i64 (r.1.i - 1)] 3)).setCell ⟨xb,l.length,none⟩ (.slice (some ⟨W8.heap.size,0,none⟩) 2 2)) B RT G (c+16) (.slice (some ⟨xb,0,none⟩) (l.length+1) cap) (W8.heap.size::gs2) ({r3.1 with rows:=(q.1,r.1.i - 1)::l},r3.2)):=K10
  clear K8 K9 K10 k7 h84 h94 h04 e9 e8
  (try clear n4)
  refine wp_region_any (by kernel_rfl) ?_
  change wpAny _ _ _ _ _ _ _ ((w7.drewN nq).drew)
  rw[hW8]
  refine wpAny_sv 14 [342,343,344,345,346,347,348,349,350,351,352,353,354] [(0,342),(1,343),(2,344),(3,345),(4,346),(5,347),(6,348),(7,349),(8,350),(9,351),(10,352),(12,354)] (fun i=>if i=2 then (.pointer (some ⟨B,1,none⟩)) else if i=3 then (.slice (some ⟨xb,0,none⟩) (l.length+1) cap) else if i=4 then (.int .i64 (l.length:Int)) else if i=5 then (.int .i64 q.1) else if i=8 then (.pointer (some ⟨B,4,none⟩)) else if i=9 then (.int .i64 r.1.i) else if i=10 then (.int .i64 (r.1.i - 1)) else if i=12 then (.pointer (some ⟨xb,l.length,none⟩)) else (.pointer (some ⟨B,0,none⟩))) [(11,some 353),(13,none)] [] (PtL B xb l.length (.slice (some ⟨xb,0,none⟩) (l.length+1) cap) r.1.i (q.1) (r.1.i - 1) W8) rfl (HL0.out _) ?hs49 ?hd49
  case hs49=>
   intro l9 a w' h i hi
   have hin:i<14:=ready_lt hi
   have hii:i=0∨i=1∨i=2∨i=3∨i=4∨i=5∨i=6∨i=7∨i=8∨i=9∨i=10∨i=11∨i=12∨i=13:=by omega
   clear hin
   rcases hii with rfl | rfl | rfl | rfl | rfl | rfl | rfl | rfl | rfl | rfl | rfl | rfl | rfl | rfl
   ·obtain ⟨hb,hr⟩:=ready_get hi rfl
    have f0:a.tmps[0]?.getD undef=(.pointer (some ⟨B,0,none⟩)):=tmp_at ((h.fx 0 (by decide)).trans rfl)
    refine wpOp_val rfl rfl rfl (v:=(.pointer (some ⟨B,0,none⟩))) (w':=w') ?_ (h.pure 0 342 _ rfl (by decide) (by decide) (by decide) (by decide) (show 342<373 by decide))
    simp[go_sem,f0]
   ·obtain ⟨hb,hr⟩:=ready_get hi rfl
    have f342:a.tmps[342]?.getD undef=(.pointer (some ⟨B,0,none⟩)):=tmp_at (h.pu (0,342) (by simp) (hr {on:=0,ground:=.data} (by simp) rfl))
    refine wpOp_val rfl rfl rfl (v:=(.pointer (some ⟨B,0,none⟩))) (w':=w') ?_ (h.pure 1 343 _ rfl (by decide) (by decide) (by decide) (by decide) (show 343<373 by decide))
    simp[go_sem,f342]
   ·obtain ⟨hb,hr⟩:=ready_get hi rfl
    have f343:a.tmps[343]?.getD undef=(.pointer (some ⟨B,0,none⟩)):=tmp_at (h.pu (1,343) (by simp) (hr {on:=1,ground:=.data} (by simp) rfl))
    refine wpOp_val rfl rfl rfl (v:=(.pointer (some ⟨B,1,none⟩))) (w':=w') ?_ (h.pure 2 344 _ rfl (by decide) (by decide) (by decide) (by decide) (show 344<373 by decide))
    simp[go_sem,f343]
   ·obtain ⟨hb,hr⟩:=ready_get hi rfl
    have f344:a.tmps[344]?.getD undef=(.pointer (some ⟨B,1,none⟩)):=tmp_at (h.pu (2,344) (by simp) (hr {on:=2,ground:=.data} (by simp) rfl))
    obtain ⟨v9,s9,hs9,hL,h41,h42,h43⟩:=h.ex
    have z0:=hL.2.1
    refine wpOp_val rfl rfl rfl (v:=(.slice (some ⟨xb,0,none⟩) (l.length+1) cap)) (w':=w') ?_ (h.pure 3 345 _ rfl (by decide) (by decide) (by decide) (by decide) (show 345<373 by decide))
    simp[go_sem,f344,z0]
   ·obtain ⟨hb,hr⟩:=ready_get hi rfl
    have f5:a.tmps[5]?.getD undef=(.int .i64 (l.length:Int)):=tmp_at ((h.fx 5 (by decide)).trans rfl)
    refine wpOp_val rfl rfl rfl (v:=(.int .i64 (l.length:Int))) (w':=w') ?_ (h.pure 4 346 _ rfl (by decide) (by decide) (by decide) (by decide) (show 346<373 by decide))
    simp[go_sem,f5]
   ·obtain ⟨hb,hr⟩:=ready_get hi rfl
    have f6:a.tmps[6]?.getD undef=(.int .i64 q.1):=tmp_at ((h.fx 6 (by decide)).trans rfl)
    refine wpOp_val rfl rfl rfl (v:=(.int .i64 q.1)) (w':=w') ?_ (h.pure 5 347 _ rfl (by decide) (by decide) (by decide) (by decide) (show 347<373 by decide))
    simp[go_sem,f6]
   ·obtain ⟨hb,hr⟩:=ready_get hi rfl
    have f0:a.tmps[0]?.getD undef=(.pointer (some ⟨B,0,none⟩)):=tmp_at ((h.fx 0 (by decide)).trans rfl)
    refine wpOp_val rfl rfl rfl (v:=(.pointer (some ⟨B,0,none⟩))) (w':=w') ?_ (h.pure 6 348 _ rfl (by decide) (by decide) (by decide) (by decide) (show 348<373 by decide))
    simp[go_sem,f0]
   ·obtain ⟨hb,hr⟩:=ready_get hi rfl
    have f348:a.tmps[348]?.getD undef=(.pointer (some ⟨B,0,none⟩)):=tmp_at (h.pu (6,348) (by simp) (hr {on:=6,ground:=.data} (by simp) rfl))
    refine wpOp_val rfl rfl rfl (v:=(.pointer (some ⟨B,0,none⟩))) (w':=w') ?_ (h.pure 7 349 _ rfl (by decide) (by decide) (by decide) (by decide) (show 349<373 by decide))
    simp[go_sem,f348]
   ·obtain ⟨hb,hr⟩:=ready_get hi rfl
    have f349:a.tmps[349]?.getD undef=(.pointer (some ⟨B,0,none⟩)):=tmp_at (h.pu (7,349) (by simp) (hr {on:=7,ground:=.data} (by simp) rfl))
    refine wpOp_val rfl rfl rfl (v:=(.pointer (some ⟨B,4,none⟩))) (w':=w') ?_ (h.pure 8 350 _ rfl (by decide) (by decide) (by decide) (by decide) (show 350<373 by decide))
    simp[go_sem,f349]
   ·obtain ⟨hb,hr⟩:=ready_get hi rfl
    have f350:a.tmps[350]?.getD undef=(.pointer (some ⟨B,4,none⟩)):=tmp_at (h.pu (8,350) (by simp) (hr {on:=8,ground:=.data} (by simp) rfl))
    obtain ⟨v9,s9,hs9,hL,h41,h42,h43⟩:=h.ex
    have z0:=hL.1
    refine wpOp_val rfl rfl rfl (v:=(.int .i64 r.1.i)) (w':=w') ?_ (h.pure 9 351 _ rfl (by decide) (by decide) (by decide) (by decide) (show 351<373 by decide))
    simp[go_sem,f350,z0]
   ·obtain ⟨hb,hr⟩:=ready_get hi rfl
    have f351:a.tmps[351]?.getD undef=(.int .i64 r.1.i):=tmp_at (h.pu (9,351) (by simp) (hr {on:=9,ground:=.data} (by simp) rfl))
    refine wpOp_val rfl rfl rfl (v:=(.int .i64 (r.1.i - 1))) (w':=w') ?_ (h.pure 10 352 _ rfl (by decide) (by decide) (by decide) (by decide) (show 352<373 by decide))
    simp[go_sem,f351,wd]
   ·obtain ⟨hb,hr⟩:=ready_get hi rfl
    have hp:∀i' c',0=i'+1→([(11,some 353),(13,none)]:List (Nat×Option Nat))[i']?=some c'→l9.getD c'.1 false=true:=fun i' c' e hc=>by
     exact absurd e (by omega)
    obtain ⟨v9,hL,hv⟩:=h.at 0 (11,some 353) rfl hb hp
    have f347:a.tmps[347]?.getD undef=(.int .i64 q.1):=tmp_at (h.pu (5,347) (by simp) (hr {on:=5,ground:=.data} (by simp) rfl))
    have f352:a.tmps[352]?.getD undef=(.int .i64 (r.1.i - 1)):=tmp_at (h.pu (10,352) (by simp) (hr {on:=10,ground:=.data} (by simp) rfl))
    refine wpOp_val rfl rfl rfl (v:=(.slice (some ⟨W8.heap.size,0,none⟩) 2 2)) (w':=(W8.alloc (.cells #[.int .i64 (q.1),.int .i64 (r.1.i - 1)] 3))) ?_ (h.eff 0 11 (some 353) _ rfl hb hp HL1.out (fun d e=>by injection e with e;subst e;exact ⟨by decide,(show 353<373 by decide),by decide⟩) (by decide) (effs_other _ 0 11 (by decide)) (by decide) (fun x hx e=>by simp at hx) (by decide))
    rw[hL.2.2.1 rfl]
    simp[go_sem,f347,f352]
   ·obtain ⟨hb,hr⟩:=ready_get hi rfl
    have f345:a.tmps[345]?.getD undef=(.slice (some ⟨xb,0,none⟩) (l.length+1) cap):=tmp_at (h.pu (3,345) (by simp) (hr {on:=3,ground:=.data} (by simp) rfl))
    have f346:a.tmps[346]?.getD undef=(.int .i64 (l.length:Int)):=tmp_at (h.pu (4,346) (by simp) (hr {on:=4,ground:=.data} (by simp) rfl))
    refine wpOp_val rfl rfl rfl (v:=(.pointer (some ⟨xb,l.length,none⟩))) (w':=w') ?_ (h.pure 12 354 _ rfl (by decide) (by decide) (by decide) (by decide) (show 354<373 by decide))
    simp[go_sem,f345,f346,hn0,hlt1]
   ·obtain ⟨hb,hr⟩:=ready_get hi rfl
    have hp:∀i' c',1=i'+1→([(11,some 353),(13,none)]:List (Nat×Option Nat))[i']?=some c'→l9.getD c'.1 false=true:=fun i' c' e hc=>by
     obtain rfl:i'=0:=by omega
     obtain rfl:c'=(11,some 353):=by injection hc with hc;exact hc.symm
     exact hr {on:=11,ground:=.data} (by simp) rfl
    obtain ⟨v9,hL,hv⟩:=h.at 1 (13,none) rfl hb hp
    have f354:a.tmps[354]?.getD undef=(.pointer (some ⟨xb,l.length,none⟩)):=tmp_at (h.pu (12,354) (by simp) (hr {on:=12,ground:=.data} (by simp) rfl))
    have f353:a.tmps[353]?.getD undef=v9:=tmp_at (hv 0 11 353 rfl rfl)
    obtain ⟨e0,e1⟩:=hL.2.2.2.1 rfl
    refine wpOp_skip rfl rfl rfl (w':=((W8.alloc (.cells #[.int .i64 (q.1),.int .i64 (r.1.i - 1)] 3)).setCell ⟨xb,l.length,none⟩ (.slice (some ⟨W8.heap.size,0,none⟩) 2 2))) ?_ (h.eff 1 13 none undef rfl hb hp (HL2.out _) (fun d e=>by cases e) (by decide) (effs_other _ 1 13 (by decide)) (by decide) (fun x hx e=>by simp at hx) (by decide))
    rw[e0]
    simp[go_sem,f354,f353,e1,zf,zc]
  intro l9 a w' h hr
  have hz:=h.sz
  have d0:=ready_nil2 (i:=0) hr hz rfl (fun e he hbb=>by simp at he<;>(repeat' (first | (rcases he with rfl | he) | (subst he)))<;>first | assumption | exact absurd hbb (by decide))
  have d1:=ready_nil2 (i:=1) hr hz rfl (fun e he hbb=>by simp at he<;>(repeat' (first | (rcases he with rfl | he) | (subst he)))<;>first | assumption | exact absurd hbb (by decide))
  have d2:=ready_nil2 (i:=2) hr hz rfl (fun e he hbb=>by simp at he<;>(repeat' (first | (rcases he with rfl | he) | (subst he)))<;>first | assumption | exact absurd hbb (by decide))
  have d3:=ready_nil2 (i:=3) hr hz rfl (fun e he hbb=>by simp at he<;>(repeat' (first | (rcases he with rfl | he) | (subst he)))<;>first | assumption | exact absurd hbb (by decide))
  have d4:=ready_nil2 (i:=4) hr hz rfl (fun e he hbb=>by simp at he<;>(repeat' (first | (rcases he with rfl | he) | (subst he)))<;>first | assumption | exact absurd hbb (by decide))
  have d5:=ready_nil2 (i:=5) hr hz rfl (fun e he hbb=>by simp at he<;>(repeat' (first | (rcases he with rfl | he) | (subst he)))<;>first | assumption | exact absurd hbb (by decide))
  have d6:=ready_nil2 (i:=6) hr hz rfl (fun e he hbb=>by simp at he<;>(repeat' (first | (rcases he with rfl | he) | (subst he)))<;>first | assumption | exact absurd hbb (by decide))
  have d7:=ready_nil2 (i:=7) hr hz rfl (fun e he hbb=>by simp at he<;>(repeat' (first | (rcases he with rfl | he) | (subst he)))<;>first | assumption | exact absurd hbb (by decide))
  have d8:=ready_nil2 (i:=8) hr hz rfl (fun e he hbb=>by simp at he<;>(repeat' (first | (rcases he with rfl | he) | (subst he)))<;>first | assumption | exact absurd hbb (by decide))
  have d9:=ready_nil2 (i:=9) hr hz rfl (fun e he hbb=>by simp at he<;>(repeat' (first | (rcases he with rfl | he) | (subst he)))<;>first | assumption | exact absurd hbb (by decide))
  have d10:=ready_nil2 (i:=10) hr hz rfl (fun e he hbb=>by simp at he<;>(repeat' (first | (rcases he with rfl | he) | (subst he)))<;>first | assumption | exact absurd hbb (by decide))
  have d11:=ready_nil2 (i:=11) hr hz rfl (fun e he hbb=>by simp at he<;>(repeat' (first | (rcases he with rfl | he) | (subst he)))<;>first | assumption | exact absurd hbb (by decide))
  have d12:=ready_nil2 (i:=12) hr hz rfl (fun e he hbb=>by simp at he<;>(repeat' (first | (rcases he with rfl | he) | (subst he)))<;>first | assumption | exact absurd hbb (by decide))
  have d13:=ready_nil2 (i:=13) hr hz rfl (fun e he hbb=>by simp at he<;>(repeat' (first | (rcases he with rfl | he) | (subst he)))<;>first | assumption | exact absurd hbb (by decide))
  obtain ⟨v9,s9,hs9,hL,h41,h42,h43⟩:=h.ex
  have hlt9:=(h41 1 (13,none) rfl).1 d13
  have hle9:s9≤2:=hs9
  obtain rfl:s9=2:=by omega
  have ha:=act_puts a _ _ h.df h.tz h.fx
  obtain ⟨fa,hfa⟩:∃f,(fun d=>a.tmps.getD d undef)=f:=⟨_,rfl⟩
  rw[hfa] at ha
  have ew:=hL.2.2.2.2 rfl
  clear hfa h hr hz d0 d1 d2 d3 d4 d5 d6 d7 d8 d9 d10 d11 d12 d13 h41 h42 h43 hlt9 hle9 hs9
  clear hL
  subst ew ha
  clear HL0 HL1 HL2 zf zc
  simp only[putAll]
  go_wp2_with fail
  have K12:=HK10.out.drew
  obtain ⟨W12,hW12⟩:∃W,(((W8.alloc (.cells #[.int .i64 (q.1),.int .i64 (r.1.i - 1)] 3)).setCell ⟨xb,l.length,none⟩ (.slice (some ⟨W8.heap.size,0,none⟩) 2 2))).drew=W:=⟨_,rfl⟩
  rw[hW12] at K12
  have J1:=K12.below (b1 W12 (.cells #[.int .i64 (r.1.i+1),.int .i64 (q.2)] 3))
  have J2:=K12.below (b2 W12 (.cells #[.int .i64 (r.1.i+1),.int .i64 (q.2)] 3) (.cells #[.slice (some ⟨W12.heap.size,0,none⟩) 2 2] 46))
  obtain ⟨x3,cap3,W3,hap,hbB,hpu⟩:=K12.push (by show l.length+1≤_;omega) (r.1.i+1) (q.2) (w2:=((W12.alloc (.cells #[.int .i64 (r.1.i+1),.int .i64 (q.2)] 3)).alloc (.cells #[.slice (some ⟨W12.heap.size,0,none⟩) 2 2] 46))) (b2 W12 _ _) (by simp) (((Keep.of (b1 (W12.alloc (.cells #[.int .i64 (r.1.i+1),.int .i64 (q.2)] 3)) (.cells #[.slice (some ⟨W12.heap.size,0,none⟩) 2 2] 46)):Keep (fun _=>True) _ _).block W12.heap.size (by simp) trivial).trans (MapKept.heap_alloc W12 (.cells #[.int .i64 (r.1.i+1),.int .i64 (q.2)] 3)).1) (by simp[go_sem])
  have c3B:W3.heap[B]?=some (.cells (rcl RT (.slice (some ⟨xb,0,none⟩) (l.length+1) cap) {r3.1 with rows:=(q.1,r.1.i - 1)::l}) 76 (0,0)):=hbB.trans K12.so.blk
  have K14:=hpu (W3.setCell ⟨B,1,none⟩ (.slice (some ⟨x3,0,none⟩) (l.length+2) cap3)) ((Keep.refl _ W3).set (p:=⟨B,1,none⟩) (fun q=>q rfl) _) ((blk_set (j:=1) c3B _).trans rfl)
  have h34:W3.cell? ⟨B,4,none⟩=some (.int .i64 r.1.i):=(show W3.cell? ⟨B,4,none⟩=some (.int .i64 r3.1.i) by simp only[World.cell?,c3B];rfl).trans (by rw[H5.out.2.2.1])
  have h31:W3.cell? ⟨B,1,none⟩=some (.slice (some ⟨xb,0,none⟩) (l.length+1) cap):=by simp only[World.cell?,c3B];rfl
  have h3f:W3.frozen? ⟨B,1,none⟩=false:=by simp[World.frozen?,c3B]
  have h124:W12.cell? ⟨B,4,none⟩=some (.int .i64 r.1.i):=(K12.cell (v:=.int .i64 r3.1.i) (j:=4) rfl).trans (by rw[H5.out.2.2.1])
  have hA14:(W12.alloc (.cells #[.int .i64 (r.1.i+1),.int .i64 (q.2)] 3)).cell? ⟨B,4,none⟩=some (.int .i64 r.1.i):=(J1.cell (v:=.int .i64 r3.1.i) (j:=4) rfl).trans (by rw[H5.out.2.2.1])
  have hA24:((W12.alloc (.cells #[.int .i64 (r.1.i+1),.int .i64 (q.2)] 3)).alloc (.cells #[.slice (some ⟨W12.heap.size,0,none⟩) 2 2] 46)).cell? ⟨B,4,none⟩=some (.int .i64 r.1.i):=(J2.cell (v:=.int .i64 r3.1.i) (j:=4) rfl).trans (by rw[H5.out.2.2.1])
  have hA44:(W3.setCell ⟨B,1,none⟩ (.slice (some ⟨x3,0,none⟩) (l.length+2) cap3)).cell? ⟨B,4,none⟩=some (.int .i64 r.1.i):=(K14.cell (v:=.int .i64 r3.1.i) (j:=4) rfl).trans (by rw[H5.out.2.2.1])
  have HL0:Hid (∀v,ApL B (.slice (some ⟨xb,0,none⟩) (l.length+1) cap) r.1.i (r.1.i+1) (q.2) W12 W3 (.slice (some ⟨x3,0,none⟩) (l.length+2) cap3) 0 v W12):=fun v=>⟨h124,fun _=>K12.cell (j:=1) rfl,fun _=>rfl,fun e=>absurd e (by decide),fun e=>absurd e (by decide),fun e=>absurd e (by decide),fun e=>absurd e (by decide)⟩
  have HL1:Hid (ApL B (.slice (some ⟨xb,0,none⟩) (l.length+1) cap) r.1.i (r.1.i+1) (q.2) W12 W3 (.slice (some ⟨x3,0,none⟩) (l.length+2) cap3) 1 (.slice (some ⟨W12.heap.size,0,none⟩) 2 2) (W12.alloc (.cells #[.int .i64 (r.1.i+1),.int .i64 (q.2)] 3))):=⟨hA14,fun _=>J1.cell (j:=1) rfl,fun e=>absurd e (by decide),fun _=>⟨rfl,rfl⟩,fun e=>absurd e (by decide),fun e=>absurd e (by decide),fun e=>absurd e (by decide)⟩
  have HL2:Hid (ApL B (.slice (some ⟨xb,0,none⟩) (l.length+1) cap) r.1.i (r.1.i+1) (q.2) W12 W3 (.slice (some ⟨x3,0,none⟩) (l.length+2) cap3) 2 (.slice (some ⟨W12.heap.size+1,0,none⟩) 1 1) ((W12.alloc (.cells #[.int .i64 (r.1.i+1),.int .i64 (q.2)] 3)).alloc (.cells #[.slice (some ⟨W12.heap.size,0,none⟩) 2 2] 46))):=⟨hA24,fun _=>J2.cell (j:=1) rfl,fun e=>absurd e (by decide),fun e=>absurd e (by decide),fun _=>⟨rfl,rfl⟩,fun e=>absurd e (by decide),fun e=>absurd e (by decide)⟩
  have HL3:Hid (ApL B (.slice (some ⟨xb,0,none⟩) (l.length+1) cap) r.1.i (r.1.i+1) (q.2) W12 W3 (.slice (some ⟨x3,0,none⟩) (l.length+2) cap3) 3 (.slice (some ⟨x3,0,none⟩) (l.length+2) cap3) W3):=⟨h34,fun e=>absurd e (by decide),fun e=>absurd e (by decide),fun e=>absurd e (by decide),fun e=>absurd e (by decide),fun _=>⟨rfl,rfl⟩,fun e=>absurd e (by decide)⟩
  have HL4:Hid (∀v,ApL B (.slice (some ⟨xb,0,none⟩) (l.length+1) cap) r.1.i (r.1.i+1) (q.2) W12 W3 (.slice (some ⟨x3,0,none⟩) (l.length+2) cap3) 4 v (W3.setCell ⟨B,1,none⟩ (.slice (some ⟨x3,0,none⟩) (l.length+2) cap3))):=fun v=>⟨hA44,fun e=>absurd e (by decide),fun e=>absurd e (by decide),fun e=>absurd e (by decide),fun e=>absurd e (by decide),fun e=>absurd e (by decide),fun _=>rfl⟩
  have HF:=K14.fst (by omega) HB2.out
  clear HK10 hpu hbB c3B h34 h124 hA14 hA24 hA44 J1 J2 K12 K14
  refine wp_region_any (by kernel_rfl) ?_
  change wpAny _ _ _ _ _ _ _ (World.drew _)
  rw[hW12]
  refine wpAny_sv 17 [355,356,357,358,359,360,361,362,363,364,365,366,367,368,369,370] [(0,355),(1,356),(2,357),(3,358),(4,359),(5,360),(6,361),(7,362),(8,363),(9,364),(10,365),(14,369),(15,370)] (fun i=>if i=3 then (.pointer (some ⟨B,1,none⟩)) else if i=4 then (.slice (some ⟨xb,0,none⟩) (l.length+1) cap) else if i=7 then (.pointer (some ⟨B,4,none⟩)) else if i=8 then (.int .i64 r.1.i) else if i=9 then (.int .i64 (r.1.i+1)) else if i=10 then (.int .i64 q.2) else if i=15 then (.pointer (some ⟨B,1,none⟩)) else (.pointer (some ⟨B,0,none⟩))) [(11,some 366),(12,some 367),(13,some 368),(16,none)] [(4,2)] (ApL B (.slice (some ⟨xb,0,none⟩) (l.length+1) cap) r.1.i (r.1.i+1) (q.2) W12 W3 (.slice (some ⟨x3,0,none⟩) (l.length+2) cap3)) rfl (HL0.out _) ?hs50 ?hd50
  case hs50=>
   intro l9 a w' h i hi
   have hin:i<17:=ready_lt hi
   have hii:i=0∨i=1∨i=2∨i=3∨i=4∨i=5∨i=6∨i=7∨i=8∨i=9∨i=10∨i=11∨i=12∨i=13∨i=14∨i=15∨i=16:=by omega
   clear hin
   rcases hii with rfl | rfl | rfl | rfl | rfl | rfl | rfl | rfl | rfl | rfl | rfl | rfl | rfl | rfl | rfl | rfl | rfl
   ·obtain ⟨hb,hr⟩:=ready_get hi rfl
    have f0:a.tmps[0]?.getD undef=(.pointer (some ⟨B,0,none⟩)):=tmp_at ((h.fx 0 (by decide)).trans rfl)
    refine wpOp_val rfl rfl rfl (v:=(.pointer (some ⟨B,0,none⟩))) (w':=w') ?_ (h.pure 0 355 _ rfl (by decide) (by decide) (by decide) (by decide) (show 355<373 by decide))
    simp[go_sem,f0]
   ·obtain ⟨hb,hr⟩:=ready_get hi rfl
    have f0:a.tmps[0]?.getD undef=(.pointer (some ⟨B,0,none⟩)):=tmp_at ((h.fx 0 (by decide)).trans rfl)
    refine wpOp_val rfl rfl rfl (v:=(.pointer (some ⟨B,0,none⟩))) (w':=w') ?_ (h.pure 1 356 _ rfl (by decide) (by decide) (by decide) (by decide) (show 356<373 by decide))
    simp[go_sem,f0]
   ·obtain ⟨hb,hr⟩:=ready_get hi rfl
    have f356:a.tmps[356]?.getD undef=(.pointer (some ⟨B,0,none⟩)):=tmp_at (h.pu (1,356) (by simp) (hr {on:=1,ground:=.data} (by simp) rfl))
    refine wpOp_val rfl rfl rfl (v:=(.pointer (some ⟨B,0,none⟩))) (w':=w') ?_ (h.pure 2 357 _ rfl (by decide) (by decide) (by decide) (by decide) (show 357<373 by decide))
    simp[go_sem,f356]
   ·obtain ⟨hb,hr⟩:=ready_get hi rfl
    have f357:a.tmps[357]?.getD undef=(.pointer (some ⟨B,0,none⟩)):=tmp_at (h.pu (2,357) (by simp) (hr {on:=2,ground:=.data} (by simp) rfl))
    refine wpOp_val rfl rfl rfl (v:=(.pointer (some ⟨B,1,none⟩))) (w':=w') ?_ (h.pure 3 358 _ rfl (by decide) (by decide) (by decide) (by decide) (show 358<373 by decide))
    simp[go_sem,f357]
   ·obtain ⟨hb,hr⟩:=ready_get hi rfl
    have f358:a.tmps[358]?.getD undef=(.pointer (some ⟨B,1,none⟩)):=tmp_at (h.pu (3,358) (by simp) (hr {on:=3,ground:=.data} (by simp) rfl))
    obtain ⟨v9,s9,hs9,hL,h41,h42,h43⟩:=h.ex
    have hle:¬2<s9:=fun e=>by have:=h43 (4,2) (by simp) e;rw[hb] at this;cases this
    have z0:=hL.2.1 (by omega)
    refine wpOp_val rfl rfl rfl (v:=(.slice (some ⟨xb,0,none⟩) (l.length+1) cap)) (w':=w') ?_ (h.pure 4 359 _ rfl (by decide) (by decide) (by decide) (by decide) (show 359<373 by decide))
    simp[go_sem,f358,z0]
   ·obtain ⟨hb,hr⟩:=ready_get hi rfl
    have f0:a.tmps[0]?.getD undef=(.pointer (some ⟨B,0,none⟩)):=tmp_at ((h.fx 0 (by decide)).trans rfl)
    refine wpOp_val rfl rfl rfl (v:=(.pointer (some ⟨B,0,none⟩))) (w':=w') ?_ (h.pure 5 360 _ rfl (by decide) (by decide) (by decide) (by decide) (show 360<373 by decide))
    simp[go_sem,f0]
   ·obtain ⟨hb,hr⟩:=ready_get hi rfl
    have f360:a.tmps[360]?.getD undef=(.pointer (some ⟨B,0,none⟩)):=tmp_at (h.pu (5,360) (by simp) (hr {on:=5,ground:=.data} (by simp) rfl))
    refine wpOp_val rfl rfl rfl (v:=(.pointer (some ⟨B,0,none⟩))) (w':=w') ?_ (h.pure 6 361 _ rfl (by decide) (by decide) (by decide) (by decide) (show 361<373 by decide))
    simp[go_sem,f360]
   ·obtain ⟨hb,hr⟩:=ready_get hi rfl
    have f361:a.tmps[361]?.getD undef=(.pointer (some ⟨B,0,none⟩)):=tmp_at (h.pu (6,361) (by simp) (hr {on:=6,ground:=.data} (by simp) rfl))
    refine wpOp_val rfl rfl rfl (v:=(.pointer (some ⟨B,4,none⟩))) (w':=w') ?_ (h.pure 7 362 _ rfl (by decide) (by decide) (by decide) (by decide) (show 362<373 by decide))
    simp[go_sem,f361]
   ·obtain ⟨hb,hr⟩:=ready_get hi rfl
    have f362:a.tmps[362]?.getD undef=(.pointer (some ⟨B,4,none⟩)):=tmp_at (h.pu (7,362) (by simp) (hr {on:=7,ground:=.data} (by simp) rfl))
    obtain ⟨v9,s9,hs9,hL,h41,h42,h43⟩:=h.ex
    have z0:=hL.1
    refine wpOp_val rfl rfl rfl (v:=(.int .i64 r.1.i)) (w':=w') ?_ (h.pure 8 363 _ rfl (by decide) (by decide) (by decide) (by decide) (show 363<373 by decide))
    simp[go_sem,f362,z0]
   ·obtain ⟨hb,hr⟩:=ready_get hi rfl
    have f363:a.tmps[363]?.getD undef=(.int .i64 r.1.i):=tmp_at (h.pu (8,363) (by simp) (hr {on:=8,ground:=.data} (by simp) rfl))
    refine wpOp_val rfl rfl rfl (v:=(.int .i64 (r.1.i+1))) (w':=w') ?_ (h.pure 9 364 _ rfl (by decide) (by decide) (by decide) (by decide) (show 364<373 by decide))
    simp[go_sem,f363,wc]
   ·obtain ⟨hb,hr⟩:=ready_get hi rfl
    have f7:a.tmps[7]?.getD undef=(.int .i64 q.2):=tmp_at ((h.fx 7 (by decide)).trans rfl)
    refine wpOp_val rfl rfl rfl (v:=(.int .i64 q.2)) (w':=w') ?_ (h.pure 10 365 _ rfl (by decide) (by decide) (by decide) (by decide) (show 365<373 by decide))
    simp[go_sem,f7]
   ·obtain ⟨hb,hr⟩:=ready_get hi rfl
    have hp:∀i' c',0=i'+1→([(11,some 366),(12,some 367),(13,some 368),(16,none)]:List (Nat×Option Nat))[i']?=some c'→l9.getD c'.1 false=true:=fun i' c' e hc=>by
     exact absurd e (by omega)
    obtain ⟨v9,hL,hv⟩:=h.at 0 (11,some 366) rfl hb hp
    have f364:a.tmps[364]?.getD undef=(.int .i64 (r.1.i+1)):=tmp_at (h.pu (9,364) (by simp) (hr {on:=9,ground:=.data} (by simp) rfl))
    have f365:a.tmps[365]?.getD undef=(.int .i64 q.2):=tmp_at (h.pu (10,365) (by simp) (hr {on:=10,ground:=.data} (by simp) rfl))
    refine wpOp_val rfl rfl rfl (v:=(.slice (some ⟨W12.heap.size,0,none⟩) 2 2)) (w':=(W12.alloc (.cells #[.int .i64 (r.1.i+1),.int .i64 (q.2)] 3))) ?_ (h.eff 0 11 (some 366) _ rfl hb hp HL1.out (fun d e=>by injection e with e;subst e;exact ⟨by decide,(show 366<373 by decide),by decide⟩) (by decide) (effs_other _ 0 11 (by decide)) (by decide) (fun x hx e=>by simp at hx;subst hx;exact absurd e (by decide)) (by decide))
    rw[hL.2.2.1 rfl]
    simp[go_sem,f364,f365]
   ·obtain ⟨hb,hr⟩:=ready_get hi rfl
    have hp:∀i' c',1=i'+1→([(11,some 366),(12,some 367),(13,some 368),(16,none)]:List (Nat×Option Nat))[i']?=some c'→l9.getD c'.1 false=true:=fun i' c' e hc=>by
     obtain rfl:i'=0:=by omega
     obtain rfl:c'=(11,some 366):=by injection hc with hc;exact hc.symm
     exact hr {on:=11,ground:=.data} (by simp) rfl
    obtain ⟨v9,hL,hv⟩:=h.at 1 (12,some 367) rfl hb hp
    have f366:a.tmps[366]?.getD undef=v9:=tmp_at (hv 0 11 366 rfl rfl)
    obtain ⟨e0,e1⟩:=hL.2.2.2.1 rfl
    refine wpOp_val rfl rfl rfl (v:=(.slice (some ⟨W12.heap.size+1,0,none⟩) 1 1)) (w':=((W12.alloc (.cells #[.int .i64 (r.1.i+1),.int .i64 (q.2)] 3)).alloc (.cells #[.slice (some ⟨W12.heap.size,0,none⟩) 2 2] 46))) ?_ (h.eff 1 12 (some 367) _ rfl hb hp HL2.out (fun d e=>by injection e with e;subst e;exact ⟨by decide,(show 367<373 by decide),by decide⟩) (by decide) (effs_other _ 1 12 (by decide)) (by decide) (fun x hx e=>by simp at hx;subst hx;exact absurd e (by decide)) (by decide))
    rw[e0]
    simp[go_sem,f366,e1]
   ·obtain ⟨hb,hr⟩:=ready_get hi rfl
    have hp:∀i' c',2=i'+1→([(11,some 366),(12,some 367),(13,some 368),(16,none)]:List (Nat×Option Nat))[i']?=some c'→l9.getD c'.1 false=true:=fun i' c' e hc=>by
     obtain rfl:i'=1:=by omega
     obtain rfl:c'=(12,some 367):=by injection hc with hc;exact hc.symm
     exact hr {on:=12,ground:=.data} (by simp) rfl
    obtain ⟨v9,hL,hv⟩:=h.at 2 (13,some 368) rfl hb hp
    have f359:a.tmps[359]?.getD undef=(.slice (some ⟨xb,0,none⟩) (l.length+1) cap):=tmp_at (h.pu (4,359) (by simp) (hr {on:=4,ground:=.data} (by simp) rfl))
    have f367:a.tmps[367]?.getD undef=v9:=tmp_at (hv 1 12 367 rfl rfl)
    obtain ⟨e0,e1⟩:=hL.2.2.2.2.1 rfl
    refine wpOp_val rfl rfl rfl (v:=((.slice (some ⟨x3,0,none⟩) (l.length+2) cap3))) (w':=W3) ?_ (h.eff 2 13 (some 368) _ rfl hb hp HL3.out (fun d e=>by injection e with e;subst e;exact ⟨by decide,(show 368<373 by decide),by decide⟩) (by decide) (effs_other _ 2 13 (by decide)) (by decide) (fun x hx e=>by simp at hx;subst hx;exact hr {on:=4,ground:=.data} (by simp) rfl) (by decide))
    rw[e0]
    have g359:a.eval (.tmp 359)= .slice (some ⟨xb,0,none⟩) (l.length+1) cap:=by simp[go_sem,f359]
    have g367:a.eval (.tmp 367)=v9:=by simp[go_sem,f367]
    simp[execOp,resolve,invoke,builtin,g359,g367,e1,hap,Result.andThen]
   ·obtain ⟨hb,hr⟩:=ready_get hi rfl
    have f355:a.tmps[355]?.getD undef=(.pointer (some ⟨B,0,none⟩)):=tmp_at (h.pu (0,355) (by simp) (hr {on:=0,ground:=.data} (by simp) rfl))
    refine wpOp_val rfl rfl rfl (v:=(.pointer (some ⟨B,0,none⟩))) (w':=w') ?_ (h.pure 14 369 _ rfl (by decide) (by decide) (by decide) (by decide) (show 369<373 by decide))
    simp[go_sem,f355]
   ·obtain ⟨hb,hr⟩:=ready_get hi rfl
    have f369:a.tmps[369]?.getD undef=(.pointer (some ⟨B,0,none⟩)):=tmp_at (h.pu (14,369) (by simp) (hr {on:=14,ground:=.data} (by simp) rfl))
    refine wpOp_val rfl rfl rfl (v:=(.pointer (some ⟨B,1,none⟩))) (w':=w') ?_ (h.pure 15 370 _ rfl (by decide) (by decide) (by decide) (by decide) (show 370<373 by decide))
    simp[go_sem,f369]
   ·obtain ⟨hb,hr⟩:=ready_get hi rfl
    have hp:∀i' c',3=i'+1→([(11,some 366),(12,some 367),(13,some 368),(16,none)]:List (Nat×Option Nat))[i']?=some c'→l9.getD c'.1 false=true:=fun i' c' e hc=>by
     obtain rfl:i'=2:=by omega
     obtain rfl:c'=(13,some 368):=by injection hc with hc;exact hc.symm
     exact hr {on:=13,ground:=.data} (by simp) rfl
    obtain ⟨v9,hL,hv⟩:=h.at 3 (16,none) rfl hb hp
    have f370:a.tmps[370]?.getD undef=(.pointer (some ⟨B,1,none⟩)):=tmp_at (h.pu (15,370) (by simp) (hr {on:=15,ground:=.data} (by simp) rfl))
    have f368:a.tmps[368]?.getD undef=v9:=tmp_at (hv 2 13 368 rfl rfl)
    obtain ⟨e0,e1⟩:=hL.2.2.2.2.2.1 rfl
    refine wpOp_skip rfl rfl rfl (w':=(W3.setCell ⟨B,1,none⟩ (.slice (some ⟨x3,0,none⟩) (l.length+2) cap3))) ?_ (h.eff 3 16 none undef rfl hb hp (HL4.out _) (fun d e=>by cases e) (by decide) (effs_other _ 3 16 (by decide)) (by decide) (fun x hx e=>by simp at hx;subst hx;exact absurd e (by decide)) (by decide))
    rw[e0]
    simp[go_sem,f370,f368,e1,h3f,h31]
  intro l9 a w' h hr
  have hz:=h.sz
  have d0:=ready_nil2 (i:=0) hr hz rfl (fun e he hbb=>by simp at he<;>(repeat' (first | (rcases he with rfl | he) | (subst he)))<;>first | assumption | exact absurd hbb (by decide))
  have d1:=ready_nil2 (i:=1) hr hz rfl (fun e he hbb=>by simp at he<;>(repeat' (first | (rcases he with rfl | he) | (subst he)))<;>first | assumption | exact absurd hbb (by decide))
  have d2:=ready_nil2 (i:=2) hr hz rfl (fun e he hbb=>by simp at he<;>(repeat' (first | (rcases he with rfl | he) | (subst he)))<;>first | assumption | exact absurd hbb (by decide))
  have d3:=ready_nil2 (i:=3) hr hz rfl (fun e he hbb=>by simp at he<;>(repeat' (first | (rcases he with rfl | he) | (subst he)))<;>first | assumption | exact absurd hbb (by decide))
  have d4:=ready_nil2 (i:=4) hr hz rfl (fun e he hbb=>by simp at he<;>(repeat' (first | (rcases he with rfl | he) | (subst he)))<;>first | assumption | exact absurd hbb (by decide))
  have d5:=ready_nil2 (i:=5) hr hz rfl (fun e he hbb=>by simp at he<;>(repeat' (first | (rcases he with rfl | he) | (subst he)))<;>first | assumption | exact absurd hbb (by decide))
  have d6:=ready_nil2 (i:=6) hr hz rfl (fun e he hbb=>by simp at he<;>(repeat' (first | (rcases he with rfl | he) | (subst he)))<;>first | assumption | exact absurd hbb (by decide))
  have d7:=ready_nil2 (i:=7) hr hz rfl (fun e he hbb=>by simp at he<;>(repeat' (first | (rcases he with rfl | he) | (subst he)))<;>first | assumption | exact absurd hbb (by decide))
  have d8:=ready_nil2 (i:=8) hr hz rfl (fun e he hbb=>by simp at he<;>(repeat' (first | (rcases he with rfl | he) | (subst he)))<;>first | assumption | exact absurd hbb (by decide))
  have d9:=ready_nil2 (i:=9) hr hz rfl (fun e he hbb=>by simp at he<;>(repeat' (first | (rcases he with rfl | he) | (subst he)))<;>first | assumption | exact absurd hbb (by decide))
  have d10:=ready_nil2 (i:=10) hr hz rfl (fun e he hbb=>by simp at he<;>(repeat' (first | (rcases he with rfl | he) | (subst he)))<;>first | assumption | exact absurd hbb (by decide))
  have d11:=ready_nil2 (i:=11) hr hz rfl (fun e he hbb=>by simp at he<;>(repeat' (first | (rcases he with rfl | he) | (subst he)))<;>first | assumption | exact absurd hbb (by decide))
  have d12:=ready_nil2 (i:=12) hr hz rfl (fun e he hbb=>by simp at he<;>(repeat' (first | (rcases he with rfl | he) | (subst he)))<;>first | assumption | exact absurd hbb (by decide))
  have d13:=ready_nil2 (i:=13) hr hz rfl (fun e he hbb=>by simp at he<;>(repeat' (first | (rcases he with rfl | he) | (subst he)))<;>first | assumption | exact absurd hbb (by decide))
  have d14:=ready_nil2 (i:=14) hr hz rfl (fun e he hbb=>by simp at he<;>(repeat' (first | (rcases he with rfl | he) | (subst he)))<;>first | assumption | exact absurd hbb (by decide))
  have d15:=ready_nil2 (i:=15) hr hz rfl (fun e he hbb=>by simp at he<;>(repeat' (first | (rcases he with rfl | he) | (subst he)))<;>first | assumption | exact absurd hbb (by decide))
  have d16:=ready_nil2 (i:=16) hr hz rfl (fun e he hbb=>by simp at he<;>(repeat' (first | (rcases he with rfl | he) | (subst he)))<;>first | assumption | exact absurd hbb (by decide))
  obtain ⟨v9,s9,hs9,hL,h41,h42,h43⟩:=h.ex
  have hlt9:=(h41 3 (16,none) rfl).1 d16
  have hle9:s9≤4:=hs9
  obtain rfl:s9=4:=by omega
  have ha:=act_puts a _ _ h.df h.tz h.fx
  obtain ⟨fa,hfa⟩:∃f,(fun d=>a.tmps.getD d undef)=f:=⟨_,rfl⟩
  rw[hfa] at ha
  have ew:=hL.2.2.2.2.2.2 rfl
  clear hfa h hr hz d0 d1 d2 d3 d4 d5 d6 d7 d8 d9 d10 d11 d12 d13 d14 d15 d16 h41 h42 h43 hlt9 hle9 hs9
  clear hL
  subst ew ha
  clear HL0 HL1 HL2 HL3 HL4 hap
  simp only[putAll]
  go_wp2_with fail
  refine HF.mono ?_;rintro e w16 ⟨rfl,rv6,gs6,k16⟩
  go_wp2
  first | go_end0 | ((try simp only[Exit.inBlock,Exit.then]);refine bodyPost_ret (results_none rfl _ _ _) rfl ?_)
  rw[HP.out,if_neg (show ¬(r.1.i - q.1<q.2 - r.1.i) by omega),←rfst_same ((r.1.i+1,q.2)::(q.1,r.1.i - 1)::l) _ r3]
  have kf:=k16.fin HN.out HK2.out (c':=c+40) (by omega)
  exact ⟨rfl,⟨_,_,kf.1⟩,kf.2⟩
end Go.Proofs.YtkmopcanaalemabGreat
