import Derived.Test.YtkmopcanaalemabGreatCg19
import Derived.Deep.CutBlock
namespace Go.Proofs.YtkmopcanaalemabGreat
open Go.RowKit
structure Rs (N:Nat→Prop) (w0 w:World) (S ka va ca z:Nat) (g:G) (cb:Nat→Nat):Prop where
 rp:Rp w S ka va ca z g cb
 ge:∀x,Rp.Own S ka va ca z g cb x→¬N x
 keep:Keep N w0 w
theorem Rs.bel {N:Nat→Prop} {w0 w w':World} {S ka va ca z:Nat} {g:G} {cb:Nat→Nat} (h:Rs N w0 w S ka va ca z g cb) (hb:Below w.heap.size w w'):Rs N w0 w' S ka va ca z g cb:=⟨h.rp.below hb,h.ge,h.keep.bel hb⟩
theorem Rs.setX {N:Nat→Prop} {w0 w:World} {S ka va ca z:Nat} {g:G} {cb:Nat→Nat} (h:Rs N w0 w S ka va ca z g cb) {i:Nat} (hi:i<z) (x:V):Rs N w0 (set3i w va i x) S ka va ca z {g with X:=upd g.X i x} cb:=
 ⟨h.rp.setX hi x,h.ge,h.keep.trans ((set3i_keep w va i x).sub fun _ hy e=>h.ge va (.inr (.inr (.inl rfl))) (e▸hy))⟩
theorem Rs.setK {N:Nat→Prop} {w0 w:World} {S ka va ca z:Nat} {g:G} {cb:Nat→Nat} (h:Rs N w0 w S ka va ca z g cb) {i:Nat} (hi:i<z) (x:V):Rs N w0 (set3i w ka i x) S ka va ca z {g with K:=upd g.K i x} cb:=
 ⟨h.rp.setK hi x,h.ge,h.keep.trans ((set3i_keep w ka i x).sub fun _ hy e=>h.ge ka (.inr (.inl rfl)) (e▸hy))⟩
theorem Rs.setF {N:Nat→Prop} {w0 w:World} {S ka va ca z:Nat} {g:G} {cb:Nat→Nat} (h:Rs N w0 w S ka va ca z g cb) (f:Nat):Rs N w0 (w.setCell ⟨S,3,none⟩ (.int .i64 (f:Nat))) S ka va ca z {g with f:=f} cb:=
 ⟨h.rp.setF f,h.ge,h.keep.set (p:=⟨S,3,none⟩) (fun q=>h.ge S (.inl rfl) q) _⟩
theorem Rs.setN {N:Nat→Prop} {w0 w:World} {S ka va ca z:Nat} {g:G} {cb:Nat→Nat} (h:Rs N w0 w S ka va ca z g cb) {o t x:Nat} (ho:o<z) (ht:t<(g.C o).length):Rs N w0 (w.setCell ⟨cb o,t,none⟩ (.int .i64 (x:Nat))) S ka va ca z {g with C:=upd g.C o ((g.C o).set t x)} cb:=by
 have hne:g.C o≠[]:=fun e=>by rw[e] at ht;simp at ht
 have hN:¬N (cb o):=h.ge _ (.inr (.inr (.inr (.inr ⟨o,ho,hne,rfl⟩))))
 refine ⟨h.rp.setN ho ht,fun x hx=>?_,h.keep.set (p:=⟨cb o,t,none⟩) hN _⟩
 rcases hx with q | q | q | q | ⟨m,hm,he,rfl⟩
 ·exact h.ge x (.inl q)
 ·exact h.ge x (.inr (.inl q))
 ·exact h.ge x (.inr (.inr (.inl q)))
 ·exact h.ge x (.inr (.inr (.inr (.inl q))))
 ·by_cases e:m=o
  ·rw[e];exact hN
  ·simp only[upd_ne _ _ e] at he
   exact h.ge _ (.inr (.inr (.inr (.inr ⟨m,hm,he,rfl⟩))))
theorem Rs.setC {N:Nat→Prop} {w0 w:World} {S ka va ca z:Nat} {g:G} {cb:Nat→Nat} (h:Rs N w0 w S ka va ca z g cb) {m b cap:Nat} {l:List Nat} (hm:m<z) (hr:Rl w (.slice (some ⟨b,0,none⟩) l.length cap) b l) (hn:∀x,Rp.Own S ka va ca z g cb x→x≠b) (hb:¬N b):
 Rs N w0 (w.setCell ⟨ca,m,none⟩ (.slice (some ⟨b,0,none⟩) l.length cap)) S ka va ca z {g with C:=upd g.C m l} (upd cb m b):=by
 refine ⟨h.rp.setC hm hr ⟨fun e=>hn _ (.inl rfl) e.symm,fun e=>hn _ (.inr (.inl rfl)) e.symm,fun e=>hn _ (.inr (.inr (.inl rfl))) e.symm,fun e=>hn _ (.inr (.inr (.inr (.inl rfl)))) e.symm⟩ (fun m' hm' _ he=>hn _ (.inr (.inr (.inr (.inr ⟨m',hm',he,rfl⟩))))),fun x hx=>?_,
  h.keep.set (p:=⟨ca,m,none⟩) (fun q=>h.ge ca (.inr (.inr (.inr (.inl rfl)))) q) _⟩
 rcases hx with q | q | q | q | ⟨m2,hm2,he,rfl⟩
 ·exact h.ge x (.inl q)
 ·exact h.ge x (.inr (.inl q))
 ·exact h.ge x (.inr (.inr (.inl q)))
 ·exact h.ge x (.inr (.inr (.inr (.inl q))))
 ·by_cases e:m2=m
  ·rw[e,upd_at];exact hb
  ·simp only[upd_ne _ _ e] at he⊢
   exact h.ge _ (.inr (.inr (.inr (.inr ⟨m2,hm2,he,rfl⟩))))
theorem Rp.own_lt {w:World} {S ka va ca z:Nat} {g:G} {cb:Nat→Nat} (h:Rp w S ka va ca z g cb) {x:Nat} (hx:Rp.Own S ka va ca z g cb x):x<w.heap.size:=by
 rcases hx with q | q | q | q | ⟨m,hm,he,rfl⟩
 ·rw[q];exact h.lt.1
 ·rw[q];exact h.lt.2.1
 ·rw[q];exact h.lt.2.2.1
 ·rw[q];exact h.lt.2.2.2
 ·obtain ⟨u,_,hu⟩:=h.c m hm
  rcases hu with ⟨q,_⟩ | ⟨_,_,_,q,_⟩
  ·exact absurd q he
  ·exact q
def frR (w:World) (S:Nat):Nat:=match w.cell? ⟨S,3,none⟩ with | some (.int _ q)=>q.toNat | _=>0
theorem Rp.fr {w:World} {S ka va ca z:Nat} {g:G} {cb:Nat→Nat} (h:Rp w S ka va ca z g cb):frR w S=g.f:=by unfold frR;rw[h.s3];simp
def lsw (m a:Nat) (c:List Nat) (i:Nat):List Nat:=(c.take i).map (swp m a)++c.drop i
theorem lsw_len (m a:Nat) (c:List Nat) (i:Nat):(lsw m a c i).length=c.length:=by simp[lsw];omega
theorem lsw_at (m a:Nat) (c:List Nat) (i t:Nat):(lsw m a c i)[t]?=if t<i then (c[t]?).map (swp m a) else c[t]?:=by
 unfold lsw
 by_cases ht:t<i
 ·rw[if_pos ht]
  by_cases hc:t<c.length
  ·rw[List.getElem?_append_left (by simp;omega),List.getElem?_map,List.getElem?_take_of_lt ht]
  ·rw[List.getElem?_eq_none (by simp;omega),List.getElem?_eq_none (by omega)];rfl
 ·rw[if_neg ht]
  by_cases hc:i≤c.length
  ·rw[List.getElem?_append_right (by simp;omega),List.getElem?_drop]
   congr 1
   simp
   omega
  ·rw[List.getElem?_eq_none (by simp;omega),List.getElem?_eq_none (by omega)]
theorem lsw_zero (m a:Nat) (c:List Nat):lsw m a c 0=c:=by simp[lsw]
theorem lsw_all (m a:Nat) (c:List Nat):lsw m a c c.length=c.map (swp m a):=by simp[lsw]
theorem lsw_get {m a:Nat} {c:List Nat} {i:Nat}:(lsw m a c i).getD i 0=c.getD i 0:=by
 unfold List.getD
 rw[lsw_at,if_neg (by omega)]
theorem lsw_set {m a:Nat} {c:List Nat} {i:Nat} (h:i<c.length) (hm:c.getD i 0=m):(lsw m a c i).set i a=lsw m a c (i+1):=by
 have hm':c[i]?=some m:=by
  rw[List.getElem?_eq_getElem h]
  simp[List.getD,h] at hm
  rw[hm]
 refine List.ext_getElem? fun t=>?_
 by_cases e:i=t
 ·subst e
  rw[List.getElem?_set_self (by rw[lsw_len];exact h),lsw_at,if_pos (by omega),hm']
  simp[swp]
 ·rw[List.getElem?_set_ne e,lsw_at,lsw_at]
  by_cases q:t<i
  ·rw[if_pos q,if_pos (by omega)]
  ·rw[if_neg q,if_neg (by omega)]
theorem lsw_skip {m a:Nat} {c:List Nat} {i:Nat} (h:i<c.length) (hm:c.getD i 0≠m):lsw m a c i=lsw m a c (i+1):=by
 refine List.ext_getElem? fun t=>?_
 rw[lsw_at,lsw_at]
 by_cases q:t<i
 ·rw[if_pos q,if_pos (by omega)]
 ·rw[if_neg q]
  by_cases e:t=i
  ·subst e
   rw[if_pos (by omega),List.getElem?_eq_getElem h]
   simp[List.getD,h] at hm
   simp[swp,hm]
  ·rw[if_neg (by omega)]
def nums (l:List Nat):List Value:=l.map (fun x=>Value.int .i64 (x:Nat))
theorem nums_at (l:List Nat) (t:Nat) (h:t<l.length):(nums l)[t]?=some (.int .i64 ((l.getD t 0:Nat):Int)):=by
 unfold nums
 rw[List.getElem?_map,List.getElem?_eq_getElem h]
 simp[List.getD,h]
theorem own_rl {w:World} {B g n cap:Nat} {l:List Nat} (h:w.ownsRow B 3 1 (.slice (some ⟨g,0,none⟩) n cap) n (nums l)) (hn:n=l.length) (hl:l≠[]):Rl w (.slice (some ⟨g,0,none⟩) l.length cap) g l:=by
 subst hn
 refine .inr ⟨cap,hl,rfl,(h.lt g rfl).2,fun j=>h.frozenAt j,fun t ht=>?_⟩
 rw[h.cellAt t (by omega),nums_at l t ht]
theorem Rs.kept {N:Nat→Prop} {B:Nat} {w0 w w':World} {S ka va ca z:Nat} {g:G} {cb:Nat→Nat} (h:Rs N w0 w S ka va ca z g cb) (hk:Keep (fun y=>y<B) w w') (hB:∀x,Rp.Own S ka va ca z g cb x→x<B) (hN:∀g,N g→g<B):Rs N w0 w' S ka va ca z g cb:=
 ⟨h.rp.kept hk hB,h.ge,h.keep.trans (hk.sub fun y hy=>hN y hy)⟩
theorem Rl.one (w:World) (m:Nat):Rl (w.alloc (.cells #[.int .i64 (m:Nat)] 3)) (.slice (some ⟨w.heap.size,0,none⟩) 1 1) w.heap.size [m]:=by
 refine .inr ⟨1,by simp,rfl,by simp,fun j=>new_free w _ _ j,fun t ht=>?_⟩
 have :t=0:=by simpa using ht
 subst this
 rw[cell_of_row (MapKept.heap_alloc w _).1]
 rfl
set_option maxRecDepth 100000 in
set_option maxHeartbeats 3000000 in
theorem rput_good {N:Nat→Prop} {S ka va ca z:Nat} {g:G} {cb:Nat→Nat} (k v:V) (w:World) (h:Rp w S ka va ca z g cb) (hN:∀x,Rp.Own S ka va ca z g cb x→¬N x) (hNw:∀g,N g→g<w.heap.size) (hi:Inv z (pl z) KOK g) (hz:pw z=true) (hk:KOK k) (hv:fm v=true):
 Calls Tryz.prog 55 #[pp S,vl k.1 k.2.1 k.2.2,vl v.1 v.2.1 v.2.2] w fun e w'=>e= .returned (.tuple #[.int .i64 ((put z g k v).2.1:Nat),.int .i64 (put z g k v).2.2])∧∃cb',Rs N w w' S ka va ca z (put z g k v).1 cb':=by
 have C1:=rcheck_any k.1 k.2.1 k.2.2
 have C2:=rcheck_any v.1 v.2.1 v.2.2
 rw[chk_of,if_pos (show fm k=true from hk.1)] at C1
 rw[chk_of,if_pos hv] at C2
 have hk0:=hk.2.1
 have hz0:z≠0:=by have:=(pw_bounds z hz).1;omega
 have hzb:=(pw_bounds z hz).2
 have X1:=putW_k w k v
 have X2:=putW_v w k v
 have B0:=putW_below w k v
 obtain ⟨W0,hW0⟩:∃W0,putW w k v=W0:=⟨_,rfl⟩
 rw[hW0] at X1 X2 B0
 have R0:Rs N w W0 S ka va ca z g cb:=⟨h.below B0,hN,Keep.of B0⟩
 have CF:=rfind_any k W0 R0.rp hi (.inr hz) ⟨hk.2.2.1,hk.2.2.2⟩
 rw[fnd_good hz0 hk] at CF
 have CPl:=fun w=>rplace_any k.1 k.2.1 k.2.2 z w hk.2.2.1 hk.2.2.2 hk.1 hz hk.2.1
 rw[←pl_cast hz k] at CPl
 have hmz:=pl_lt hz k
 have HI:Hid _:=hi
 have HK:Hid (KOK k):=hk
 have HZ:Hid (pw z=true):=hz
 have HX1:Hid _:=X1
 have HX2:Hid _:=X2
 have HR0:Hid _:=R0
 have HPU:Hid (put z g k v=match find (pl z) g k with
  | (some i,n)=>(setX g i v,n,0)
  | (none,n)=>if v.1=0 then (g,n,0) else ((ins (pl z) g k v).1,n,full (ins (pl z) g k v).2)):=by
  show _=_
  rw[put,if_pos ⟨hk.1,hv⟩,if_neg hk0,if_neg hz0]
  all_goals rfl
 have HFS:Hid (∀i n,find (pl z) g k=(some i,n)→i<z):=fun i n hf=>(hi.find_some (fun k _=>pl_lt hz k) hk hf).2.1
 have d0:=X1.c0
 have d1:=X1.c1
 have d2:=X1.c2
 have HNw:Hid (∀g,N g→g<w.heap.size):=hNw
 have HLC:Hid (∀m,m<z→g.C m≠[]→cb m<w.heap.size):=fun m hm he=>h.own_lt (.inr (.inr (.inr (.inr ⟨m,hm,he,rfl⟩))))
 have HLT:Hid (S<w.heap.size∧ka<w.heap.size∧va<w.heap.size∧ca<w.heap.size):=h.lt
 have hk0':(k.1==0)=false:=by simpa using hk0
 clear hv X1 X2 B0 R0 h hi hz hk hN hNw hk0
 unfold putW at hW0
 unfold pp vl vb at *
 generalize hsz:w.heap.size=B at *
 have hsz2:(w.alloc (.cells #[.int .i64 k.1,.int .i64 k.2.1,.string k.2.2] 36)).heap.size=B+1:=by rw[←hsz];simp
 have HSZ:Hid (w.heap.size=B):=hsz
 go_enter Tryz.func55,Tryz.ntmps55
 go_wp2_with fail
 refine (C1 _).mono ?_;rintro e w' ⟨rfl,rfl⟩
 go_wp2_with fail
 refine (C2 _).mono ?_;rintro e w' ⟨rfl,rfl⟩
 go_wp2_with fail
 refine CF.mono ?_;rintro e W1 ⟨rfl,hb⟩
 have HR1:Hid _:=HR0.out.bel hb
 have HX1':Hid _:=HX1.out.below hb
 have HX2':Hid _:=HX2.out.below hb
 clear hb CF C1 C2 HR0 HX1 HX2 d0 d1 d2 hW0 hsz hsz2
 have v0:=HX2'.out.c0
 have v1:=HX2'.out.c1
 have v2:=HX2'.out.c2
 cases hf:find (pl z) g k with
 | mk o n=>
   cases o with
   | some i=>
     have hiz:=HFS.out i n hf
     have hiz':(i:Int)<(z:Int):=by omega
     have HR2:Hid (put z g k v=(setX g i v,n,0)):=by have h0:=HPU.out;rw[hf] at h0;exact h0
     have hi0:¬((i:Int)<0):=by omega
     have q1:=HR1.out.rp.s1
     obtain ⟨y0,y1,y2⟩:=HR1.out.rp.v.at hiz
     have fz:=HR1.out.rp.fv
     clear hf HPU HFS CPl
     have HR3:Hid _:=HR1.out.setX hiz v
     obtain ⟨W2,hW2⟩:∃W2,set3i W1 va i v=W2:=⟨_,rfl⟩
     rw[hW2] at HR3
     unfold set3i at hW2
     simp only[fi]
     go_wp2_with fail
     refine wp_tail 7 (by kernel_rfl) (by kernel_rfl) ?_
     simp only[List.take_succ_cons,List.take_zero,List.drop_succ_cons,List.drop_zero]
     repeat still_step
     refine wpStill_nil ?_
     go_wp2_with fail
     go_ret2
     rw[HR2.out]
     exact ⟨rfl,cb,HR3.out.bel (bdrew1 _)⟩
   | none=>
     have HR2:Hid (put z g k v=if v.1=0 then (g,n,0) else ((ins (pl z) g k v).1,n,full (ins (pl z) g k v).2)):=by have h0:=HPU.out;rw[hf] at h0;exact h0
     clear hf HPU HFS
     simp only[fi]
     by_cases hv0:v.1=0
     ·have HR3:Hid _:=HR2.out.trans (if_pos hv0)
      clear HR2
      go_wp2_with fail
      go_ret2
      rw[HR3.out]
      exact ⟨rfl,cb,HR1.out⟩
     ·have HR3:Hid _:=HR2.out.trans (if_neg hv0)
      have hv0':(v.1==0)=false:=by simpa using hv0
      have hzz:((z:Int)==0)=false:=by simpa using hz0
      have q0:=HR1.out.rp.s0
      clear HR2
      obtain ⟨m,hmm⟩:∃m,pl z k=m:=⟨_,rfl⟩
      have HM:Hid (pl z k=m):=hmm
      rw[hmm] at CPl hmz
      clear hmm
      obtain ⟨X,F,F1,F2⟩:=class_of W1
      have e0:=fun x=>(HX1'.out.below (F1 x)).c0
      have e1:=fun x=>(HX1'.out.below (F1 x)).c1
      have e2:=fun x=>(HX1'.out.below (F1 x)).c2
      have e3:=fun x=>(HR1.out.rp.below (F1 x)).s0
      have hM:∀x,Calls Tryz.prog 94 #[.agg #[.int .i64 k.1,.int .i64 k.2.1,.string k.2.2],.int .i64 (z:Nat)] (F x) fun e w''=>e= .returned (.int .i64 (m:Nat))∧∃y,w''=F y:=fun x=>
       (CPl (F x)).mono fun e w' ⟨he,hw⟩=>⟨he,F2 w' (hw▸bthen (F1 x) (F1 x).size (b1 _ _))⟩
      have HC:Hid (∃x,W1.drew=F x):=F2 _ (Below.refl _ _).drew
      have HF1:Hid _:=F1
      clear F1 F2 CPl
      go_wp2_with fail
      haveI:Nonempty X:=HC.out.elim fun x _=>⟨x⟩
      refine wp_class (F:=F) (by kernel_rfl) (by kernel_rfl) HC.out ?_
      repeat (go_big_quiet_step (exact hM _))
      refine wpQuiet_nil ?_
      intro _ hw'
      obtain ⟨x,rfl⟩:=hw'
      have HRa:Hid _:=HR1.out.bel (HF1.out x)
      have HXa:Hid _:=HX1'.out.below (HF1.out x)
      have HXb:Hid _:=HX2'.out.below (HF1.out x)
      generalize F x=w2 at *
      clear hM HC HF1 e0 e1 e2 e3 HR1 HX1' HX2' v0 v1 v2 q0
      have hmz':(m:Int)<(z:Int):=by omega
      have q0:=HRa.out.rp.s0
      obtain ⟨y0,y1,y2⟩:=HRa.out.rp.k.at hmz
      by_cases hE:g.K m=nil
      ·have HI0:Hid (ins (pl z) g k v=(ins0 g m k v,true)):=by show _=_;rw[ins,HM.out,if_pos hE]
       rw[hE] at y0
       have y0':w2.cell? ⟨ka,m * 3,none⟩=some (.int .i64 0):=y0
       clear y0 hE
       have q1:=HRa.out.rp.s1
       have q2:=HRa.out.rp.s2
       have d0:=HXa.out.c0
       have d1:=HXa.out.c1
       have d2:=HXa.out.c2
       have v0:=HXb.out.c0
       have v1:=HXb.out.c1
       have v2:=HXb.out.c2
       obtain ⟨x0,x1,x2⟩:=HRa.out.rp.v.at hmz
       have fk:=HRa.out.rp.fk
       have HRc:=HRa.out.setK hmz k
       obtain ⟨W3,hW3⟩:∃W3,set3i w2 ka m k=W3:=⟨_,rfl⟩
       rw[hW3] at HRc
       have t0:=(HRc.rp.v.at hmz).1
       have t1:=(HRc.rp.v.at hmz).2.1
       have t2:=(HRc.rp.v.at hmz).2.2
       simp only at t0 t1 t2
       have fv:=HRc.rp.fv
       have K3:Keep (fun y=>y≠ka) w2 W3:=by rw[←hW3];exact set3i_keep _ _ _ _
       have hBk:B≠ka∧B+1≠ka:=by have:=HLT.out;omega
       have HXa3:=HXa.out.kept K3 hBk.1
       have HXb3:=HXb.out.kept K3 hBk.2
       have r0:=HRc.rp.s0
       have r1:=HRc.rp.s1
       have r2:=HXa3.c0
       have r3:=HXa3.c1
       have r4:=HXa3.c2
       have r5:=HXb3.c0
       have r6:=HXb3.c1
       have r7:=HXb3.c2
       clear K3 hBk HXa3 HXb3
       have HRd:=HRc.setX hmz v
       obtain ⟨W4,hW4⟩:∃W4,set3i W3 va m v=W4:=⟨_,rfl⟩
       rw[hW4] at HRd
       have HRe:Hid _:=HRd
       unfold set3i at hW3 hW4
       clear HRc HRd x0 x1 x2
       go_upto_region 15 with fail
       go_cut [] from 70 to 99 (fun wx=>wx=W4.drew)
       case first=>
        go_region
        all_goals
         go_wp2_with fail
         go_meet
         exact rfl
       case rest=>
        subst hcut
        clear d0 d1 d2 v0 v1 v2 q0 q1 q2 r0 r1 r2 r3 r4 r5 r6 r7 y0' y1 y2 t0 t1 t2 fk fv hW3 hW4
        have HR5:=HRe.out.bel (b1 W4 (.cells #[.int .i64 (m:Nat)] 3))
        obtain ⟨u,hu,_⟩:=HR5.rp.c m hmz
        have s2:=HR5.rp.s2
        have s2':=HRe.out.rp.s2
        have fc:=HR5.rp.fc
        have HR6:Hid _:=HR5.setC hmz (Rl.one W4 m) (fun x hx=>by have:=HRe.out.rp.own_lt hx;omega) (fun q=>by have h0:=HNw.out _ q;have h1:=HRe.out.keep.size;have h2:=HSZ.out;omega)
        obtain ⟨W5,hW5⟩:∃W5,W4.alloc (.cells #[.int .i64 (m:Nat)] 3)=W5:=⟨_,rfl⟩
        rw[hW5] at HR6 hu s2 fc
        obtain ⟨W6,hW6⟩:∃W6,W5.setCell ⟨ca,m,none⟩ (.slice (some ⟨W4.heap.size,0,none⟩) [m].length 1)=W6:=⟨_,rfl⟩
        rw[hW6] at HR6
        have hW6':W5.setCell ⟨ca,m,none⟩ (.slice (some ⟨W4.heap.size,0,none⟩) 1 1)=W6:=hW6
        clear HR5 hW6 HRe
        go_wp2_with fail
        go_ret2
        rw[HR3.out,HI0.out]
        exact ⟨rfl,_,HR6.out.bel (bdrew1 _)⟩
      ·have HE:Hid (g.K m≠nil):=hE
       have hkd:((g.K m).1==0)=false:=by
        have :¬(g.K m).1=0:=fun e=>hE ((HI.out.kind hmz).1 e)
        simpa using this
       clear hE
       go_upto_block 0 with fail
       go_cut [11] from 93 to 124 (fun fw wx=>fw= .int .i64 (fi (tf g.K g.f))∧Hid (Rs N w wx S ka va ca z {g with f:=(tf g.K g.f).getD 0} cb∧Bx wx B k∧Bx wx (B+1) v))
       case first=>
        have HST:Hid (Rs N w w2 S ka va ca z {g with f:=g.f} cb∧Bx w2 B k∧Bx w2 (B+1) v):=⟨HRa.out,HXa.out,HXb.out⟩
        have HFL:Hid (g.f≤z):=HI.out.fle
        clear HRa HXa HXb q0 y0 y1 y2
        go_wp2_with fail
        go_loopw [11] (fun fw wr=>∃(fo:Option Nat) (fr:Nat),fw= .int .i64 (fi fo)∧fr≤z∧Hid (Rs N w wr S ka va ca z {g with f:=fr} cb∧Bx wr B k∧Bx wr (B+1) v)∧Hid (fo=none→tf g.K fr=tf g.K g.f)∧Hid (∀a,fo=some a→a=fr∧tf g.K g.f=some a)) (fun fw wr=>if intOf fw<0 then frR wr S+1 else 0)
        case atStart=>exact ⟨none,g.f,rfl,HFL.out,HST,fun _=>rfl,fun a h=>(by cases h)⟩
        case round=>
         obtain ⟨fo,fr,rfl,hfr,HR,HN1,HS1⟩:=hrel
         clear HST
         cases fo with
         | some a=>
           obtain ⟨rfl,hta⟩:=HS1.out a rfl
           have ha0:¬((a:Int)<0):=by omega
           have HTA:Hid (tf g.K g.f=some a):=hta
           clear hta
           simp only[fi]
           go_wp2_with fail
           go_meet
           exact ⟨by rw[HTA.out];rfl,by rw[HTA.out];exact HR.out⟩
         | none=>
           have s3:=HR.out.1.rp.s3
           have s0:=HR.out.1.rp.s0
           have f3:=HR.out.1.rp.fS
           simp only at s3
           cases fr with
           | zero=>
             have HTA:Hid (tf g.K g.f=none):=(HN1.out rfl).symm
             have s3':wr.cell? ⟨S,3,none⟩=some (.int .i64 0):=s3
             clear s3
             simp only[fi]
             go_wp2_with fail
             go_meet
             exact ⟨by rw[HTA.out];rfl,by rw[HTA.out];exact HR.out⟩
           | succ f=>
             have hfz:f<z:=by omega
             have hfz':(f:Int)<(z:Int):=by omega
             have HR2:Hid (Rs N w (wr.setCell ⟨S,3,none⟩ (.int .i64 (f:Nat))) S ka va ca z {g with f:=f} cb∧Bx (wr.setCell ⟨S,3,none⟩ (.int .i64 (f:Nat))) B k∧Bx (wr.setCell ⟨S,3,none⟩ (.int .i64 (f:Nat))) (B+1) v):=by
              have K3:Keep (fun y=>y≠S) wr (wr.setCell ⟨S,3,none⟩ (.int .i64 (f:Nat))):=(Keep.refl _ _).set (p:=⟨S,3,none⟩) (fun q=>q rfl) _
              have hBk:B≠S∧B+1≠S:=by have:=HLT.out;omega
              exact ⟨HR.out.1.setF f,HR.out.2.1.kept K3 hBk.1,HR.out.2.2.kept K3 hBk.2⟩
             obtain ⟨W3,hW3⟩:∃W3,wr.setCell ⟨S,3,none⟩ (.int .i64 (f:Nat))=W3:=⟨_,rfl⟩
             rw[hW3] at HR2
             have r0:=HR2.out.1.rp.s0
             have r3:=HR2.out.1.rp.s3
             obtain ⟨y0,y1,y2⟩:=HR2.out.1.rp.k.at hfz
             simp only at r3 y0 y1 y2
             have hm1:=HR.out.1.rp.fr
             have HM1:Hid (frR wr S=f+1):=hm1
             clear hm1
             have hc:((f+1:Nat):Int) - 1=(f:Int):=by omega
             by_cases e:g.K f=nil
             ·rw[e] at y0
              have y0':W3.cell? ⟨ka,f * 3,none⟩=some (.int .i64 0):=y0
              have HTA:Hid (tf g.K g.f=some f):=by show _=_;rw[←HN1.out rfl,tf,if_pos e]
              clear y0 y1 y2 e
              simp only[fi]
              go_wp2_with fail
              go_quiet (fail)
              go_wp2_with fail
              go_round
              case rel=>exact ⟨some f,f,rfl,by omega,⟨HR2.out.1.bel (bdrew _ _ _),HR2.out.2.1.below (bdrew _ _ _),HR2.out.2.2.below (bdrew _ _ _)⟩,fun h=>(by cases h),fun a h=>by cases h;exact ⟨rfl,HTA.out⟩⟩
              case measure=>
               have h0:¬((f:Int)<0):=by omega
               rw[HM1.out];simp[intOf,h0]
             ·have hkf:((g.K f).1==0)=false:=by
               have :¬(g.K f).1=0:=fun q=>e ((HI.out.kind hfz).1 q)
               simpa using this
              have HTA:Hid (tf g.K f=tf g.K g.f):=by show _=_;rw[←HN1.out rfl];exact (if_neg e).symm
              have HM2:Hid (∀q,frR (W3.drewN q) S=f):=fun q=>HR2.out.1.rp.fr
              clear e
              simp only[fi]
              go_wp2_with fail
              go_quiet (fail)
              go_wp2_with fail
              go_round
              case rel=>exact ⟨none,f,rfl,by omega,⟨HR2.out.1.bel (bdrew _ _ _),HR2.out.2.1.below (bdrew _ _ _),HR2.out.2.2.below (bdrew _ _ _)⟩,fun _=>HTA.out,fun a h=>(by cases h)⟩
              case measure=>rw[HM1.out,HM2.out];simp[intOf]
       case rest=>
        obtain ⟨rfl,HRX⟩:=hcut
        clear HRa HXa HXb q0 y0 y1 y2
        cases hT:tf g.K g.f with
        | none=>
          have HI1:Hid (ins (pl z) g k v=({g with f:=0},false)):=by show _=_;rw[ins,HM.out,if_neg HE.out,hT]
          rw[hT] at HRX
          simp only[fi]
          clear hT
          go_wp2_with fail
          go_ret2
          rw[HR3.out,HI1.out]
          exact ⟨rfl,cb,HRX.out.1⟩
        | some f=>
          rw[hT] at HRX
          have HT:Hid (tf g.K g.f=some f):=hT
          obtain ⟨t1,t2,t3⟩:=tf_some hT
          have HFE:Hid (g.K f=nil):=t2
          have hfz:f<z:=Nat.lt_of_lt_of_le t1 HI.out.fle
          have hf0:¬((f:Int)<0):=by omega
          clear hT t1 t2 t3
          have hkm:KOK (g.K m):=(HI.out.key m hmz).resolve_left HE.out
          have CPm:=fun w=>rplace_any (g.K m).1 (g.K m).2.1 (g.K m).2.2 z w hkm.2.2.1 hkm.2.2.2 hkm.1 HZ.out hkm.2.1
          rw[←pl_cast HZ.out (g.K m)] at CPm
          have ho:=pl_lt HZ.out (g.K m)
          obtain ⟨o,hoo⟩:∃o,pl z (g.K m)=o:=⟨_,rfl⟩
          have HOo:Hid (pl z (g.K m)=o):=hoo
          rw[hoo] at CPm ho
          clear hoo hkm
          obtain ⟨Y,H,F1,F2⟩:=class_of wc
          have e0:=fun x=>(HRX.out.1.rp.below (F1 x)).s0
          have e3:=fun x=>((HRX.out.1.rp.below (F1 x)).k.at hmz).1
          have e4:=fun x=>((HRX.out.1.rp.below (F1 x)).k.at hmz).2.1
          have e5:=fun x=>((HRX.out.1.rp.below (F1 x)).k.at hmz).2.2
          simp only at e3 e4 e5
          have hM:∀x,Calls Tryz.prog 94 #[.agg #[.int .i64 (g.K m).1,.int .i64 (g.K m).2.1,.string (g.K m).2.2],.int .i64 (z:Nat)] (H x) fun e w''=>e= .returned (.int .i64 (o:Nat))∧∃y,w''=H y:=fun x=>
           (CPm (H x)).mono fun e w' ⟨he,hw⟩=>⟨he,F2 w' (hw▸bthen (F1 x) (F1 x).size (b1 _ _))⟩
          have HC:Hid (∃x,wc.drew=H x):=F2 _ (Below.refl _ _).drew
          have HF1:Hid _:=F1
          clear F1 F2 CPm
          simp only[fi]
          go_wp2_with fail
          haveI:Nonempty Y:=HC.out.elim fun x _=>⟨x⟩
          refine wp_class (F:=H) (by kernel_rfl) (by kernel_rfl) HC.out ?_
          repeat (go_big_quiet_step (exact hM _))
          refine wpQuiet_nil ?_
          intro _ hw'
          obtain ⟨x3,rfl⟩:=hw'
          have HRY:Hid (Rs N w (H x3) S ka va ca z {g with f:=f} cb∧Bx (H x3) B k∧Bx (H x3) (B+1) v):=⟨HRX.out.1.bel (HF1.out x3),HRX.out.2.1.below (HF1.out x3),HRX.out.2.2.below (HF1.out x3)⟩
          generalize H x3=w4 at *
          clear hM HC HF1 e0 e3 e4 e5 HRX
          by_cases hom:o=m
          ·subst hom
           have HI3:Hid (ins (pl z) g k v=(ins1 g o f k v,true)):=by
            show _=_
            rw[ins,HM.out,if_neg HE.out,HT.out]
            simp only
            rw[HOo.out,if_pos rfl]
           obtain ⟨tl,htl⟩:∃tl,g.C o=o::tl:=by
            have h0:=HI.out.inC o ho HE.out
            rw[HOo.out] at h0
            rcases HI.out.hd o ho with e | e
            ·rw[e] at h0;cases h0
            ·exact e
           have hlen:tl.length+1≤z:=by
            have h0:=nodup_len (HI.out.nd o ho) (fun x hx=>(HI.out.cok o ho x hx).1)
            rw[htl] at h0
            simpa using h0
           have HTL:Hid (g.C o=o::tl):=htl
           have hoz:(o:Int)<(z:Int):=by omega
           have hfz':(f:Int)<(z:Int):=by omega
           have HOW:Hid (∀x,Rp.Own S ka va ca z {g with f:=f} cb x→x<w4.heap.size):=fun x hx=>HRY.out.1.rp.own_lt hx
           have HNB:Hid ((∀g,N g→g<w4.heap.size)∧B<w4.heap.size∧B+1<w4.heap.size):=⟨fun g q=>by have h0:=HNw.out g q;have h1:=HRY.out.1.keep.size;have h2:=HSZ.out;omega,HRY.out.2.1.lt,HRY.out.2.2.lt⟩
           have own0:=World.ownsRow_lit (base:=w4.heap.size) (e:=3) (size:=1) w4 #[.int .i64 (o:Nat),.int .i64 (f:Nat)] 2 (Nat.le_refl _) (by simp only[maxLen];omega) rfl
           have hb5:=b1 w4 (.cells #[.int .i64 (o:Nat),.int .i64 (f:Nat)] 3)
           obtain ⟨W5,hW5⟩:∃W5,w4.alloc (.cells #[.int .i64 (o:Nat),.int .i64 (f:Nat)] 3)=W5:=⟨_,rfl⟩
           rw[hW5] at own0 hb5
           have HS5:Hid (Rs N w W5 S ka va ca z {g with f:=f} cb∧Bx W5 B k∧Bx W5 (B+1) v∧W5.ownsRow w4.heap.size 3 1 (.slice (some ⟨w4.heap.size,0,none⟩) 2 2) 2 (nums [o,f])):=⟨HRY.out.1.bel hb5,HRY.out.2.1.below hb5,HRY.out.2.2.below hb5,own0⟩
           clear htl own0 hb5 HRY
           go_upto_block 2 with fail
           obtain ⟨B4,hB4⟩:∃B4,w4.heap.size=B4:=⟨_,rfl⟩
           rw[hB4] at HOW HNB HS5⊢
           clear hB4 hW5
           go_cut [13,14] from 147 to 171 (fun cw iw wx=>∃gb cap:Nat,cw= .slice (some ⟨gb,0,none⟩) (tl.length+2) cap∧Hid (Rs N w wx S ka va ca z {g with f:=f} cb∧Bx wx B k∧Bx wx (B+1) v∧wx.ownsRow B4 3 1 (.slice (some ⟨gb,0,none⟩) (tl.length+2) cap) (tl.length+2) (nums (o::f::tl))))
           case first=>
            go_wp2_with fail
            go_loopw [13,14] (fun cw iw wr=>∃(i gb cap:Nat),cw= .slice (some ⟨gb,0,none⟩) (i+2) cap∧iw= .int .i64 (i+1:Nat)∧i≤tl.length∧Hid (Rs N w wr S ka va ca z {g with f:=f} cb∧Bx wr B k∧Bx wr (B+1) v∧wr.ownsRow B4 3 1 (.slice (some ⟨gb,0,none⟩) (i+2) cap) (i+2) (nums (o::f::tl.take i)))) (fun _ iw _=>tl.length+1 - (intOf iw).toNat)
            case atStart=>exact ⟨0,B4,2,rfl,rfl,by omega,HS5⟩
            case round=>
             obtain ⟨i,gb,cap,rfl,rfl,hi,HR⟩:=hrel
             clear HS5
             have s2:=HR.out.1.rp.s2
             obtain ⟨u,hu,hul⟩:=HR.out.1.rp.c o ho
             simp only[HTL.out] at hul
             obtain ⟨cap2,hue,hcc⟩:∃cap,u= .slice (some ⟨cb o,0,none⟩) (tl.length+1) cap∧∀t,t<tl.length+1→wr.cell? ⟨cb o,t,none⟩=some (.int .i64 (((o::tl).getD t 0:Nat):Int)):=by
              rcases hul with ⟨q,_⟩ | ⟨cap,_,q1,_,_,q4⟩
              ·cases q
              ·exact ⟨cap,q1,q4⟩
             subst hue
             clear hul
             by_cases hlt:i<tl.length
             ·have hlt':((i:Int)+1)<((tl.length:Int)+1):=by omega
              have hx:wr.cell? ⟨cb o,i+1,none⟩=some (.int .i64 ((tl.getD i 0:Nat):Int)):=hcc (i+1) (by omega)
              obtain ⟨xx,hxx⟩:∃xx,tl.getD i 0=xx:=⟨_,rfl⟩
              rw[hxx] at hx
              have hnm:nums (o::f::tl.take i)++[.int .i64 (xx:Nat)]=nums (o::f::tl.take (i+1)):=by
               have h1:tl.take (i+1)=tl.take i++[xx]:=by
                rw[List.take_add_one,List.getElem?_eq_getElem hlt]
                simp[List.getD,hlt] at hxx
                rw[hxx];rfl
               rw[h1];simp[nums]
              obtain ⟨j0,hji,hz0',hz1',hz2'⟩:=info_parts info3
              obtain ⟨g2,cap3,w6,hr,hown,hgr,hat,hlt6⟩:=run_append_lies (P:=Tryz.prog) (wr.alloc (.cells #[.int .i64 (xx:Nat)] 3)) 46 46 B4 3 j0 (.int .i64 0) 1 8 Tryz.underlying46 hji hz0' hz1' hz2' rfl (by omega) (.slice (some ⟨gb,0,none⟩) (i+2) cap) (i+2) (nums (o::f::tl.take i)) (HR.out.2.2.2.alloc _) ⟨wr.heap.size,0,none⟩ 1 1 [.int .i64 (xx:Nat)] rfl
               (World.news_of_block (cs:=#[.int .i64 (xx:Nat)]) (t:=3) (fr:=(0,0)) (MapKept.heap_alloc wr _).1) (by intro u hu;simp at hu;rw[hu];rfl) (by omega) (by simp only[maxLen];omega) (by omega) (by have h0:=(HR.out.2.2.2.lt gb rfl);simp;omega) _ rfl
              rw[hnm] at hown
              have K6:Keep (fun y=>y<B4) wr w6:=((Keep.refl _ _).alloc _).trans ⟨hgr.os,hgr.tape,hgr.output,hgr.size,fun y hy hn=>hgr.block y hy (fun e=>by
               have h0:=(HR.out.2.2.2.lt gb rfl).1
               have h1:y=gb:=by simpa [Value.ownBlock] using e
               have h2:y<B4:=hn
               omega)⟩
              have HR6:Hid (Rs N w w6 S ka va ca z {g with f:=f} cb∧Bx w6 B k∧Bx w6 (B+1) v∧w6.ownsRow B4 3 1 (.slice (some ⟨g2,0,none⟩) (i+2+1) cap3) (i+2+1) (nums (o::f::tl.take (i+1)))):=⟨HR.out.1.kept K6 HOW.out HNB.out.1,HR.out.2.1.kept K6 HNB.out.2.1,HR.out.2.2.1.kept K6 HNB.out.2.2,hown⟩
              clear hcc hxx hnm hji hz0' hz1' hz2' hown hgr hat hlt6 K6
              go_wp2_with (at_builtin;refine wp_app rfl _ _ 46 rfl 46 rfl _ _ rfl rfl hr ?_)
              go_round
              case rel=>exact ⟨i+1,g2,cap3,by go_num,by go_num,by omega,HR6⟩
              case measure=>simp[intOf];omega
             ·have hlt':¬((i:Int)+1)<((tl.length:Int)+1):=by omega
              have hil:i=tl.length:=by omega
              subst hil
              have HRt:Hid _:=HR.out
              rw[List.take_length] at HRt
              clear hcc
              go_wp2_with fail
              go_meet
              exact ⟨gb,cap,rfl,HRt⟩
           case rest=>
            obtain ⟨gb,cap,rfl,HRt⟩:=hcut
            clear HS5
            have HBn:Hid (B≠ka∧B+1≠ka∧B≠va∧B+1≠va∧B≠ca∧B+1≠ca):=by have:=HLT.out;show B≠ka∧B+1≠ka∧B≠va∧B+1≠va∧B≠ca∧B+1≠ca;omega
            have hgb:=(HRt.out.2.2.2.lt gb rfl).1
            obtain ⟨u,hu,_⟩:=HRt.out.1.rp.c o ho
            have s2:=HRt.out.1.rp.s2
            have fc:=HRt.out.1.rp.fc
            have HRc:=HRt.out.1.setC ho (own_rl HRt.out.2.2.2 rfl (by simp)) (fun x hx=>by have:=HOW.out x hx;omega) (fun q=>by have:=HNB.out.1 _ q;omega)
            obtain ⟨W6,hW6⟩:∃W6,wc.setCell ⟨ca,o,none⟩ (.slice (some ⟨gb,0,none⟩) (o::f::tl).length cap)=W6:=⟨_,rfl⟩
            rw[hW6] at HRc
            have hW6':wc.setCell ⟨ca,o,none⟩ (.slice (some ⟨gb,0,none⟩) (tl.length+2) cap)=W6:=hW6
            have K6:Keep (fun y=>y≠ca) wc W6:=by rw[←hW6];exact (Keep.refl _ _).set (p:=⟨ca,o,none⟩) (fun q=>q rfl) _
            have HR6:Hid (Rs N w W6 S ka va ca z {g with f:=f,C:=upd g.C o (o::f::tl)} (upd cb o gb)∧Bx W6 B k∧Bx W6 (B+1) v):=⟨HRc,HRt.out.2.1.kept K6 HBn.out.2.2.2.2.1,HRt.out.2.2.1.kept K6 HBn.out.2.2.2.2.2⟩
            clear HRc K6 hW6 HRt
            go_upto_region 33 with fail
            clear hu s2 fc hW6'
            have q0:=HR6.out.1.rp.s0
            have q1:=HR6.out.1.rp.s1
            obtain ⟨y0,y1,y2⟩:=HR6.out.1.rp.k.at hfz
            have fk:=HR6.out.1.rp.fk
            have d0:=HR6.out.2.1.c0
            have d1:=HR6.out.2.1.c1
            have d2:=HR6.out.2.1.c2
            have v0:=HR6.out.2.2.c0
            have v1:=HR6.out.2.2.c1
            have v2:=HR6.out.2.2.c2
            have HRb:=HR6.out.1.setK hfz k
            obtain ⟨W7,hW7⟩:∃W7,set3i W6 ka f k=W7:=⟨_,rfl⟩
            rw[hW7] at HRb
            have K7:Keep (fun y=>y≠ka) W6 W7:=by rw[←hW7];exact set3i_keep _ _ _ _
            have HXa7:=HR6.out.2.1.kept K7 HBn.out.1
            have HXb7:=HR6.out.2.2.kept K7 HBn.out.2.1
            have r0:=HRb.rp.s0
            have r1:=HRb.rp.s1
            have r2:=HXa7.c0
            have r3:=HXa7.c1
            have r4:=HXa7.c2
            have r5:=HXb7.c0
            have r6:=HXb7.c1
            have r7:=HXb7.c2
            obtain ⟨t0,t1,t2⟩:=HRb.rp.v.at hfz
            have fv:=HRb.rp.fv
            have HRd:=HRb.setX hfz v
            obtain ⟨W8,hW8⟩:∃W8,set3i W7 va f v=W8:=⟨_,rfl⟩
            rw[hW8] at HRd
            have HR8:Hid _:=HRd
            unfold set3i at hW7 hW8
            clear HRb HRd K7 HXa7 HXb7 HR6
            go_cut [] from 179 to 192 (fun wx=>wx=W8.drew)
            case first=>
             go_region
             all_goals
              go_wp2_with fail
              go_meet
              exact rfl
            case rest=>
             subst hcut
             clear q0 q1 y0 y1 y2 fk d0 d1 d2 v0 v1 v2 r0 r1 r2 r3 r4 r5 r6 r7 t0 t1 t2 fv hW7 hW8
             go_wp2_with fail
             go_ret2
             rw[HR3.out,HI3.out]
             refine ⟨rfl,upd cb o gb,?_⟩
             have hfin:=HR8.out.bel (bdrew1 W8)
             unfold ins1
             rw[HTL.out]
             exact hfin
          ·have hom':((o:Int)==(m:Int))=false:=by simp;omega
           have HI2:Hid (ins (pl z) g k v=(ins2 g o m f k v,true)):=by
            show _=_
            rw[ins,HM.out,if_neg HE.out,HT.out]
            simp only
            rw[HOo.out,if_neg hom]
           have hcne:g.C o≠[]:=fun e=>by
            have h0:=HI.out.inC m hmz HE.out
            rw[HOo.out,e] at h0;cases h0
           have hlen:(g.C o).length≤z:=nodup_len (HI.out.nd o ho) (fun x hx=>(HI.out.cok o ho x hx).1)
           have hoz:(o:Int)<(z:Int):=by omega
           have HSt0:Hid (Rs N w w4 S ka va ca z {g with f:=f,C:=upd g.C o (lsw m f (g.C o) 0)} cb∧Bx w4 B k∧Bx w4 (B+1) v):=by
            rw[lsw_zero]
            have e:upd g.C o (g.C o)=g.C:=by funext x;by_cases q:x=o;rw[q,upd_at];rw[upd_ne _ _ q]
            rw[e]
            exact HRY.out
           have HCB:Hid (B≠cb o∧B+1≠cb o):=by
            have h0:=HLC.out o ho hcne
            show B≠cb o∧B+1≠cb o
            omega
           obtain ⟨c,hc⟩:∃c,g.C o=c:=⟨_,rfl⟩
           rw[hc] at hcne hlen HSt0
           have HCc:Hid (g.C o=c):=hc
           clear hc HRY
           go_upto_block 4 with fail
           go_cut [15] from 194 to 227 (fun iw wx=>Hid (Rs N w wx S ka va ca z {g with f:=f,C:=upd g.C o (lsw m f c c.length)} cb∧Bx wx B k∧Bx wx (B+1) v))
           case first=>
            go_wp2_with fail
            go_loopw [15] (fun iw wr=>∃i:Nat,iw= .int .i64 (i:Nat)∧i≤c.length∧Hid (Rs N w wr S ka va ca z {g with f:=f,C:=upd g.C o (lsw m f c i)} cb∧Bx wr B k∧Bx wr (B+1) v)) (fun iw _=>c.length - (intOf iw).toNat)
            case atStart=>exact ⟨0,rfl,by omega,HSt0⟩
            case round=>
             obtain ⟨i,rfl,hi,HR⟩:=hrel
             clear HSt0
             have s2:=HR.out.1.rp.s2
             obtain ⟨u,hu,hul⟩:=HR.out.1.rp.c o ho
             simp only[upd_at] at hul
             obtain ⟨cap,hue,hcl,hcf,hcc⟩:∃cap,u= .slice (some ⟨cb o,0,none⟩) c.length cap∧cb o<wr.heap.size∧(∀j,wr.frozen? ⟨cb o,j,none⟩=false)∧∀t,t<c.length→wr.cell? ⟨cb o,t,none⟩=some (.int .i64 (((lsw m f c i).getD t 0:Nat):Int)):=by
              rcases hul with ⟨q,_⟩ | ⟨cap,_,q1,q2,q3,q4⟩
              ·have:=lsw_len m f c i
               rw[q] at this
               exact absurd (List.eq_nil_of_length_eq_zero this.symm) hcne
              ·exact ⟨cap,by rw[q1,lsw_len],q2,q3,fun t ht=>q4 t (by rw[lsw_len];exact ht)⟩
             subst hue
             clear hul
             by_cases hlt:i<c.length
             ·have hlt':(i:Int)<(c.length:Int):=by omega
              have hx:=hcc i hlt
              rw[lsw_get] at hx
              clear hcc
              by_cases hxm:c.getD i 0=m
              ·rw[hxm] at hx
               have HR2:=HR.out.1.setN ho (t:=i) (x:=f) (by simp only[upd_at,lsw_len];exact hlt)
               have K3:Keep (fun y=>y≠cb o) wr (wr.setCell ⟨cb o,i,none⟩ (.int .i64 (f:Nat))):=(Keep.refl _ _).set (p:=⟨cb o,i,none⟩) (fun q=>q rfl) _
               have HR3':Hid (Rs N w (wr.setCell ⟨cb o,i,none⟩ (.int .i64 (f:Nat))) S ka va ca z {g with f:=f,C:=upd g.C o (lsw m f c (i+1))} cb∧Bx (wr.setCell ⟨cb o,i,none⟩ (.int .i64 (f:Nat))) B k∧Bx (wr.setCell ⟨cb o,i,none⟩ (.int .i64 (f:Nat))) (B+1) v):=by
                refine ⟨?_,HR.out.2.1.kept K3 HCB.out.1,HR.out.2.2.kept K3 HCB.out.2⟩
                have e:upd (upd g.C o (lsw m f c i)) o ((upd g.C o (lsw m f c i) o).set i f)=upd g.C o (lsw m f c (i+1)):=by
                 funext x
                 by_cases q:x=o
                 ·rw[q,upd_at,upd_at,upd_at,lsw_set hlt hxm]
                 ·rw[upd_ne _ _ q,upd_ne _ _ q,upd_ne _ _ q]
                simp only at HR2
                rw[e] at HR2
                exact HR2
               clear HR2 K3 hxm
               go_wp2_with fail
               go_round
               case rel=>exact ⟨i+1,by go_num,by omega,HR3'⟩
               case measure=>simp[intOf];omega
              ·have HR3':Hid (Rs N w wr S ka va ca z {g with f:=f,C:=upd g.C o (lsw m f c (i+1))} cb∧Bx wr B k∧Bx wr (B+1) v):=by
                rw[←lsw_skip hlt hxm];exact HR.out
               obtain ⟨xx,hxx⟩:∃xx,c.getD i 0=xx:=⟨_,rfl⟩
               rw[hxx] at hx hxm
               have hxm':((xx:Int)==(m:Int))=false:=by simp;omega
               clear hxx hxm
               go_wp2_with fail
               go_round
               case rel=>exact ⟨i+1,by go_num,by omega,HR3'⟩
               case measure=>simp[intOf];omega
             ·have hlt':¬(i:Int)<(c.length:Int):=by omega
              have hil:i=c.length:=by omega
              subst hil
              clear hcc
              go_wp2_with fail
              go_meet
              exact HR
           case rest=>
            have HRZ:Hid _:=hcut
            clear hcut HSt0
            have hmz':(m:Int)<(z:Int):=by omega
            have hfz':(f:Int)<(z:Int):=by omega
            have hfm:Hid (f≠m):=fun e=>HE.out (e▸HFE.out)
            have HBn:Hid (B≠ka∧B+1≠ka∧B≠va∧B+1≠va):=by have:=HLT.out;show B≠ka∧B+1≠ka∧B≠va∧B+1≠va;omega
            have q0:=HRZ.out.1.rp.s0
            have q1:=HRZ.out.1.rp.s1
            obtain ⟨y0,y1,y2⟩:=HRZ.out.1.rp.k.at hmz
            obtain ⟨x0,x1,x2⟩:=HRZ.out.1.rp.v.at hmz
            obtain ⟨j0,j1,j2⟩:=HRZ.out.1.rp.k.at hfz
            have fk:=HRZ.out.1.rp.fk
            have HRb:=HRZ.out.1.setK hfz (g.K m)
            obtain ⟨W5,hW5⟩:∃W5,set3i wc ka f (g.K m)=W5:=⟨_,rfl⟩
            rw[hW5] at HRb
            have K5:Keep (fun y=>y≠ka) wc W5:=by rw[←hW5];exact set3i_keep _ _ _ _
            have HXa5:=HRZ.out.2.1.kept K5 HBn.out.1
            have HXb5:=HRZ.out.2.2.kept K5 HBn.out.2.1
            have r0:=HRb.rp.s0
            have r1:=HRb.rp.s1
            obtain ⟨i0,i1,i2⟩:=HRb.rp.v.at hmz
            obtain ⟨t0,t1,t2⟩:=HRb.rp.v.at hfz
            have fv:=HRb.rp.fv
            have HRd:=HRb.setX hfz (g.X m)
            obtain ⟨W6,hW6⟩:∃W6,set3i W5 va f (g.X m)=W6:=⟨_,rfl⟩
            rw[hW6] at HRd
            have K6:Keep (fun y=>y≠va) W5 W6:=by rw[←hW6];exact set3i_keep _ _ _ _
            have HR6:Hid (Rs N w W6 S ka va ca z {K:=upd g.K f (g.K m),X:=upd g.X f (g.X m),C:=upd g.C o (lsw m f c c.length),f:=f} cb∧Bx W6 B k∧Bx W6 (B+1) v):=⟨HRd,HXa5.kept K6 HBn.out.2.2.1,HXb5.kept K6 HBn.out.2.2.2⟩
            simp only at y0 y1 y2 x0 x1 x2 i0 i1 i2 j0 j1 j2 t0 t1 t2
            unfold set3i at hW5 hW6
            clear HRb HRd K5 K6 HXa5 HXb5
            go_upto_region 40 with fail
            go_cut [] from 228 to 253 (fun wx=>wx=W6.drew)
            case first=>
             go_region
             all_goals
              go_wp2_with fail
              go_meet
              exact rfl
            case rest=>
             subst hcut
             clear q0 q1 y0 y1 y2 x0 x1 x2 j0 j1 j2 fk r0 r1 i0 i1 i2 t0 t1 t2 fv hW5 hW6 HRZ
             have q0:=HR6.out.1.rp.s0
             have q1:=HR6.out.1.rp.s1
             obtain ⟨y0,y1,y2⟩:=HR6.out.1.rp.k.at hmz
             have fk:=HR6.out.1.rp.fk
             have d0:=HR6.out.2.1.c0
             have d1:=HR6.out.2.1.c1
             have d2:=HR6.out.2.1.c2
             have v0:=HR6.out.2.2.c0
             have v1:=HR6.out.2.2.c1
             have v2:=HR6.out.2.2.c2
             have HRb:=HR6.out.1.setK hmz k
             obtain ⟨W7,hW7⟩:∃W7,set3i W6 ka m k=W7:=⟨_,rfl⟩
             rw[hW7] at HRb
             have K7:Keep (fun y=>y≠ka) W6 W7:=by rw[←hW7];exact set3i_keep _ _ _ _
             have HXa7:=HR6.out.2.1.kept K7 HBn.out.1
             have HXb7:=HR6.out.2.2.kept K7 HBn.out.2.1
             have r0:=HRb.rp.s0
             have r1:=HRb.rp.s1
             have r2:=HXa7.c0
             have r3:=HXa7.c1
             have r4:=HXa7.c2
             have r5:=HXb7.c0
             have r6:=HXb7.c1
             have r7:=HXb7.c2
             obtain ⟨t0,t1,t2⟩:=HRb.rp.v.at hmz
             have fv:=HRb.rp.fv
             have HRd:=HRb.setX hmz v
             obtain ⟨W8,hW8⟩:∃W8,set3i W7 va m v=W8:=⟨_,rfl⟩
             rw[hW8] at HRd
             have HR8:Hid _:=HRd
             generalize upd g.K f (g.K m) m=zk at *
             generalize upd g.X f (g.X m) m=zx at *
             unfold set3i at hW7 hW8
             clear HRb HRd K7 HXa7 HXb7 HR6
             go_upto_region 41 with fail
             go_cut [] from 254 to 267 (fun wx=>wx=W8.drew.drew)
             case first=>
              go_region
              all_goals
               go_wp2_with fail
               go_meet
               exact rfl
             case rest=>
              subst hcut
              clear q0 q1 y0 y1 y2 fk d0 d1 d2 v0 v1 v2 r0 r1 r2 r3 r4 r5 r6 r7 t0 t1 t2 fv hW7 hW8
              have HR9:=HR8.out.bel (b1 W8 (.cells #[.int .i64 (m:Nat)] 3))
              obtain ⟨u,hu,_⟩:=HR9.rp.c m hmz
              have s2:=HR9.rp.s2
              have s2':=HR8.out.rp.s2
              have fc:=HR9.rp.fc
              have HRA:Hid _:=HR9.setC hmz (Rl.one W8 m) (fun x hx=>by have:=HR8.out.rp.own_lt hx;omega) (fun q=>by have h0:=HNw.out _ q;have h1:=HR8.out.keep.size;have h2:=HSZ.out;omega)
              obtain ⟨W9,hW9⟩:∃W9,W8.alloc (.cells #[.int .i64 (m:Nat)] 3)=W9:=⟨_,rfl⟩
              rw[hW9] at HRA hu s2 fc
              obtain ⟨WA,hWA⟩:∃WA,W9.setCell ⟨ca,m,none⟩ (.slice (some ⟨W8.heap.size,0,none⟩) [m].length 1)=WA:=⟨_,rfl⟩
              rw[hWA] at HRA
              have hWA':W9.setCell ⟨ca,m,none⟩ (.slice (some ⟨W8.heap.size,0,none⟩) 1 1)=WA:=hWA
              clear HR9 hWA HR8
              go_wp2_with fail
              go_ret2
              rw[HR3.out,HI2.out]
              refine ⟨rfl,upd cb m W8.heap.size,?_⟩
              have hfin:=(HRA.out.bel (bdrew1 WA)).bel (bdrew1 WA.drew)
              rw[lsw_all] at hfin
              unfold ins2
              rw[HCc.out]
              exact hfin
end Go.Proofs.YtkmopcanaalemabGreat
