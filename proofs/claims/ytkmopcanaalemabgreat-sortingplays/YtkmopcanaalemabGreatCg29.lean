import Derived.Test.YtkmopcanaalemabGreatCg28
import Derived.Test.YtkmopcanaalemabGreatCg10
import Derived.Test.YtkmopcanaalemabGreatCg04
import Derived.Test.YtkmopcanaalemabGreatCg17
import Derived.Test.YtkmopcanaalemabGreatCg27
namespace Go.Proofs.YtkmopcanaalemabGreat
open Go.RowKit
theorem under90:Tryz.prog.underlying 90=some (.struct (Tryz.prog.fieldsOf 90)):=by kernel_rfl
theorem stood90:Tryz.prog.stoodInHeld 90=false:=by kernel_rfl
theorem guard90:Tryz.prog.eqGuardType Tryz.prog.depth 90=false:=by kernel_rfl
theorem neq90 (x y u v:Int) (W:World):(binOp .neq 90 (sv x y u v) (sv x y u v)).run Tryz.prog W= .ok (.bool false) W:=by
 unfold sv
 rw[run_neq_struct,run_equalIn_agg W _ _ _ _ under90 stood90]
 simp[go_sem]
theorem same32 (x:V) (W:World):(binOp .neq 36 (.agg #[.int .i64 x.1,.int .i64 x.2.1,.string x.2.2]) (.agg #[.int .i64 x.1,.int .i64 x.2.1,.string x.2.2])).run Tryz.prog W= .ok (.bool false) W:=by
 have:=neq32 x.1 x.2.1 x.1 x.2.1 x.2.2 x.2.2 W
 simp only[decide_true,Bool.not_true] at this
 unfold vl at this
 exact this
set_option maxRecDepth 100000 in
set_option maxHeartbeats 4000000 in
theorem alike_any {Q:Nat→Prop} {w:World} {T S hb RT G c:Nat} {t:TS} {s s':H.St} (h:Bz Q w T S hb RT G c t s t s'):
 Calls Tryz.prog 14 #[tp T,tp RT] w fun e w'=>e= .returned (.bool true)∧Below w.heap.size w w':=by
 have CD:=h.dump
 have HB:Hid (∀W,Below w.heap.size w W→Bz Q W T S hb RT G c t s t s'):=fun W k=>h.below k
 obtain ⟨N1,N2,_,⟨A,P,ka,va,ca,cb,h2⟩,_,_⟩:=h.tt
 have HR:Hid (∀W,Below w.heap.size w W→W.cell? ⟨RT,0,none⟩=some (.slice (some ⟨A,0,none⟩) t.p.n t.p.n)∧W.cell? ⟨RT,5,none⟩=some (.int .i64 t.pr)∧Rv W A t.p.n t.p.F∧A<W.heap.size):=fun W k=>⟨(h2.rb.below k).c0,(h2.rb.below k).c5,(h2.rb.below k).sl,(h2.rb.below k).ltA⟩
 have HTI:Hid (TI t.p):=h2.ti
 have hn:=h2.ti.le
 have hz:=h2.ti.rt.le
 clear h h2
 obtain ⟨N,hN⟩:∃n:Nat,t.p.n+t.p.z=n:=⟨_,rfl⟩
 have hN2:N≤131072:=by omega
 unfold tp at CD⊢
 go_enter Tryz.func14,Tryz.ntmps14
 go_wp2_with fail
 refine CD.mono ?_;rintro e w1 ⟨v,g',c',rfl,hd⟩
 have hB1:Below w.heap.size w w1.drew:=bthen hd.bel hd.bel.size (bdrew1 w1)
 have e0:=(HR.out _ hB1).1
 have CS:=samev_any (c2:=t.p.n) w1.drew (hd.lv.below (bdrew1 w1)) (HR.out _ hB1).2.2.1 (HR.out _ hB1).2.2.2 hn
 obtain ⟨av,cv,rfl⟩:=hd.lv.form
 have HB1:Hid (Below w.heap.size w w1.drew):=hB1
 have N90:=neq90 (t.p.n:Nat) (t.p.z:Nat) (t.p.g.f:Nat) t.hint
 have g90:=guard90
 unfold sv at N90
 clear CD hd hB1
 go_wp2_with fail
 go_region_with (first
  | (go_at_call 31;refine CS.mono ?_;rintro e w2 ⟨rfl,hb2⟩;have hB2:Below w.heap.size w w2:=bthen HB1.out HB1.out.size hb2;have e5:=(HR.out w2 hB2).2.1;have CP:=(HB.out w2 hB2).probes;have CT:=(HB.out w2 hB2).stats;have HB2:Hid (Below w.heap.size w w2):=hB2;unfold tp at CP CT;unfold ts sv at CT;clear hb2 hB2)
  | (go_at_call 32;refine CP.mono ?_;rintro e w3 ⟨rfl,hw3⟩;rw[hw3];clear hw3)
  | (go_at_call 33;refine CT.mono ?_;rintro e w3 ⟨rfl,hb3⟩;have hB3:Below w.heap.size w w3:=bthen HB2.out HB2.out.size hb3;have CR:=(HB.out w3 hB3).rstats;have HB3:Hid (Below w.heap.size w w3):=hB3;unfold tp at CR;unfold ts sv at CR;clear hb3 hB3)
  | (go_at_call 34;refine CR.mono ?_;rintro e w4 ⟨rfl,hb4⟩;have HB4:Hid (Below w.heap.size w w4):=bthen HB3.out HB3.out.size hb4;clear hb4))
 all_goals
  go_wp2_with fail
  go_loopw [7] (fun iw wr=>∃i:Nat,iw= .int .i64 (i:Nat)∧1≤i∧i≤N+1∧Hid (Below w.heap.size w wr)) (fun iw _=>N+1 - (intOf iw).toNat)
  case atStart=>exact ⟨1,rfl,by omega,by omega,HB4.out⟩
  case round=>
   obtain ⟨i,rfl,hi1,hi2,HBr⟩:=hrel
   have CPl:=(HB.out wr HBr.out).rplaces
   rw[hN] at CPl
   unfold tp at CPl
   obtain ⟨p,hp⟩:∃x,prP t.p (i:Int)=x:=⟨_,rfl⟩
   have HC1:Hid (∀W,Below w.heap.size w W→Calls Tryz.prog 36 #[.pointer (some ⟨T,0,none⟩),.int .i64 (i:Nat)] W fun e w'=>e= .returned (.tuple #[.agg #[.int .i64 p.1.1,.int .i64 p.1.2.1,.string p.1.2.2],.agg #[.int .i64 p.2.1,.int .i64 p.2.2.1,.string p.2.2.2]])∧Below W.heap.size W w'):=fun W k=>by
    have:=(HB.out W k).pair (i:Int) (by omega)
    rw[hp] at this
    exact this
   have HC2:Hid (∀W,Below w.heap.size w W→Calls Tryz.prog 37 #[.pointer (some ⟨RT,0,none⟩),.int .i64 (i:Nat)] W fun e w'=>e= .returned (.tuple #[.agg #[.int .i64 p.1.1,.int .i64 p.1.2.1,.string p.1.2.2],.agg #[.int .i64 p.2.1,.int .i64 p.2.2.1,.string p.2.2.2]])∧Below W.heap.size W w'):=fun W k=>by
    have:=(HB.out W k).rpair (i:Int)
    rw[hp] at this
    exact this
   clear hp
   by_cases hlt:i≤N
   ·have hlt':(i:Int)≤(N:Int):=by omega
    go_wp2_with fail
    refine CPl.mono ?_;rintro e w5 ⟨rfl,hb5⟩
    have hB5:Below w.heap.size w w5:=bthen HBr.out HBr.out.size hb5
    have C1:=HC1.out w5 hB5
    have HB5:Hid (Below w.heap.size w w5):=hB5
    clear CPl hb5 hB5 HC1
    go_wp2_with fail
    refine C1.mono ?_;rintro e w6 ⟨rfl,hb6⟩
    have hB6:Below w.heap.size w w6:=bthen HB5.out HB5.out.size hb6
    have B7:=b2 w6 (vb p.1.1 p.1.2.1 p.1.2.2) (vb p.2.1 p.2.2.1 p.2.2.2)
    have XA:=(Bx.made w6 p.1).below (b1 (w6.alloc (vb p.1.1 p.1.2.1 p.1.2.2)) (vb p.2.1 p.2.2.1 p.2.2.2))
    have XB:=Bx.made (w6.alloc (vb p.1.1 p.1.2.1 p.1.2.2)) p.2
    have z6:(w6.alloc (vb p.1.1 p.1.2.1 p.1.2.2)).heap.size=w6.heap.size+1:=by simp
    rw[z6] at XB
    obtain ⟨W7,hW7⟩:∃W,(w6.alloc (vb p.1.1 p.1.2.1 p.1.2.2)).alloc (vb p.2.1 p.2.2.1 p.2.2.2)=W:=⟨_,rfl⟩
    rw[hW7] at B7 XA XB
    unfold vb at hW7
    have hB7:Below w.heap.size w W7:=bthen hB6 hB6.size B7
    have C2:=HC2.out W7 hB7
    have HB7:Hid (Below w.heap.size w W7):=hB7
    have HXA:Hid (Bx W7 w6.heap.size p.1):=XA
    have HXB:Hid (Bx W7 (w6.heap.size+1) p.2):=XB
    clear C1 hb6 hB6 B7 hB7 XA XB HC2 z6
    go_wp2_with fail
    refine C2.mono ?_;rintro e w8 ⟨rfl,hb8⟩
    have hB8:Below w.heap.size w w8:=bthen HB7.out HB7.out.size hb8
    have B9:=b2 w8 (vb p.1.1 p.1.2.1 p.1.2.2) (vb p.2.1 p.2.2.1 p.2.2.2)
    have XC:=(Bx.made w8 p.1).below (b1 (w8.alloc (vb p.1.1 p.1.2.1 p.1.2.2)) (vb p.2.1 p.2.2.1 p.2.2.2))
    have XD:=Bx.made (w8.alloc (vb p.1.1 p.1.2.1 p.1.2.2)) p.2
    have z8:(w8.alloc (vb p.1.1 p.1.2.1 p.1.2.2)).heap.size=w8.heap.size+1:=by simp
    rw[z8] at XD
    have XA2:=(HXA.out.below hb8).below B9
    have XB2:=(HXB.out.below hb8).below B9
    obtain ⟨W9,hW9⟩:∃W,(w8.alloc (vb p.1.1 p.1.2.1 p.1.2.2)).alloc (vb p.2.1 p.2.2.1 p.2.2.2)=W:=⟨_,rfl⟩
    rw[hW9] at B9 XC XD XA2 XB2
    unfold vb at hW9
    have HB9:Hid (Below w.heap.size w W9):=bthen hB8 hB8.size B9
    have a0:=XA2.c0
    have a1:=XA2.c1
    have a2:=XA2.c2
    have b0:=XB2.c0
    have b1':=XB2.c1
    have b2':=XB2.c2
    have k0:=XC.c0
    have k1:=XC.c1
    have k2:=XC.c2
    have d0:=XD.c0
    have d1:=XD.c1
    have d2:=XD.c2
    have NA:=same32 p.1
    have NB:=same32 p.2
    have g32:=guard32
    have wi:IntKind.i64.wrap ((i:Int)+1)=(i:Int)+1:=by rw[IntKind.wrap_i64];omega
    clear C2 hb8 hB8 B9 XC XD XA2 XB2 HXA HXB z8
    go_wp2_with fail
    go_round
    case rel=>exact ⟨i+1,by go_num,by omega,by omega,HB9.out⟩
    case measure=>simp[intOf];omega
   ·have hlt':¬(i:Int)≤(N:Int):=by omega
    go_wp2_with fail
    refine CPl.mono ?_;rintro e w5 ⟨rfl,hb5⟩
    have HB5:Hid (Below w.heap.size w w5):=bthen HBr.out HBr.out.size hb5
    clear CPl hb5
    go_wp2_with fail
    go_ret
    exact ⟨rfl,HB5.out⟩
end Go.Proofs.YtkmopcanaalemabGreat


namespace Go.Proofs.YtkmopcanaalemabGreat
structure Rst where
 rows:List (Int×Int)
 ln:Int
 m:Int
 i:Int
 j:Int
 p:V
 x:V
 y:V
 er:Int
 a:V
 b:V
 ak:Bool
abbrev RD:=Rst×TS×H.St
def gtV (r:RD) (n:Int):V:=pget r.2.1.p (kn n)
def gtD (r:RD) (n:Int):RD:=(r.1,{r.2.1 with pr:=r.2.1.pr+(prd r.2.1.p (kn n):Nat)},r.2.2)
def rput (r:RD) (a:Int) (v:V) (b:Int) (u:V):RD:=
 if r.1.er=0 then ({r.1 with er:=putE (endS 0,r.2) a v b u},(putD (endS 0,r.2) a v b u).2) else r
def rask (r:RD) (k:Int) (a b:V):RD:=({r.1 with ln:=k,a:=a,b:=b,ak:=true},r.2)
def rfst:List (Int×Int)→RD→RD
 | [],r=>({r.1 with rows:=[]},r.2)
 | q::l,r=>
   if r.1.er≠0 then ({r.1 with rows:=q::l},r.2)
   else if q.1<q.2 then
    let r1:RD:=({r.1 with rows:=q::l},r.2)
    let x:=gtV r1 q.1
    let r2:=gtD r1 q.1
    let y:=gtV r2 q.2
    let r3:=gtD r2 q.2
    rask ({r3.1 with x:=x,y:=y},r3.2) 1 y x
   else rfst l r
def rdone (r:RD):RD:=rfst r.1.rows.tail r
def rup (r:RD):RD:=
 if r.1.er=0 then
  let r1:RD:=({r.1 with i:=r.1.i+1},r.2)
  let x:=gtV r1 r1.1.i
  let r2:=gtD r1 r1.1.i
  rask ({r2.1 with x:=x},r2.2) 6 x r2.1.p
 else r
def rpiv (r:RD) (lo up:Int):RD:=
 if r.1.er≠0 then r
 else if up - lo=2 then rdone r
 else
  let v:=gtV r r.1.m
  let r1:=gtD r r.1.m
  let y:=gtV r1 (up - 1)
  let r2:=gtD r1 (up - 1)
  let r3:RD:=({r2.1 with p:=v},r2.2)
  let r4:=rput r3 r3.1.m y (up - 1) v
  rup ({r4.1 with i:=lo,j:=up - 1},r4.2)
def rdown (r:RD):RD:=
 let r1:RD:=({r.1 with j:=r.1.j - 1},r.2)
 let y:=gtV r1 r1.1.j
 let r2:=gtD r1 r1.1.j
 rask ({r2.1 with y:=y},r2.2) 7 r2.1.p y
def ron1 (r:RD) (less:Bool) (lo up:Int):RD:=
 let r1:=if less=true then rput r lo r.1.y up r.1.x else r
 if r1.1.er=0∧1<up - lo then
  let r2:RD:=({r1.1 with m:=lo+(up - lo) / 2},r1.2)
  let x:=gtV r2 r2.1.m
  let r3:=gtD r2 r2.1.m
  let y:=gtV r3 lo
  let r4:=gtD r3 lo
  rask ({r4.1 with x:=x,y:=y},r4.2) 3 x y
 else rdone r1
def ron3 (r:RD) (less:Bool) (lo up:Int):RD:=
 if less=true then rpiv (rput r r.1.m r.1.y lo r.1.x) lo up
 else
  let y:=gtV r up
  let r1:=gtD r up
  rask ({r1.1 with y:=y},r1.2) 4 y r1.1.x
def ron4 (r:RD) (less:Bool) (lo up:Int):RD:=
 rpiv (if less=true then rput r r.1.m r.1.y up r.1.x else r) lo up
def ron6 (r:RD) (less:Bool) (up:Int):RD:=
 if less≠true then rdown r else if r.1.i=up - 1 then ({r.1 with er:=15},r.2) else rup r
def ron7 (r:RD) (less:Bool) (lo up:Int):RD:=
 if less=true∧r.1.j<r.1.i then ({r.1 with er:=15},r.2)
 else if less=true then rdown r
 else if r.1.i≤r.1.j then rup (rput r r.1.i r.1.y r.1.j r.1.x)
 else
  let x:=gtV r (up - 1)
  let r1:=gtD r (up - 1)
  let y:=gtV r1 r.1.i
  let r2:=gtD r1 r.1.i
  let r3:=rput r2 (up - 1) y r.1.i x
  if r.1.i - lo<up - r.1.i then rfst ((lo,r.1.i - 1)::(r.1.i+1,up)::r.1.rows.tail) r3
  else rfst ((r.1.i+1,up)::(lo,r.1.i - 1)::r.1.rows.tail) r3
def ron (r:RD) (less:Bool):RD:=
 if r.1.ln=0 then rfst r.1.rows r
 else
  let q:=r.1.rows.headD (0,0)
  if r.1.ln=1 then ron1 r less q.1 q.2 else if r.1.ln=3 then ron3 r less q.1 q.2 else if r.1.ln=4 then ron4 r less q.1 q.2
  else if r.1.ln=6 then ron6 r less q.2 else if r.1.ln=7 then ron7 r less q.1 q.2 else r
def rnx (r:RD) (less:Bool):RD×Tol:=
 let r0:RD:=({r.1 with ak:=false},r.2)
 let r1:=if 0≤r.1.ln then ron r0 less else r0
 if r1.1.er≠0∨r1.1.ak=false then (({r1.1 with ln:=-1},r1.2),(nil,nil,false,r1.1.er))
 else (r1,(r1.1.a,r1.1.b,true,0))
def lnOf (k:Int):Int:=if k=0 then 0 else if k=1 then 1 else if k=2 then 3 else if k=3 then 4 else if k=4 then 6 else 7
structure RI (d:SD) (r:RD):Prop where
 tb:r.2=d.2
 st:(d.1.ak=6∧r.1.ln=-1∧r.1.er=d.1.er)∨
  (0≤d.1.ak∧d.1.ak≤5∧r.1.er=0∧r.1.rows=(d.1.lo,d.1.up)::d.1.wt∧r.1.ln=lnOf d.1.ak∧r.1.m=d.1.p∧r.1.i=d.1.i∧r.1.j=d.1.j∧r.1.p=d.1.pv∧r.1.x=d.1.x∧(d.1.ak≠4→r.1.y=d.1.y)∧(1≤d.1.ak→d.1.lo<d.1.up))
def RB (g:SD×Tol) (r:RD):Prop:=
 r.2=g.1.2∧((g.1.1=endS r.1.er∧g.2=endT r.1.er∧(r.1.er≠0∨r.1.ak=false))∨
  (r.1.er=0∧r.1.ak=true∧g.2=askT r.1.a r.1.b∧RI g.1 r∧1≤g.1.1.ak∧g.1.1.ak≤5))
theorem rfst_nrow:∀(l:List (Int×Int)) (lo up:Int) (d:SD) (r:RD),r.2=d.2→r.1.er=0→r.1.ak=false→r.1.m=d.1.p→r.1.i=d.1.i→r.1.j=d.1.j→r.1.p=d.1.pv→d.1.lo=lo→d.1.up=up→d.1.wt=l→RB (nrow d) (rfst ((lo,up)::l) r)
 | l,lo,up,d,r,e1,e2,e3,e4,e5,e6,e7,e8,e9,e10=>by
   obtain ⟨s,t⟩:=d
   obtain ⟨q,u⟩:=r
   simp only at e1 e2 e3 e4 e5 e6 e7 e8 e9 e10
   subst e1
   unfold rfst
   simp only[e2]
   rw[if_neg (fun z=>z rfl)]
   by_cases c:lo<up
   ·rw[if_pos c]
    have ep:pop s.lo s.up s.wt=some ((lo,up),l):=by
     rw[e8,e9,e10]
     cases l<;>(unfold pop;rw[if_pos c])
    unfold nrow
    simp only[ep]
    refine ⟨rfl,.inr ⟨rfl,rfl,rfl,⟨rfl,.inr ⟨by show (0:Int)≤1;omega,by show (1:Int)≤5;omega,rfl,rfl,rfl,e4,e5,e6,e7,rfl,fun _=>rfl,fun _=>c⟩⟩,by show (1:Int)≤1;omega,by show (1:Int)≤5;omega⟩⟩
   ·rw[if_neg c]
    cases l with
    | nil=>
      have ep:pop s.lo s.up s.wt=none:=by
       rw[e8,e9,e10]
       unfold pop;rw[if_neg c]
      unfold nrow rfst
      simp only[ep]
      exact ⟨rfl,.inl ⟨by show endS 0=endS q.er;rw[e2],by show endT 0=endT q.er;rw[e2],.inr e3⟩⟩
    | cons v l=>
      have ep:pop s.lo s.up s.wt=pop v.1 v.2 l:=by
       rw[e8,e9,e10]
       conv=>lhs;unfold pop
       rw[if_neg c]
      have ih:=rfst_nrow l v.1 v.2 ({s with lo:=v.1,up:=v.2,wt:=l},u) (q,u) rfl e2 e3 e4 e5 e6 e7 rfl rfl rfl
      have en:nrow (s,u)=nrow ({s with lo:=v.1,up:=v.2,wt:=l},u):=by
       unfold nrow
       simp only[ep]
       cases pop v.1 v.2 l<;>rfl
      rw[en]
      exact ih
end Go.Proofs.YtkmopcanaalemabGreat


namespace Go.Proofs.YtkmopcanaalemabGreat
theorem putD_1 (d:SD) (a:Int) (v:V) (b:Int) (u:V):(putD d a v b u).1=d.1:=by unfold putD;split<;>rfl
theorem putE_2 (s s':SS) (t:TS×H.St) (a:Int) (v:V) (b:Int) (u:V):putE (s,t) a v b u=putE (s',t) a v b u:=rfl
theorem putD_2 (s s':SS) (t:TS×H.St) (a:Int) (v:V) (b:Int) (u:V):(putD (s,t) a v b u).2=(putD (s',t) a v b u).2:=by
 unfold putD
 by_cases h:stE (s,t) a v≠0
 ·rw[if_pos h,if_pos (show stE (s',t) a v≠0 from h)];rfl
 ·rw[if_neg h,if_neg (show ¬stE (s',t) a v≠0 from h)];rfl
structure AL (d:SD) (r:RD):Prop where
 tb:r.2=d.2
 er:r.1.er=0
 ak:r.1.ak=false
 rows:r.1.rows=(d.1.lo,d.1.up)::d.1.wt
 m:r.1.m=d.1.p
 i:r.1.i=d.1.i
 j:r.1.j=d.1.j
 p:r.1.p=d.1.pv
 x:r.1.x=d.1.x
theorem AL.put {d:SD} {r:RD} (h:AL d r) (a:Int) (v:V) (b:Int) (u:V):rput r a v b u=({r.1 with er:=putE d a v b u},(putD d a v b u).2):=by
 obtain ⟨s,t⟩:=d
 obtain ⟨q,w⟩:=r
 have e:=h.tb
 simp only at e
 subst e
 unfold rput
 rw[if_pos h.er]
 show ({q with er:=putE (endS 0,w) a v b u},(putD (endS 0,w) a v b u).2)=_
 rw[putE_2 (endS 0) s,putD_2 (endS 0) s]
theorem AL.got {d:SD} {r:RD} (h:AL d r) (n:Int):gtV r n=rdV d n∧AL (rdD d n) (gtD r n):=by
 obtain ⟨s,t⟩:=d
 obtain ⟨q,w⟩:=r
 have e:=h.tb
 simp only at e
 subst e
 exact ⟨rfl,⟨rfl,h.er,h.ak,h.rows,h.m,h.i,h.j,h.p,h.x⟩⟩
theorem AL.after {d:SD} {r:RD} (h:AL d r) {a:Int} {v:V} {b:Int} {u:V} (e:putE d a v b u=0):AL (putD d a v b u) (rput r a v b u):=by
 rw[h.put]
 have e1:=putD_1 d a v b u
 exact ⟨rfl,e,h.ak,by rw[e1];exact h.rows,by rw[e1];exact h.m,by rw[e1];exact h.i,by rw[e1];exact h.j,by rw[e1];exact h.p,by rw[e1];exact h.x⟩
theorem rfst_err:∀(l:List (Int×Int)) (r:RD),r.1.er≠0→(rfst l r).1.er=r.1.er∧(rfst l r).2=r.2
 | [],r,_=>⟨rfl,rfl⟩
 | q::l,r,h=>by unfold rfst;rw[if_pos h];exact ⟨rfl,rfl⟩
theorem RB.bad {d:SD} {r:RD} {e:Int} (ht:r.2=d.2) (he:r.1.er=e) (h0:e≠0):RB (endD d e,endT e) r:=⟨ht,.inl ⟨by rw[he];rfl,by rw[he],.inl (by rw[he];exact h0)⟩⟩
theorem AL.first {d:SD} {r:RD} (h:AL d r):RB (nrow d) (rfst r.1.rows r):=by
 rw[h.rows]
 exact rfst_nrow _ _ _ d r h.tb h.er h.ak h.m h.i h.j h.p rfl rfl rfl
theorem AL.leave {d:SD} {r:RD} (h:AL d r):RB (leaveR d) (rdone r):=by
 unfold rdone leaveR
 rw[h.rows]
 show RB _ (rfst d.1.wt r)
 have e:=rfst_nrow d.1.wt 0 0 ({d.1 with lo:=0,up:=0},d.2) r h.tb h.er h.ak h.m h.i h.j h.p rfl rfl rfl
 have e2:rfst ((0,0)::d.1.wt) r=rfst d.1.wt r:=by
  conv=>lhs;unfold rfst
  rw[if_neg (fun q=>q h.er),if_neg (by omega)]
 rw[e2] at e
 exact e
theorem AL.rise {d:SD} {r:RD} (h:AL d r) (hl:d.1.lo<d.1.up):RB (riseR d) (rup r):=by
 obtain ⟨s,t⟩:=d
 obtain ⟨q,w⟩:=r
 have e:=h.tb
 simp only at e
 subst e
 have hi:q.i=s.i:=h.i
 have hp:q.p=s.pv:=h.p
 unfold rup riseR
 rw[if_pos h.er]
 refine ⟨?_,.inr ⟨h.er,rfl,?_,⟨?_,.inr ⟨by show (0:Int)≤4;omega,by show (4:Int)≤5;omega,h.er,h.rows,rfl,h.m,?_,h.j,h.p,?_,fun z=>absurd rfl z,fun _=>hl⟩⟩,by show (1:Int)≤4;omega,by show (4:Int)≤5;omega⟩⟩
 ·show (gtD ({q with i:=q.i+1},w) (q.i+1)).2=(rdD ({s with i:=s.i+1},w) (s.i+1)).2
  rw[hi];rfl
 ·show askT (rdV ({s with i:=s.i+1},w) (s.i+1)) s.pv=askT (gtV ({q with i:=q.i+1},w) (q.i+1)) q.p
  rw[hi,hp];rfl
 ·show (gtD ({q with i:=q.i+1},w) (q.i+1)).2=(rdD ({s with i:=s.i+1},w) (s.i+1)).2
  rw[hi];rfl
 ·show q.i+1=s.i+1
  rw[hi]
 ·show gtV ({q with i:=q.i+1},w) (q.i+1)=rdV ({s with i:=s.i+1},w) (s.i+1)
  rw[hi];rfl
theorem AL.fall {d:SD} {r:RD} (h:AL d r) (hl:d.1.lo<d.1.up):RB (fallR d) (rdown r):=by
 obtain ⟨s,t⟩:=d
 obtain ⟨q,w⟩:=r
 have e:=h.tb
 simp only at e
 subst e
 have hj:q.j=s.j:=h.j
 have hp:q.p=s.pv:=h.p
 unfold rdown fallR
 refine ⟨?_,.inr ⟨h.er,rfl,?_,⟨?_,.inr ⟨by show (0:Int)≤5;omega,by show (5:Int)≤5;omega,h.er,h.rows,rfl,h.m,h.i,?_,h.p,h.x,fun _=>?_,fun _=>hl⟩⟩,by show (1:Int)≤5;omega,by show (5:Int)≤5;omega⟩⟩
 ·show (gtD ({q with j:=q.j - 1},w) (q.j - 1)).2=(rdD ({s with j:=s.j - 1},w) (s.j - 1)).2
  rw[hj];rfl
 ·show askT s.pv (rdV ({s with j:=s.j - 1},w) (s.j - 1))=askT q.p (gtV ({q with j:=q.j - 1},w) (q.j - 1))
  rw[hj,hp];rfl
 ·show (gtD ({q with j:=q.j - 1},w) (q.j - 1)).2=(rdD ({s with j:=s.j - 1},w) (s.j - 1)).2
  rw[hj];rfl
 ·show q.j - 1=s.j - 1
  rw[hj]
 ·show gtV ({q with j:=q.j - 1},w) (q.j - 1)=rdV ({s with j:=s.j - 1},w) (s.j - 1)
  rw[hj];rfl
theorem AL.split {d:SD} {r:RD} (h:AL d r) (hl:d.1.lo<d.1.up):RB (splitR d) (rpiv r d.1.lo d.1.up):=by
 unfold splitR rpiv
 rw[if_neg (show ¬(r.1.er≠0) from fun q=>q h.er)]
 by_cases c:d.1.up - d.1.lo=2
 ·rw[if_pos c,if_pos c];exact h.leave
 ·rw[if_neg c,if_neg c]
  obtain ⟨v1,a1⟩:=h.got d.1.p
  obtain ⟨v2,a2⟩:=a1.got (d.1.up - 1)
  simp only[h.m,v1]
  simp only[v2]
  generalize rdV (rdD d d.1.p) (d.1.up - 1)=y at *
  generalize rdV d d.1.p=v at *
  have h1:(rdD (rdD d d.1.p) (d.1.up - 1)).1=d.1:=rfl
  generalize rdD (rdD d d.1.p) (d.1.up - 1)=d2 at *
  generalize gtD (gtD r d.1.p) (d.1.up - 1)=r2 at *
  obtain ⟨s2,t2⟩:=d2
  simp only at h1
  subst h1
  obtain ⟨q2,w2⟩:=r2
  have a3:AL ({d.1 with pv:=v,y:=y},t2) ({q2 with p:=v,m:=d.1.p},w2):=⟨a2.tb,a2.er,a2.ak,a2.rows,rfl,a2.i,a2.j,rfl,a2.x⟩
  have hm:q2.m=d.1.p:=a2.m
  simp only[hm]
  by_cases e:putE ({d.1 with pv:=v,y:=y},t2) d.1.p y (d.1.up - 1) v=0
  ·rw[if_neg (fun q=>q e)]
   have a4:=a3.after e
   have e4:=putD_1 ({d.1 with pv:=v,y:=y},t2) d.1.p y (d.1.up - 1) v
   simp only at a4 e4
   generalize putD _ d.1.p y (d.1.up - 1) v=d4 at *
   generalize rput _ d.1.p y (d.1.up - 1) v=r4 at *
   obtain ⟨s4,t4⟩:=d4
   simp only at e4
   subst e4
   refine AL.rise (d:=({({d.1 with pv:=v,y:=y}:SS) with i:=d.1.lo,j:=d.1.up - 1},t4)) ?_ hl
   exact ⟨a4.tb,a4.er,a4.ak,a4.rows,a4.m,rfl,rfl,a4.p,a4.x⟩
  ·rw[if_pos e]
   have e2:=a3.put d.1.p y (d.1.up - 1) v
   simp only at e2
   rw[e2]
   unfold rup
   rw[if_neg e]
   exact RB.bad rfl rfl e
theorem AL.part {d:SD} {r:RD} (h:AL d r):RB (partR d) (
 let x:=gtV r (d.1.up - 1)
 let r1:=gtD r (d.1.up - 1)
 let y:=gtV r1 r.1.i
 let r2:=gtD r1 r.1.i
 let r3:=rput r2 (d.1.up - 1) y r.1.i x
 if r.1.i - d.1.lo<d.1.up - r.1.i then rfst ((d.1.lo,r.1.i - 1)::(r.1.i+1,d.1.up)::r.1.rows.tail) r3
 else rfst ((r.1.i+1,d.1.up)::(d.1.lo,r.1.i - 1)::r.1.rows.tail) r3):=by
 unfold partR
 obtain ⟨v1,a1⟩:=h.got (d.1.up - 1)
 obtain ⟨v2,a2⟩:=a1.got d.1.i
 rw[h.i,h.rows]
 simp only[v1,v2,List.tail_cons]
 generalize rdV (rdD d (d.1.up - 1)) d.1.i=y at *
 generalize rdV d (d.1.up - 1)=x at *
 have h1:(rdD (rdD d (d.1.up - 1)) d.1.i).1=d.1:=rfl
 generalize rdD (rdD d (d.1.up - 1)) d.1.i=d2 at *
 generalize gtD (gtD r (d.1.up - 1)) d.1.i=r2 at *
 obtain ⟨s2,t2⟩:=d2
 simp only at h1
 subst h1
 have eE:putE ({d.1 with x:=x,y:=y},t2) (d.1.up - 1) y d.1.i x=putE (d.1,t2) (d.1.up - 1) y d.1.i x:=rfl
 have eD:(putD ({d.1 with x:=x,y:=y},t2) (d.1.up - 1) y d.1.i x).2=(putD (d.1,t2) (d.1.up - 1) y d.1.i x).2:=putD_2 _ _ _ _ _ _ _
 have e4:=putD_1 ({d.1 with x:=x,y:=y},t2) (d.1.up - 1) y d.1.i x
 by_cases e:putE (d.1,t2) (d.1.up - 1) y d.1.i x=0
 ·rw[if_neg (fun q=>q (eE.trans e))]
  have a4:=a2.after e
  generalize putD ({d.1 with x:=x,y:=y},t2) (d.1.up - 1) y d.1.i x=d4 at *
  obtain ⟨s4,t4⟩:=d4
  simp only at e4 eD
  subst e4
  have hr:=a4
  generalize rput r2 (d.1.up - 1) y d.1.i x=r4 at *
  have f0:=hr.tb
  have f1:=hr.er
  have f2:=hr.ak
  have f3:r4.1.m=d.1.p:=by have:=hr.m;rw[putD_1] at this;exact this
  have f4:r4.1.i=d.1.i:=by have:=hr.i;rw[putD_1] at this;exact this
  have f5:r4.1.j=d.1.j:=by have:=hr.j;rw[putD_1] at this;exact this
  have f6:r4.1.p=d.1.pv:=by have:=hr.p;rw[putD_1] at this;exact this
  rw[←eD] at f0
  by_cases c:d.1.up - d.1.i≤d.1.i - d.1.lo
  ·rw[if_pos c,if_neg (by omega)]
   exact rfst_nrow _ _ _ _ r4 f0 f1 f2 f3 f4 f5 f6 rfl rfl rfl
  ·rw[if_neg c,if_pos (by omega)]
   exact rfst_nrow _ _ _ _ r4 f0 f1 f2 f3 f4 f5 f6 rfl rfl rfl
 ·rw[if_pos (fun q=>e (eE.symm.trans q))]
  have e2:=a2.put (d.1.up - 1) y d.1.i x
  rw[e2]
  have he:∀l,RB (endD (putD ({d.1 with x:=x,y:=y},t2) (d.1.up - 1) y d.1.i x) (putE ({d.1 with x:=x,y:=y},t2) (d.1.up - 1) y d.1.i x),endT (putE ({d.1 with x:=x,y:=y},t2) (d.1.up - 1) y d.1.i x)) (rfst l ({r2.1 with er:=putE (d.1,t2) (d.1.up - 1) y d.1.i x},(putD (d.1,t2) (d.1.up - 1) y d.1.i x).2)):=fun l=>by
   obtain ⟨q1,q2⟩:=rfst_err l ({r2.1 with er:=putE (d.1,t2) (d.1.up - 1) y d.1.i x},(putD (d.1,t2) (d.1.up - 1) y d.1.i x).2) e
   exact RB.bad (by rw[q2,eD]) q1 e
  split
  ·exact he _
  ·exact he _
theorem AL.ends {d:SD} {r:RD} (h:AL d r) (hy:r.1.y=d.1.y) (hl:d.1.lo<d.1.up) (less:Bool):RB (endsR d less) (ron1 r less d.1.lo d.1.up):=by
 unfold endsR ron1
 rw[hy,h.x]
 have hE:(if less=true then putE d d.1.lo d.1.y d.1.up d.1.x else 0)=0∧AL (if less=true then putD d d.1.lo d.1.y d.1.up d.1.x else d) (if less=true then rput r d.1.lo d.1.y d.1.up d.1.x else r)∧(if less=true then putD d d.1.lo d.1.y d.1.up d.1.x else d).1=d.1∨
  (if less=true then putE d d.1.lo d.1.y d.1.up d.1.x else 0)≠0∧(if less=true then rput r d.1.lo d.1.y d.1.up d.1.x else r).1.er=(if less=true then putE d d.1.lo d.1.y d.1.up d.1.x else 0)∧(if less=true then rput r d.1.lo d.1.y d.1.up d.1.x else r).2=(if less=true then putD d d.1.lo d.1.y d.1.up d.1.x else d).2:=by
  cases less with
  | false=>exact .inl ⟨rfl,h,rfl⟩
  | true=>
    by_cases e:putE d d.1.lo d.1.y d.1.up d.1.x=0
    ·exact .inl ⟨e,h.after e,putD_1 _ _ _ _ _⟩
    ·refine .inr ⟨e,?_,?_⟩
     ·show (rput _ _ _ _ _).1.er=_
      rw[h.put];rfl
     ·show (rput _ _ _ _ _).2=_
      rw[h.put];rfl
 generalize (if less=true then putE d d.1.lo d.1.y d.1.up d.1.x else 0)=e at *
 generalize (if less=true then putD d d.1.lo d.1.y d.1.up d.1.x else d)=d1 at *
 generalize (if less=true then rput r d.1.lo d.1.y d.1.up d.1.x else r)=r1 at *
 rcases hE with ⟨e0,a1,e1⟩ | ⟨e0,e1,e2⟩
 ·simp only[e0]
  rw[if_neg (fun q=>q rfl)]
  obtain ⟨s1,t1⟩:=d1
  simp only at e1
  subst e1
  by_cases c:d.1.up - d.1.lo=1
  ·rw[if_pos c,if_neg (fun q=>by omega)]
   exact a1.leave
  ·rw[if_neg c,if_pos ⟨a1.er,by omega⟩]
   have a2:AL ({d.1 with p:=d.1.lo+(d.1.up - d.1.lo) / 2},t1) ({r1.1 with m:=d.1.lo+(d.1.up - d.1.lo) / 2},r1.2):=⟨a1.tb,a1.er,a1.ak,a1.rows,rfl,a1.i,a1.j,a1.p,a1.x⟩
   obtain ⟨v1,a3⟩:=a2.got (d.1.lo+(d.1.up - d.1.lo) / 2)
   obtain ⟨v2,a4⟩:=a3.got d.1.lo
   simp only[v1]
   simp only[v2]
   exact ⟨a4.tb,.inr ⟨a4.er,rfl,rfl,⟨a4.tb,.inr ⟨by show (0:Int)≤2;omega,by show (2:Int)≤5;omega,a4.er,a4.rows,rfl,a4.m,a4.i,a4.j,a4.p,rfl,fun _=>rfl,fun _=>hl⟩⟩,by show (1:Int)≤2;omega,by show (2:Int)≤5;omega⟩⟩
 ·rw[if_pos e0,if_neg (fun q=>e0 (e1.symm.trans q.1))]
  unfold rdone
  obtain ⟨q1,q2⟩:=rfst_err r1.1.rows.tail r1 (by rw[e1];exact e0)
  exact RB.bad (q2.trans e2) (q1.trans e1) e0
theorem AL.low {d:SD} {r:RD} (h:AL d r) (hy:r.1.y=d.1.y) (hl:d.1.lo<d.1.up) (less:Bool):RB (lowR d less) (ron3 r less d.1.lo d.1.up):=by
 unfold lowR ron3
 cases less with
 | true=>
   rw[if_pos rfl,if_pos rfl,h.m,hy,h.x]
   by_cases e:putE d d.1.p d.1.y d.1.lo d.1.x=0
   ·simp only
    rw[if_neg (fun q=>q e)]
    have a1:=h.after e
    have e1:=putD_1 d d.1.p d.1.y d.1.lo d.1.x
    have:=a1.split (by rw[e1];exact hl)
    rw[e1] at this
    exact this
   ·simp only
    rw[if_pos e,h.put]
    unfold rpiv
    rw[if_pos e]
    exact RB.bad rfl rfl e
 | false=>
   rw[if_neg (by simp),if_neg (by simp)]
   obtain ⟨v1,a1⟩:=h.got d.1.up
   simp only[v1]
   exact ⟨a1.tb,.inr ⟨a1.er,rfl,by show askT _ _=askT _ (gtD r d.1.up).1.x;rw[a1.x];rfl,⟨a1.tb,.inr ⟨by show (0:Int)≤3;omega,by show (3:Int)≤5;omega,a1.er,a1.rows,rfl,a1.m,a1.i,a1.j,a1.p,a1.x,fun _=>rfl,fun _=>hl⟩⟩,by show (1:Int)≤3;omega,by show (3:Int)≤5;omega⟩⟩
theorem AL.high {d:SD} {r:RD} (h:AL d r) (hy:r.1.y=d.1.y) (hl:d.1.lo<d.1.up) (less:Bool):RB (highR d less) (ron4 r less d.1.lo d.1.up):=by
 unfold highR ron4
 cases less with
 | true=>
   rw[if_pos rfl,if_pos rfl,h.m,hy,h.x]
   by_cases e:putE d d.1.p d.1.y d.1.up d.1.x=0
   ·simp only
    rw[if_neg (fun q=>q e)]
    have a1:=h.after e
    have e1:=putD_1 d d.1.p d.1.y d.1.up d.1.x
    have:=a1.split (by rw[e1];exact hl)
    rw[e1] at this
    exact this
   ·simp only
    rw[if_pos e,h.put]
    unfold rpiv
    rw[if_pos e]
    exact RB.bad rfl rfl e
 | false=>
   rw[if_neg (by simp),if_neg (by simp)]
   exact h.split hl
theorem AL.rising {d:SD} {r:RD} (h:AL d r) (hl:d.1.lo<d.1.up) (less:Bool):RB (risingR d less) (ron6 r less d.1.up):=by
 unfold risingR ron6
 cases less with
 | true=>
   rw[if_pos rfl,if_neg (show ¬(true≠true) from fun q=>q rfl),h.i]
   by_cases c:d.1.i=d.1.up - 1
   ·rw[if_pos c,if_pos c]
    exact RB.bad h.tb rfl (by decide)
   ·rw[if_neg c,if_neg c]
    exact h.rise hl
 | false=>
   rw[if_neg (by simp),if_pos (by simp)]
   exact h.fall hl
theorem AL.falling {d:SD} {r:RD} (h:AL d r) (hy:r.1.y=d.1.y) (hl:d.1.lo<d.1.up) (less:Bool):RB (fallingR d less) (ron7 r less d.1.lo d.1.up):=by
 unfold fallingR ron7
 cases less with
 | true=>
   rw[if_pos rfl,h.i,h.j]
   by_cases c:d.1.j<d.1.i
   ·rw[if_pos c,if_pos ⟨rfl,c⟩]
    exact RB.bad h.tb rfl (by decide)
   ·rw[if_neg c,if_neg (fun q=>c q.2),if_pos rfl]
    exact h.fall hl
 | false=>
   rw[if_neg (show ¬(false=true) from fun q=>by cases q),if_neg (show ¬(false=true∧r.1.j<r.1.i) from fun q=>by cases q.1),if_neg (show ¬(false=true) from fun q=>by cases q)]
   by_cases c:d.1.j<d.1.i
   ·rw[if_pos c,if_neg (show ¬r.1.i≤r.1.j by rw[h.i,h.j];omega)]
    exact h.part
   ·rw[if_neg c,if_pos (show r.1.i≤r.1.j by rw[h.i,h.j];omega),h.i,h.j,hy,h.x]
    by_cases e:putE d d.1.i d.1.y d.1.j d.1.x=0
    ·simp only
     rw[if_neg (fun q=>q e)]
     have a1:=h.after e
     have e1:=putD_1 d d.1.i d.1.y d.1.j d.1.x
     exact a1.rise (by rw[e1];exact hl)
    ·simp only
     rw[if_pos e,h.put]
     unfold rup
     rw[if_neg e]
     exact RB.bad rfl rfl e
theorem RI.go {d:SD} {r:RD} (h:RI d r) (less:Bool):RI (goR d less).1 (rnx r less).1∧(rnx r less).2=(goR d less).2:=by
 rcases h.st with ⟨e6,el,ee⟩ | ⟨k0,k5,h1,h2,h3,h4,h5,h6,h7,h8,h9,h10⟩
 ·have eg:goR d less=(d,endT d.1.er):=by
   unfold goR
   rw[if_neg (by omega),if_neg (by omega),if_neg (by omega),if_neg (by omega),if_neg (by omega),if_pos e6]
  have er:rnx r less=(({r.1 with ak:=false,ln:=-1},r.2),(nil,nil,false,r.1.er)):=by
   unfold rnx
   simp only[el]
   rw[if_neg (show ¬(0:Int)≤-1 by omega),if_pos (.inr rfl)]
  rw[eg,er]
  exact ⟨⟨h.tb,.inl ⟨e6,rfl,ee⟩⟩,by show (nil,nil,false,r.1.er)=endT d.1.er;rw[ee];rfl⟩
 ·have al:AL d ({r.1 with ak:=false},r.2):=⟨h.tb,h1,rfl,h2,h4,h5,h6,h7,h8⟩
  have hrb:∀r0:RD,AL d r0→r0.1.ln=lnOf d.1.ak→(d.1.ak≠4→r0.1.y=d.1.y)→RB (goR d less) (ron r0 less):=fun r0 al f3 f9=>by
   have hd0:r0.1.rows.headD (0,0)=(d.1.lo,d.1.up):=by rw[al.rows];rfl
   unfold goR ron
   simp only[hd0]
   by_cases q0:d.1.ak=0
   ·have e:r0.1.ln=0:=by rw[f3,q0];rfl
    rw[if_pos e,if_neg (show ¬d.1.ak=1 by omega),if_neg (show ¬d.1.ak=2 by omega),if_neg (show ¬d.1.ak=3 by omega),if_neg (show ¬d.1.ak=4 by omega),if_neg (show ¬d.1.ak=5 by omega),if_neg (show ¬d.1.ak=6 by omega)]
    exact al.first
   ·have hl:=h10 (by omega)
    by_cases q1:d.1.ak=1
    ·have e:r0.1.ln=1:=by rw[f3,q1];rfl
     rw[if_pos q1,if_neg (show ¬r0.1.ln=0 by omega),if_pos e]
     exact al.ends (f9 (by omega)) hl less
    ·by_cases q2:d.1.ak=2
     ·have e:r0.1.ln=3:=by rw[f3,q2];rfl
      rw[if_neg (show ¬d.1.ak=1 by omega),if_pos q2,if_neg (show ¬r0.1.ln=0 by omega),if_neg (show ¬r0.1.ln=1 by omega),if_pos e]
      exact al.low (f9 (by omega)) hl less
     ·by_cases q3:d.1.ak=3
      ·have e:r0.1.ln=4:=by rw[f3,q3];rfl
       rw[if_neg (show ¬d.1.ak=1 by omega),if_neg (show ¬d.1.ak=2 by omega),if_pos q3,if_neg (show ¬r0.1.ln=0 by omega),if_neg (show ¬r0.1.ln=1 by omega),if_neg (show ¬r0.1.ln=3 by omega),if_pos e]
       exact al.high (f9 (by omega)) hl less
      ·by_cases q4:d.1.ak=4
       ·have e:r0.1.ln=6:=by rw[f3,q4];rfl
        rw[if_neg (show ¬d.1.ak=1 by omega),if_neg (show ¬d.1.ak=2 by omega),if_neg (show ¬d.1.ak=3 by omega),if_pos q4,if_neg (show ¬r0.1.ln=0 by omega),if_neg (show ¬r0.1.ln=1 by omega),if_neg (show ¬r0.1.ln=3 by omega),if_neg (show ¬r0.1.ln=4 by omega),if_pos e]
        exact al.rising hl less
       ·have q5:d.1.ak=5:=by omega
        have e:r0.1.ln=7:=by rw[f3,q5];rfl
        rw[if_neg (show ¬d.1.ak=1 by omega),if_neg (show ¬d.1.ak=2 by omega),if_neg (show ¬d.1.ak=3 by omega),if_neg (show ¬d.1.ak=4 by omega),if_pos q5,if_neg (show ¬r0.1.ln=0 by omega),if_neg (show ¬r0.1.ln=1 by omega),if_neg (show ¬r0.1.ln=3 by omega),if_neg (show ¬r0.1.ln=4 by omega),if_neg (show ¬r0.1.ln=6 by omega),if_pos e]
        exact al.falling (f9 (by omega)) hl less
  have hln:0≤r.1.ln:=by rw[h3];unfold lnOf;repeat (first | split | omega)
  unfold rnx
  simp only
  rw[if_pos hln]
  have hrb2:=hrb _ al h3 h9
  generalize ron ({r.1 with ak:=false},r.2) less=r1 at *
  obtain ⟨g1,g2⟩:=hrb2
  rcases g2 with ⟨z1,z2,z3⟩ | ⟨z1,z2,z3,z4,_⟩
  ·rw[if_pos z3]
   exact ⟨⟨g1,.inl ⟨by rw[z1];rfl,rfl,by rw[z1];rfl⟩⟩,by rw[z2];rfl⟩
  ·rw[if_neg (fun q=>q.elim (fun q=>q z1) (fun q=>by rw[z2] at q;cases q))]
   exact ⟨z4,z3.symm⟩
def rs0 (n:Int):Rst:=⟨[(1,n)],0,0,0,0,nil,nil,nil,0,nil,nil,false⟩
theorem RI.zero (n:Int) (t:TS×H.St):RI (U.s0 n,t) (rs0 n,t):=⟨rfl,.inr ⟨by show (0:Int)≤0;omega,by show (0:Int)≤5;omega,rfl,rfl,rfl,rfl,rfl,rfl,rfl,rfl,fun _=>rfl,fun z=>absurd z (by show ¬(1:Int)≤0;omega)⟩⟩
end Go.Proofs.YtkmopcanaalemabGreat


namespace Go.Proofs.YtkmopcanaalemabGreat
open Go.RowKit
def rcl (RT:Nat) (rv:Value) (s:Rst):Array Value:=
 #[.pointer (some ⟨RT,0,none⟩),rv,.int .i64 s.ln,.int .i64 s.m,.int .i64 s.i,.int .i64 s.j,.int .i64 s.p.1,.int .i64 s.p.2.1,.string s.p.2.2,.int .i64 s.x.1,.int .i64 s.x.2.1,.string s.x.2.2,.int .i64 s.y.1,.int .i64 s.y.2.1,.string s.y.2.2,.int .i64 s.er,.int .i64 s.a.1,.int .i64 s.a.2.1,.string s.a.2.2,.int .i64 s.b.1,.int .i64 s.b.2.1,.string s.b.2.2,.bool s.ak]
def slv (g:Nat):Value:=.slice (some ⟨g,0,none⟩) 2 2
def Rws (w:World):List Nat→List (Int×Int)→Prop
 | [],[]=>True
 | g::gs,r::l=>w.heap[g]?=some (.cells #[.int .i64 r.1,.int .i64 r.2] 3 (0,0))∧Rws w gs l
 | _,_=>False
theorem Rws.kept {w w':World}:∀{gs:List Nat} {l:List (Int×Int)},Rws w gs l→(∀g∈gs,g<w.heap.size→w'.heap[g]?=w.heap[g]?)→Rws w' gs l
 | [],[],_,_=>trivial
 | g::_,_::_,h,k=>⟨(k g (List.mem_cons_self ..) (Array.getElem?_eq_some_iff.1 h.1).1).trans h.1,Rws.kept h.2 (fun g hg=>k g (List.mem_cons_of_mem _ hg))⟩
theorem Rws.lt {w:World}:∀{gs:List Nat} {l:List (Int×Int)},Rws w gs l→∀g∈gs,g<w.heap.size
 | [],[],_,g,hg=>by cases hg
 | x::gs,r::l,h,g,hg=>by
   rcases List.mem_cons.1 hg with e | e
   ·rw[e];exact (Array.getElem?_eq_some_iff.1 h.1).1
   ·exact Rws.lt h.2 g e
theorem Rws.len {w:World}:∀{gs:List Nat} {l:List (Int×Int)},Rws w gs l→gs.length=l.length
 | [],[],_=>rfl
 | _::gs,_::l,h=>by simp[Rws.len h.2]
structure Ro (No:Nat→Prop) (w:World) (B RT G c:Nat) (rv:Value) (gs:List Nat) (r:RD):Prop where
 blk:w.heap[B]?=some (.cells (rcl RT rv r.1) 76 (0,0))
 ex:∃(N':Nat→Prop) (A P ka va ca:Nat) (cb:Nat→Nat),
  w.ownsRow 0 46 1 rv gs.length (gs.reverse.map slv)∧Rws w gs r.1.rows∧RQ N' w RT A P ka va ca cb G c r.2.1 r.2.2∧
  (∀g,No g→N' g)∧N' B∧(∀g,rv.ownBlock=some g→N' g)∧∀g∈gs,N' g∧g≠B∧rv.ownBlock≠some g∧¬No g
 nB:¬No B
 nW:∀g,rv.ownBlock=some g→¬No g
 rB:∀g,rv.ownBlock=some g→g≠B
section
variable {No:Nat→Prop} {w w' W:World} {B RT G c:Nat} {rv:Value} {gs:List Nat} {r:RD}
theorem Ro.lt (h:Ro No w B RT G c rv gs r):B<w.heap.size:=(Array.getElem?_eq_some_iff.1 h.blk).1
theorem Ro.nos (h:Ro No w B RT G c rv gs r):∀g,No g→g<w.heap.size:=by
 obtain ⟨N',A,P,ka,va,ca,cb,h1,h2,h3,h4,h5,h6,h7⟩:=h.ex
 exact fun g q=>h3.nos g (h4 g q)
theorem Ro.cell (h:Ro No w B RT G c rv gs r) {j:Nat} {v:Value} (hj:(rcl RT rv r.1)[j]?=some v):w.cell? ⟨B,j,none⟩=some v:=by
 simp only[World.cell?,h.blk]
 simpa using hj
theorem Ro.free (h:Ro No w B RT G c rv gs r) (j:Nat):w.frozen? ⟨B,j,none⟩=false:=by
 simp[World.frozen?,h.blk]
theorem Ro.more {c':Nat} (h:Ro No w B RT G c rv gs r) (hc:c≤c'):Ro No w B RT G c' rv gs r:=by
 obtain ⟨N',A,P,ka,va,ca,cb,h1,h2,h3,h4,h5,h6,h7⟩:=h.ex
 exact ⟨h.blk,⟨N',A,P,ka,va,ca,cb,h1,h2,h3.more hc,h4,h5,h6,h7⟩,h.nB,h.nW,h.rB⟩
theorem own_kept {base:Nat} {e:TypeId} {size n:Nat} {v:Value} {xs:List Value} (h:w.ownsRow base e size v n xs) (k:∀g,v.ownBlock=some g→g<w.heap.size→w'.heap[g]?=w.heap[g]?):w'.ownsRow base e size v n xs:=by
 refine ⟨h.1,?_⟩
 rcases h.2 with q | ⟨g,cap,cur,rfl,h2,h3,h4⟩
 ·exact .inl q
 ·exact .inr ⟨g,cap,cur,rfl,h2,by rw[k g rfl (Array.getElem?_eq_some_iff.1 h3).1];exact h3,h4⟩
theorem Ro.frame (h:Ro No w B RT G c rv gs r) (k:Keep (fun g=>¬No g) w w'):Ro (fun g=>No g∨(w.heap.size≤g∧g<w'.heap.size)) w' B RT G c rv gs r:=by
 obtain ⟨N',A,P,ka,va,ca,cb,h1,h2,h3,h4,h5,h6,h7⟩:=h.ex
 have hl:=h.lt
 refine ⟨(k.block B hl h.nB).trans h.blk,⟨_,A,P,ka,va,ca,cb,own_kept h1 (fun g q hg=>k.block g hg (h.nW g q)),h2.kept (fun g hg hs=>k.block g hs (h7 g hg).2.2.2),h3.frame (k.sub (fun g q z=>q (h4 g z))),fun g q=>q.imp (h4 g) id,.inl h5,fun g q=>.inl (h6 g q),fun g hg=>?_⟩,fun q=>?_,fun g q z=>?_,h.rB⟩
 ·obtain ⟨a1,a2,a3,a4⟩:=h7 g hg
  exact ⟨.inl a1,a2,a3,fun q=>q.elim a4 (fun z=>by have:=h2.lt g hg;omega)⟩
 ·exact q.elim h.nB (fun z=>by omega)
 ·exact z.elim (h.nW g q) (fun z=>by have:=(h1.lt g q).2;omega)
theorem Ro.sub {No':Nat→Prop} (h:Ro No w B RT G c rv gs r) (hn:∀g,No' g→No g):Ro No' w B RT G c rv gs r:=by
 obtain ⟨N',A,P,ka,va,ca,cb,h1,h2,h3,h4,h5,h6,h7⟩:=h.ex
 exact ⟨h.blk,⟨N',A,P,ka,va,ca,cb,h1,h2,h3,fun g q=>h4 g (hn g q),h5,h6,fun g hg=>⟨(h7 g hg).1,(h7 g hg).2.1,(h7 g hg).2.2.1,fun q=>(h7 g hg).2.2.2 (hn g q)⟩⟩,fun q=>h.nB (hn _ q),fun g q z=>h.nW g q (hn g z),h.rB⟩
theorem Ro.news (h:Ro No w B RT G c rv gs r) (k:Below w.heap.size w w'):Ro (fun g=>No g∨(w.heap.size≤g∧g<w'.heap.size)) w' B RT G c rv gs r:=h.frame (Keep.of k)
theorem Ro.below (h:Ro No w B RT G c rv gs r) (k:Below w.heap.size w w'):Ro No w' B RT G c rv gs r:=(h.news k).sub (fun _ q=>.inl q)
theorem Ro.to (h:Ro No w B RT G c rv gs r) (k:Keep (fun g=>g≠B∧g<w.heap.size) w W) (s':Rst) (hb':W.heap[B]?=some (.cells (rcl RT rv s') 76 (0,0))) (hw:s'.rows=r.1.rows):Ro No W B RT G c rv gs (s',r.2)∧Keep No w W:=by
 obtain ⟨N',A,P,ka,va,ca,cb,h1,h2,h3,h4,h5,h6,h7⟩:=h.ex
 have hl:=h.lt
 refine ⟨⟨hb',⟨N',A,P,ka,va,ca,cb,own_kept h1 (fun g q hg=>k.block g hg ⟨fun e=>?_,hg⟩),?_,(h3.frame ⟨k.os,k.tape,k.output,k.size,fun g hg q=>k.block g hg ⟨fun e=>q (e▸h5),hg⟩⟩).sub (fun g q=>.inl q),h4,h5,h6,h7⟩,h.nB,h.nW,h.rB⟩,⟨k.os,k.tape,k.output,k.size,fun g hg q=>k.block g hg ⟨fun e=>h.nB (e▸q),hg⟩⟩⟩
 ·exact h.rB g q e
 ·show Rws W gs s'.rows
  rw[hw]
  exact h2.kept (fun g hg hs=>k.block g hs ⟨(h7 g hg).2.1,hs⟩)
theorem Ro.call (h:Ro No w B RT G c rv gs r) {n:FuncId} {args:Array Value} {v:Value} {c':Nat} {u':TS} {s2:H.St}
 (hh:∀(N':Nat→Prop) (A P ka va ca:Nat) (cb:Nat→Nat),RQ N' w RT A P ka va ca cb G c r.2.1 r.2.2→Calls Tryz.prog n args w fun e w'=>e= .returned v∧(∃A' P' ka' va' ca' cb',RQ N' w' RT A' P' ka' va' ca' cb' G c' u' s2)∧Keep N' w w'):
 Calls Tryz.prog n args w fun e w'=>e= .returned v∧Ro No w' B RT G c' rv gs (r.1,u',s2)∧Keep No w w':=by
 obtain ⟨N',A,P,ka,va,ca,cb,h1,h2,h3,h4,h5,h6,h7⟩:=h.ex
 refine (hh N' A P ka va ca cb h3).mono fun e w' ⟨e1,⟨A',P',ka',va',ca',cb',q⟩,k⟩=>⟨e1,⟨(k.block B h.lt h5).trans h.blk,⟨N',A',P',ka',va',ca',cb',own_kept h1 (fun g z hg=>k.block g hg (h6 g z)),h2.kept (fun g hg hs=>k.block g hs (h7 g hg).1),q,h4,h5,h6,h7⟩,h.nB,h.nW,h.rB⟩,k.sub h4⟩
theorem Ro.gt (h:Ro No w B RT G c rv gs r) (hc:c≤700000) (n:Int) (h1:-9223372036854775808≤n) (h2:n≤9223372036854775807):
 Calls Tryz.prog 106 #[.pointer (some ⟨RT,0,none⟩),.agg #[.int .i64 2,.int .i64 n,.string ⟨#[]⟩]] w fun e w'=>e= .returned (.agg #[.int .i64 (gtV r n).1,.int .i64 (gtV r n).2.1,.string (gtV r n).2.2])∧Ro No w' B RT G (c+1) rv gs (gtD r n)∧Keep No w w':=
 h.call (u':={r.2.1 with pr:=r.2.1.pr+(prd r.2.1.p (kn n):Nat)}) (s2:=r.2.2) (fun _ _ _ _ _ _ _ q=>(rtget_any q hc (kn n) (rng_kn h1 h2)).mono fun _ _ ⟨e1,q1,q2⟩=>⟨e1,⟨_,_,_,_,_,_,q1⟩,q2⟩)
theorem Ro.st (h:Ro No w B RT G c rv gs r) (hc:c≤700000) (n:Int) (h1:-9223372036854775808≤n) (h2:n≤9223372036854775807) (v:V):
 Calls Tryz.prog 27 #[.pointer (some ⟨RT,0,none⟩),.agg #[.int .i64 2,.int .i64 n,.string ⟨#[]⟩],.agg #[.int .i64 v.1,.int .i64 v.2.1,.string v.2.2]] w fun e w'=>e= .returned (.int .i64 (tset r.2.1 r.2.2 (kn n) v).2.2)∧Ro No w' B RT G (c+7) rv gs (r.1,(tset r.2.1 r.2.2 (kn n) v).1,(tset r.2.1 r.2.2 (kn n) v).2.1)∧Keep No w w':=
 h.call (fun _ _ _ _ _ _ _ q=>rset_any q hc (kn n) v (rng_kn h1 h2))
end
structure Rk (N2:Nat→Prop) (W0 w:World) (B RT G c:Nat) (rv:Value) (gs:List Nat) (r:RD):Prop where
 so:Ro N2 w B RT G c rv gs r
 kp:Keep N2 W0 w
section
variable {N2:Nat→Prop} {W0 w w':World} {B RT G c:Nat} {rv:Value} {gs:List Nat} {r:RD}
theorem Rk.below (h:Rk N2 W0 w B RT G c rv gs r) (k:Below w.heap.size w w'):Rk N2 W0 w' B RT G c rv gs r:=⟨h.so.below k,h.kp.trans (Keep.of k)⟩
theorem Rk.drewN (h:Rk N2 W0 w B RT G c rv gs r) (n:Nat):Rk N2 W0 (w.drewN n) B RT G c rv gs r:=h.below (bdrewN w n)
theorem Rk.drew (h:Rk N2 W0 w B RT G c rv gs r):Rk N2 W0 w.drew B RT G c rv gs r:=h.below (bdrew1 w)
theorem Rk.cell (h:Rk N2 W0 w B RT G c rv gs r) {j:Nat} {v:Value} (hj:(rcl RT rv r.1)[j]?=some v):w.cell? ⟨B,j,none⟩=some v:=h.so.cell hj
theorem Rk.st3 (h:Rk N2 W0 w B RT G c rv gs r) (j:Nat) (x:V) (s':Rst) (hs:rcl RT rv s'=(((rcl RT rv r.1).setIfInBounds j (.int .i64 x.1)).setIfInBounds (j+1) (.int .i64 x.2.1)).setIfInBounds (j+2) (.string x.2.2)) (hw:s'.rows=r.1.rows):Rk N2 W0 (stX w B j x) B RT G c rv gs (s',r.2):=by
 have k:=stX_keep w B j x
 obtain ⟨q1,q2⟩:=h.so.to (k.sub (fun g q=>q.1)) s' ((stX_blk h.so.blk j x).trans (by rw[hs])) hw
 exact ⟨q1,h.kp.trans q2⟩
theorem Rk.st1 (h:Rk N2 W0 w B RT G c rv gs r) (j:Nat) (v:Value) (s':Rst) (hs:rcl RT rv s'=(rcl RT rv r.1).setIfInBounds j v) (hw:s'.rows=r.1.rows):Rk N2 W0 (w.setCell ⟨B,j,none⟩ v) B RT G c rv gs (s',r.2):=by
 have k:Keep (fun g=>g≠B) w (w.setCell ⟨B,j,none⟩ v):=(Keep.refl _ w).set (p:=⟨B,j,none⟩) (fun q=>q rfl) _
 obtain ⟨q1,q2⟩:=h.so.to (k.sub (fun g q=>q.1)) s' ((blk_set (j:=j) h.so.blk _).trans (by rw[hs])) hw
 exact ⟨q1,h.kp.trans q2⟩
end
def RP (No:Nat→Prop) (w:World) (B RT G c:Nat) (v:Value) (r:RD) (e:Ending) (w':World):Prop:=e= .returned v∧(∃rv' gs',Ro No w' B RT G c rv' gs' r)∧Keep No w w'
end Go.Proofs.YtkmopcanaalemabGreat


namespace Go.Proofs.YtkmopcanaalemabGreat
open Go.RowKit
theorem RQ.begin {No : Nat → Prop} {w : World} {RT A P ka va ca : Nat} {cb : Nat → Nat} {G c : Nat} {u : TS} {s : H.St} (h : RQ No w RT A P ka va ca cb G c u s) (n : Int) :
    Ro No (((w.alloc (.cells #[.int .i64 1,.int .i64 n] 3)).alloc (.cells #[.slice (some ⟨w.heap.size,0,none⟩) 2 2] 46)).alloc (.cells (rcl RT (.slice (some ⟨w.heap.size + 1,0,none⟩) 1 1) (rs0 n)) 76)) (w.heap.size + 2) RT G c (.slice (some ⟨w.heap.size + 1,0,none⟩) 1 1) [w.heap.size] (rs0 n,u,s) ∧
    Below w.heap.size w (((w.alloc (.cells #[.int .i64 1,.int .i64 n] 3)).alloc (.cells #[.slice (some ⟨w.heap.size,0,none⟩) 2 2] 46)).alloc (.cells (rcl RT (.slice (some ⟨w.heap.size + 1,0,none⟩) 1 1) (rs0 n)) 76)):=by
  obtain ⟨bx,hbx⟩ : ∃ x,(Obj.cells (rcl RT (.slice (some ⟨w.heap.size + 1,0,none⟩) 1 1) (rs0 n)) 76) = x:=⟨_,rfl⟩
  rw [hbx]
  obtain ⟨w1,hw1⟩ : ∃ x,w.alloc (.cells #[.int .i64 1,.int .i64 n] 3) = x:=⟨_,rfl⟩
  obtain ⟨w2,hw2⟩ : ∃ x,w1.alloc (.cells #[.slice (some ⟨w.heap.size,0,none⟩) 2 2] 46) = x:=⟨_,rfl⟩
  obtain ⟨w3,hw3⟩ : ∃ x,w2.alloc bx = x:=⟨_,rfl⟩
  have z1 : w1.heap.size = w.heap.size + 1:=by subst hw1;simp
  have z2 : w2.heap.size = w.heap.size + 2:=by subst hw2;simp [z1]
  have z3 : w3.heap.size = w.heap.size + 3:=by subst hw3;simp [z2]
  have g1 : w1.heap[w.heap.size]? = some (.cells #[.int .i64 1,.int .i64 n] 3 (0,0)):=by subst hw1;exact (MapKept.heap_alloc w _).1
  have g2 : w2.heap[w.heap.size + 1]? = some (.cells #[.slice (some ⟨w.heap.size,0,none⟩) 2 2] 46 (0,0)):=by
    have:=(MapKept.heap_alloc w1 (.cells #[.slice (some ⟨w.heap.size,0,none⟩) 2 2] 46)).1
    rw [hw2,z1] at this
    exact this
  have g3 : w3.heap[w.heap.size + 2]? = some bx:=by
    have:=(MapKept.heap_alloc w2 bx).1
    rw [hw3,z2] at this
    exact this
  have k12 : Keep (fun _=>True) w1 w2:=by subst hw2;exact Keep.of (b1 _ _)
  have k23 : Keep (fun _=>True) w2 w3:=by subst hw3;exact Keep.of (b1 _ _)
  have kk : Below w.heap.size w w3:=by
    subst hw3 hw2 hw1
    exact (b2 w _ _).alloc (by simp;omega) _
  rw [hw1,hw2,hw3]
  have h2:=h.news kk
  have hg0 : w3.heap[w.heap.size]? = some (.cells #[.int .i64 1,.int .i64 n] 3 (0,0)):=by
    rw [k23.block _ (by omega) trivial,k12.block _ (by omega) trivial]
    exact g1
  have hg1 : w3.heap[w.heap.size + 1]? = some (.cells #[.slice (some ⟨w.heap.size,0,none⟩) 2 2] 46 (0,0)):=by
    rw [k23.block _ (by omega) trivial]
    exact g2
  have hnos:=h.nos
  refine ⟨⟨by rw [g3,← hbx],⟨_,A,P,ka,va,ca,cb,⟨rfl,.inr ⟨w.heap.size + 1,1,_,rfl,Nat.zero_le _,hg1,Nat.le_refl _,by unfold maxLen;omega,rfl,rfl⟩⟩,⟨hg0,trivial⟩,h2,fun g q=>.inl q,.inr ⟨by omega,by omega⟩,fun g q=>?_,fun g q=>?_⟩,fun q=>?_,fun g q z=>?_,fun g q=>?_⟩,kk⟩
  · have e : w.heap.size + 1 = g:=by simpa [Value.ownBlock] using q
    exact .inr ⟨by omega,by omega⟩
  · have e : g = w.heap.size:=by simpa using q
    subst e
    refine ⟨.inr ⟨Nat.le_refl _,by omega⟩,by omega,fun e=>?_,fun q=>by have:=hnos _ q;omega⟩
    simp [Value.ownBlock] at e
  · have:=hnos _ q;omega
  · have e : w.heap.size + 1 = g:=by simpa [Value.ownBlock] using q
    have:=hnos _ z;omega
  · have e : w.heap.size + 1 = g:=by simpa [Value.ownBlock] using q
    omega
theorem rsnew_any {No : Nat → Prop} {w : World} {RT A P ka va ca : Nat} {cb : Nat → Nat} {G c : Nat} {u : TS} {s : H.St} (h : RQ No w RT A P ka va ca cb G c u s) (n : Int) :
    Calls Tryz.prog 11 #[.pointer (some ⟨RT,0,none⟩),.int .i64 n] w fun e w'=>e = .returned (.pointer (some ⟨w.heap.size + 2,0,none⟩)) ∧ Ro No w' (w.heap.size + 2) RT G c (.slice (some ⟨w.heap.size + 1,0,none⟩) 1 1) [w.heap.size] (rs0 n,u,s) ∧ Below w.heap.size w w':=by
  have HS : Hid (_ ∧ _):=h.begin n
  unfold rcl rs0 nil at HS
  clear h
  go_enter Tryz.func11,Tryz.ntmps11
  go_wp2
  go_ret
  exact ⟨rfl,HS.out⟩
end Go.Proofs.YtkmopcanaalemabGreat


namespace Go.Proofs.YtkmopcanaalemabGreat
open Go.RowKit
set_option maxRecDepth 20000 in
set_option maxHeartbeats 2000000 in
theorem rsget_any {No : Nat → Prop} {w : World} {B RT G c : Nat} {rv : Value} {gs : List Nat} {r : RD} (h : Ro No w B RT G c rv gs r) (hc : c ≤ 700000) (n : Int) (h1 : -9223372036854775808 ≤ n) (h2 : n ≤ 9223372036854775807) :
    Calls Tryz.prog 66 #[.pointer (some ⟨B,0,none⟩),.int .i64 n] w fun e w'=>e = .returned (.agg #[.int .i64 (gtV r n).1,.int .i64 (gtV r n).2.1,.string (gtV r n).2.2]) ∧ Ro No w' B RT G (c + 1) rv gs (gtD r n) ∧ Keep No w w':=by
  have B0:=b1 w (vb 0 0 ⟨#[]⟩)
  have R0:=R3.made w nil
  have s0:=h.news B0
  have z0 : (w.alloc (vb 0 0 ⟨#[]⟩)).heap.size = w.heap.size + 1:=by simp
  obtain ⟨W0,hW0⟩ : ∃ W0,w.alloc (vb 0 0 ⟨#[]⟩) = W0:=⟨_,rfl⟩
  have R0' : R3 W0 w.heap.size nil:=hW0 ▸ R0
  rw [hW0] at B0 s0 z0
  have hnos:=h.nos
  obtain ⟨N2,hN2⟩ : ∃ N2,(fun g=>No g ∨ (w.heap.size ≤ g ∧ g < W0.heap.size)) = N2:=⟨_,rfl⟩
  have HN : Hid ((∀ g,No g → N2 g) ∧ N2 w.heap.size ∧ (∀ g,No g → g ≠ w.heap.size)):=by
    subst hN2
    exact ⟨fun g q=>.inl q,.inr ⟨Nat.le_refl _,by omega⟩,fun g q=>by have:=hnos g q;omega⟩
  rw [hN2] at s0
  clear hN2
  have k0 : Rk N2 W0 W0 B RT G c rv gs r:=⟨s0,Keep.refl _ _⟩
  have HB0 : Hid (Below w.heap.size w W0):=B0
  have HR0 : Hid (R3 W0 w.heap.size nil):=R0'
  have c0 : W0.cell? ⟨B,0,none⟩ = some (.pointer (some ⟨RT,0,none⟩)):=k0.cell (j:=0) rfl
  have HK0 : Hid (Rk N2 W0 W0.drew B RT G c rv gs r):=k0.drew
  have hlt:=h.lt
  have HF : Hid (∀ w1,Rk N2 W0 w1 B RT G (c + 1) rv gs (gtD r n) → R3 w1 w.heap.size nil ∧ ∀ x,R3 (set3 w1 w.heap.size x) w.heap.size x ∧ Ro No (set3 w1 w.heap.size x) B RT G (c + 1) rv gs (gtD r n) ∧ Keep No w (set3 w1 w.heap.size x)):=fun w1 k1=>by
    have r1:=HR0.out.kept k1.kp HN.out.2.1
    have hsz:=k1.kp.size
    refine ⟨r1,fun x=>⟨r1.set x,?_,?_⟩⟩
    · have q:=(k1.so.frame (w':=set3 w1 w.heap.size x) ((Keep.refl _ w1).set3 (fun q=>q HN.out.2.1) x)).sub (No':=No) (fun g q=>.inl (HN.out.1 g q))
      exact q
    · exact ((Keep.of HB0.out).trans (k1.kp.sub HN.out.1)).set3 (fun q=>HN.out.2.2 _ q rfl) x
  have HI : Hid (∀ W : World,Calls Tryz.prog 17 #[.int .i64 n] W fun e w'=>e = .returned (.agg #[.int .i64 2,.int .i64 n,.string ⟨#[]⟩]) ∧ Below W.heap.size W w'):=fun W=>mkI n W
  obtain ⟨gv0,hgv⟩ : ∃ v,gtV r n = v:=⟨_,rfl⟩
  have HG : Hid (∀ W,Rk N2 W0 W B RT G c rv gs r → Calls Tryz.prog 106 #[.pointer (some ⟨RT,0,none⟩),.agg #[.int .i64 2,.int .i64 n,.string ⟨#[]⟩]] W fun e w'=>e = .returned (.agg #[.int .i64 gv0.1,.int .i64 gv0.2.1,.string gv0.2.2]) ∧ Rk N2 W0 w' B RT G (c + 1) rv gs (gtD r n)):=fun W z=>by
    have:=(z.so.gt hc n h1 h2)
    rw [hgv] at this
    exact this.mono fun e w' ⟨q1,q2,q3⟩=>⟨q1,q2,z.kp.trans q3⟩
  rw [hgv]
  unfold vb at hW0
  clear hgv s0 R0 R0' z0 h B0 k0 hnos
  go_enter Tryz.func66,Tryz.ntmps66
  go_wp2_with fail
  go_region_with (first
    | (go_at_call 17;refine (HI.out _).mono ?_;rintro e w1 ⟨rfl,hb1⟩;have HK1 : Hid (Rk N2 W0 w1 B RT G c rv gs r):=HK0.out.below hb1;have i0 : w1.cell? ⟨B,0,none⟩ = some (.pointer (some ⟨RT,0,none⟩)):=HK1.out.cell (j:=0) rfl;clear hb1)
    | (go_at_call 106;refine (HG.out w1 HK1.out).mono ?_;rintro e w2 ⟨rfl,k2⟩;obtain ⟨r1,hz⟩:=HF.out w2 k2;have HZ : Hid _:=hz gv0;have n0 : w2.cell? ⟨w.heap.size,0,none⟩ = some (.int .i64 0):=r1.bx.c0;have n1 : w2.cell? ⟨w.heap.size,1,none⟩ = some (.int .i64 0):=r1.bx.c1;have n2 : w2.cell? ⟨w.heap.size,2,none⟩ = some (.string ⟨#[]⟩):=r1.bx.c2;have nf:=r1.fz;clear k2 r1 hz))
  all_goals
    go_wp2_with fail
    have HZ2:=HZ.out
    unfold set3 at HZ2
    obtain ⟨W3,hW3⟩ : ∃ W3,((w2.setCell ⟨w.heap.size,0,none⟩ (.int .i64 gv0.1)).setCell ⟨w.heap.size,1,none⟩ (.int .i64 gv0.2.1)).setCell ⟨w.heap.size,2,none⟩ (.string gv0.2.2) = W3:=⟨_,rfl⟩
    rw [hW3] at HZ2 ⊢
    clear hW3
    have e0:=HZ2.1.bx.c0
    have e1:=HZ2.1.bx.c1
    have e2:=HZ2.1.bx.c2
    exact bodyPost_ret (v:=.agg #[.int .i64 gv0.1,.int .i64 gv0.2.1,.string gv0.2.2]) (by simp [results,Tryz.results66,go_sem,e0,e1,e2]) rfl ⟨rfl,HZ2.2.1,HZ2.2.2⟩
end Go.Proofs.YtkmopcanaalemabGreat


namespace Go.Proofs.YtkmopcanaalemabGreat
open Go.RowKit
def rwlen (w : World) (B : Nat) : Nat:=match w.cell? ⟨B,1,none⟩ with | some (.slice _ n _)=>n | _=>0
section
variable {No : Nat → Prop} {w w' W : World} {B RT G c : Nat} {rv : Value} {gs : List Nat} {r : RD}
theorem Ro.form (h : Ro No w B RT G c rv gs r) : ∃ (ad : Option Addr) (cap : Nat),rv = .slice ad r.1.rows.length cap:=by
  obtain ⟨N',A,P,ka,va,ca,cb,h1,h2,h3,h4,h5,h6,h7⟩:=h.ex
  have hl:=h2.len
  rcases h1.2 with ⟨e,e2⟩ | ⟨g,cap,cur,e,_⟩
  · exact ⟨none,0,by rw [e];congr 1;omega⟩
  · exact ⟨_,cap,by rw [e];congr 1⟩
theorem Ro.rwlen (h : Ro No w B RT G c rv gs r) : YtkmopcanaalemabGreat.rwlen w B = r.1.rows.length:=by
  obtain ⟨ad,cap,e⟩:=h.form
  have c3 : w.cell? ⟨B,1,none⟩ = some rv:=h.cell (j:=1) rfl
  unfold YtkmopcanaalemabGreat.rwlen
  rw [c3,e]
theorem gs_snoc (g : Nat) (gs : List Nat) : (g :: gs).reverse.map slv = gs.reverse.map slv ++ [slv g]:=by simp
theorem Ro.last (h : Ro No w B RT G c rv gs r) {q : Int × Int} {l : List (Int × Int)} (hw : r.1.rows = q :: l) :
    ∃ x cap g gs2,rv = .slice (some ⟨x,0,none⟩) (l.length + 1) cap ∧ gs = g :: gs2 ∧ x ≠ B ∧ l.length + 1 ≤ cap ∧ (cap : Int) ≤ 9223372036854775807 ∧ (∀ j,w.frozen? ⟨x,j,none⟩ = false) ∧ w.cell? ⟨x,l.length,none⟩ = some (.slice (some ⟨g,0,none⟩) 2 2) ∧ w.cell? ⟨g,0,none⟩ = some (.int .i64 q.1) ∧ w.cell? ⟨g,1,none⟩ = some (.int .i64 q.2) ∧
      (∀ W s',Keep (fun g=>g ≠ B ∧ g < w.heap.size) w W → W.heap[B]? = some (.cells (rcl RT (.slice (some ⟨x,0,none⟩) l.length cap) s') 76 (0,0)) → s'.rows = l → Ro No W B RT G c (.slice (some ⟨x,0,none⟩) l.length cap) gs2 (s',r.2) ∧ Keep No w W):=by
  obtain ⟨N',A,P,ka,va,ca,cb,h1,h2,h3,h4,h5,h6,h7⟩:=h.ex
  rw [hw] at h2
  cases gs with
  | nil=>exact h2.elim
  | cons g gs =>
    have hl:=h2.2.len
    have hrow:=h1
    rw [gs_snoc] at hrow
    simp only [List.length_cons] at hrow
    rw [hl] at hrow
    have hlen : (gs.reverse.map slv).length = l.length:=by simp [hl]
    rcases hrow.2 with ⟨_,h0⟩ | ⟨x,cap,cur,e,hg,hb,hn,hm,hs,ht⟩
    · omega
    · subst e
      have c0:=World.ownsRow.cellAt hrow l.length (by omega)
      rw [List.getElem?_append_right (by omega),hlen,Nat.sub_self] at c0
      have hgb:=h2.1
      refine ⟨x,cap,g,gs,rfl,rfl,h.rB x rfl,hn,?_,fun j=>hrow.frozenAt j,c0,?_,?_,fun W s' k bW ew=>?_⟩
      · unfold maxLen at hm;omega
      · simp only [World.cell?,hgb];rfl
      · simp only [World.cell?,hgb];rfl
      · have hlt:=(Array.getElem?_eq_some_iff.1 hb).1
        refine ⟨⟨bW,⟨N',A,P,ka,va,ca,cb,?_,?_,(h3.frame ⟨k.os,k.tape,k.output,k.size,fun y hy z=>k.block y hy ⟨fun e=>z (e ▸ h5),hy⟩⟩).sub (fun y z=>.inl z),h4,h5,h6,fun y hy=>h7 y (List.mem_cons_of_mem _ hy)⟩,h.nB,h.nW,h.rB⟩,⟨k.os,k.tape,k.output,k.size,fun y hy z=>k.block y hy ⟨fun e=>h.nB (e ▸ z),hy⟩⟩⟩
        · have hp:=ownsRow_pop (by rw [hlen];simp) hrow
          rw [hl]
          exact own_kept hp (fun y z hy=>k.block y hy ⟨fun e=>h.rB y z e,hy⟩)
        · show Rws W gs s'.rows
          rw [ew]
          exact h2.2.kept (fun y hy hs=>k.block y hs ⟨(h7 y (List.mem_cons_of_mem _ hy)).2.1,hs⟩)
theorem Ro.top (h : Ro No w B RT G c rv gs r) {q : Int × Int} {l : List (Int × Int)} (hw : r.1.rows = q :: l) {g : Nat} {gs2 : List Nat} (hg : gs = g :: gs2) : w.cell? ⟨g,0,none⟩ = some (.int .i64 q.1) ∧ w.cell? ⟨g,1,none⟩ = some (.int .i64 q.2):=by
  obtain ⟨N',A,P,ka,va,ca,cb,h1,h2,h3,h4,h5,h6,h7⟩:=h.ex
  rw [hw,hg] at h2
  have hgb:=h2.1
  exact ⟨by simp only [World.cell?,hgb];rfl,by simp only [World.cell?,hgb];rfl⟩
end
end Go.Proofs.YtkmopcanaalemabGreat
