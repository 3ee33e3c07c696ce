import Derived.Test.YtkjbgggghigapaaGreatCg03
import Derived.Maps.OwnSet
import Derived.Deep.AppendLies
import Derived.Laws.OwnMore
import Derived.Test.YtkjbgggghigapaaGreatCg01
import Derived.Lib.AppendStr
import Derived.Lib.UnsafeStr
import Derived.Deep.RegionLaw
import Derived.Laws.BytesArg
import Derived.BigRegion
namespace Go.Proofs.YtkjbgggghigapaaGreat
open Go.RowKit
abbrev In:=Int×Int×Int×Int
structure Gu where
 nm:Tx
 pa:Int
 sl:Int
 cs:List Vl
 cd:List In
structure Gs where
 us:List Gu
 be:Nat
 gl:List Tx
 pl:Int
 ln:Int
 cu:Nat
 lo:List Tx
 br:List Int
 gS:Nat
 gU:Nat
def Gs.code (s:Gs):List In:=(s.us[s.cu]?).elim [] Gu.cd
def Gs.cnst (s:Gs):List Vl:=(s.us[s.cu]?).elim [] Gu.cs
def Gs.nx (s:Gs):Int:=(s.code.length:Int)
def Gs.put (c:List In) (s:Gs):Gs:=(s.us[s.cu]?).elim s fun u=>{s with us:=s.us.set s.cu {u with cd:=c}}
def gad (op a b c:Int) (s:Gs):Gs:=s.put (s.code++[(op,a,b,c)])
def insA (x:Int) (i:In):In:=(i.1,x,i.2.2.1,i.2.2.2)
def insB (x:Int) (i:In):In:=(i.1,i.2.1,x,i.2.2.2)
def lnd (j:Int) (s:Gs):Gs:=s.put (s.code.modify j.toNat (insA s.nx))
def lnds:List Int→Gs→Gs
 | [],s=>s
 | j::r,s=>lnds r (lnd j s)
def lea (j:Int) (s:Gs):Gs:=s.put (s.code.modify j.toNat (insB s.nx))
def lst (t:Tx):Nat→List Tx→Int
 | _,[]=>0
 | i,x::r=>if lst t (i+1) r=0 then (if x=t then (i:Int)+1 else 0) else lst t (i+1) r
def fst (v:Vl):Nat→List Vl→Int
 | _,[]=>0
 | i,x::r=>if x=v then (i:Int)+1 else fst v (i+1) r
def nmG (t:Tx) (a b:Int) (s:Gs):Gs:=if 0<lst t 0 s.lo then gad a (lst t 0 s.lo) 0 0 s else gad b (lst t 0 s.gl) 0 0 s
def cst (v:Vl) (s:Gs):Gs:=gad 2 (fst v 0 s.cnst) 0 0 s
def brg:F→Gs→Gs
 | .nil,s=>s
 | .cons _ t _ _ _ r,s=>brg r {s with lo:=s.lo++[t]}
def nils:Nat→Gs→Gs
 | 0,s=>s
 | n+1,s=>nils n (gad 3 0 0 0 s)
def kdA (ks:F) (i:Nat):Int:=(ks.get? i).elim 0 fun x=>x.1
def kdK (ks:F) (i:Nat):F:=(ks.get? i).elim .nil fun x=>x.2.2.2.2
def libX (ks:F):Int:=(ks.get? 0).elim 0 fun x=>(ks.get? 1).elim 0 fun y=>if x.1=6∧y.1=5 then libN (x.2.1++[46]++y.2.1) else 0
def unN (t:Tx):Int:=if t=[110,111,116] then 1 else if t=[35] then 2 else 3
def biN (t:Tx):Int:=
 if t=[43] then 1 else if t=[45] then 2 else if t=[42] then 3 else if t=[47,47] then 4 else if t=[37] then 5 else if t=[46,46] then 6
 else if t=[61,61] then 7 else if t=[126,61] then 8 else if t=[60] then 9 else if t=[60,61] then 10 else if t=[62] then 11 else if t=[62,61] then 12 else 0
def parH (ks:F):Bool:=decide (ks.len≠0) && decide (kdA ks (ks.len - 1)=13) && decide (kdA (kdK ks (ks.len - 1)) 0=8)
def parA (ks:F):F:=if parH ks=true then ks.take (ks.len - 1) else ks
def parR (ks:F):F:=if parH ks=true then kdK ks (ks.len - 1) else .nil
def itm:F→Int
 | .nil=>0
 | .cons k _ _ _ _ r=>(if k=13 then 1 else 0)+itm r
inductive Jg
 | val
 | cal (r:Int)
 | blk
 | sta
abbrev Ndg:=Int→Tx→Int→Int→F→Gs→Gs
section
variable (nd:Jg→Ndg) (lf:Int→Int→Int)
def vls:F→Gs→Gs
 | .nil,s=>s
 | .cons k t n p ks r,s=>vls r (nd .val k t n p ks s)
def ndK (j:Jg) (ks:F) (i:Nat) (s:Gs):Gs:=(ks.get? i).elim s fun x=>nd j x.1 x.2.1 x.2.2.1 x.2.2.2.1 x.2.2.2.2 s
def opn (ks:F) (s:Gs):Gs:=if ks.len=0∨kdA ks (ks.len - 1)≠8 then vls nd ks s else ndK nd (.cal (-1)) ks (ks.len - 1) (vls nd (ks.take (ks.len - 1)) s)
def exa (n:Int) (ks:F) (s:Gs):Gs:=if (ks.len:Int)=n then vls nd ks s else if ks.len=0 then nils n.toNat s else gad 23 n 0 0 (opn nd ks (gad 22 0 0 0 s))
def idxG (ks:F) (s:Gs):Gs:=if 0<libX ks then gad 10 (libX ks) 0 0 s else gad 12 0 0 0 (vls nd ks s)
def calG (r:Int) (ks:F) (s:Gs):Gs:=gad 24 r 0 0 (opn nd (ks.drop 1) (gad 22 0 0 0 (ndK nd .val ks 0 s)))
def eit (op:Int) (ks:F) (s:Gs):Gs:=lnd (ndK nd .val ks 0 s).nx (ndK nd .val ks 1 (gad op 0 0 0 (ndK nd .val ks 0 s)))
def binG (t:Tx) (ks:F) (s:Gs):Gs:=if t=[97,110,100] then eit nd 20 ks s else if t=[111,114] then eit nd 21 ks s else gad 17 (biN t) 0 0 (vls nd ks s)
def flds:F→Int→Int→Gs→Gs×Int×Int
 | .nil,w,k,s=>(s,w,k)
 | .cons kk _ _ _ ks r,w,k,s=>if kk=14 then flds r w k (gad 27 w 0 0 (vls nd ks s)) else if w+1=50 then flds r 0 (k+(w+1)) (gad 28 (w+1) k 0 (vls nd ks s)) else flds r (w+1) k (vls nd ks s)
def bat (x:Gs×Int×Int):Gs×Int:=(if 0<x.2.1 then gad 28 x.2.1 x.2.2 0 x.1 else x.1,x.2.2+x.2.1)
def tabR (ks:F) (x:Gs×Int):Gs:=if (parR ks).len=0 then x.1 else gad 29 x.2 0 0 (opn nd (parR ks) (gad 22 0 0 0 x.1))
def tabG (ks:F) (s:Gs):Gs:=tabR nd ks (bat (flds nd (parA ks) 0 1 (gad 26 (itm (parA ks)) (((parA ks).len:Int) - itm (parA ks)) 0 s)))
def valG (k:Int) (t:Tx) (n:Int) (ks:F) (s:Gs):Gs:=
 if k=1 then gad 3 0 0 0 s
 else if k=2 then gad 4 0 0 0 s
 else if k=3 then gad 5 0 0 0 s
 else if k=4 then cst (2,n,[]) s
 else if k=5 then cst (3,0,t) s
 else if k=6 then nmG t 6 8 s
 else if k=7 then idxG nd ks s
 else if k=8 then calG nd 1 ks s
 else if k=9 then ndK nd .val ks 0 s
 else if k=10 then gad 16 (unN t) 0 0 (ndK nd .val ks 0 s)
 else if k=11 then binG nd t ks s
 else if k=12 then tabG nd ks s
 else s
def lin (p:Int) (s:Gs):Gs:={s with pl:=p,ln:=s.ln+lf s.pl p - 1}
def sts:F→Gs→Gs
 | .nil,s=>s
 | .cons k t n p ks r,s=>sts r (nd .sta k t n p ks (gad 1 (lin lf p s).ln 0 0 (lin lf p s)))
def blkG (ks:F) (s:Gs):Gs:={sts nd lf ks s with lo:=(sts nd lf ks s).lo.take s.lo.length}
def setL:Nat→Nat→Gs→Gs
 | 0,_,s=>s
 | c+1,b,s=>setL c b (gad 7 ((b:Int)+(c:Int)+1) 0 0 s)
def dclB (n:Int) (ks:F) (s:Gs):Gs:=setL ((brg (ks.take n.toNat) s).lo.length - s.lo.length) s.lo.length (brg (ks.take n.toNat) s)
def dcl (n:Int) (ks:F) (s:Gs):Gs:=dclB n ks (exa nd n (ks.drop n.toNat) s)
def tgs:F→Int→Gs→Gs×Int
 | .nil,b,s=>(s,b)
 | .cons k _ _ _ ks r,b,s=>if k=7 then tgs r (b+2) (vls nd ks s) else tgs r b s
def tg2 (N:Int):F→Int→Int→Gs→Gs
 | .nil,_,_,s=>s
 | .cons k t _ _ _ r,i,d,s=>if k=7 then tg2 N r (i+1) (d - 2) (gad 13 (d - 2) (N - 1 - i) 0 s) else tg2 N r (i+1) d (nmG t 7 9 (gad 14 (N - 1 - i) 0 0 s))
def asgB (n:Int) (ks:F) (x:Gs×Int):Gs:=gad 15 (n+x.2) 0 0 (tg2 n (ks.take n.toNat) 0 (n+x.2) (exa nd n (ks.drop n.toNat) x.1))
def asg (n:Int) (ks:F) (s:Gs):Gs:=asgB nd n ks (tgs nd (ks.take n.toNat) 0 s)
def chc:F→List Int→Gs→Gs
 | .nil,es,s=>lnds es s
 | .cons k t n p ks .nil,es,s=>lnds es (nd .blk k t n p ks s)
 | .cons k t n p ks (.cons k2 t2 n2 p2 ks2 r),es,s=>
   let s1:=nd .val k t n p ks s
   let s3:=nd .blk k2 t2 n2 p2 ks2 (gad 19 0 0 0 s1)
   if r.len=0 then chc r es (lnd s1.nx s3) else chc r (es++[s3.nx]) (lnd s1.nx (gad 18 0 0 0 s3))
def trn (ks:F) (i:Nat) (op a b:Int) (s:Gs):Gs:=
 let s1:=gad op a b 0 (ndK nd .blk ks i {s with br:=[]})
 {lnds s1.br s1 with br:=s.br}
def whl (ks:F) (s:Gs):Gs:=lnd (ndK nd .val ks 0 s).nx (trn nd ks 1 18 s.nx 0 (gad 34 0 0 0 (gad 19 0 0 0 (ndK nd .val ks 0 s))))
def brL (r:F) (s:Gs):Gs:=brg r {s with lo:=s.lo++[[],[],[]]}
def lpN (ks:F) (s:Gs):Gs:=
 let s1:=vls nd ((ks.take (ks.len - 1)).drop 1) s
 let s2:=brL (ks.take 1) (gad 30 ((s.lo.length:Int)+1) 0 (((ks.len:Int) - 2) - 2) s1)
 {lea s1.nx (trn nd ks (ks.len - 1) 31 ((s.lo.length:Int)+1) s2.nx s2) with lo:=(lea s1.nx (trn nd ks (ks.len - 1) 31 ((s.lo.length:Int)+1) s2.nx s2)).lo.take s.lo.length}
def lpH (f n:Int) (s:Gs):Gs:=gad 24 n 0 0 (gad 6 (f+2) 0 0 (gad 6 (f+1) 0 0 (gad 22 0 0 0 (gad 6 f 0 0 s))))
def lpL (n:Int) (ks:F) (s:Gs):Gs:=
 let f:=(s.lo.length:Int)+1
 let s1:=gad 32 f 0 0 (exa nd 3 ((ks.take (ks.len - 1)).drop n.toNat) s)
 let s2:=lpH f n s1
 let s3:=trn nd ks (ks.len - 1) 18 s1.nx 0 (brL (ks.take n.toNat) (gad 33 f 0 n s2))
 {lea s2.nx s3 with lo:=(lea s2.nx s3).lo.take s.lo.length}
def mkU (pr ks:F) (i:Nat) (s:Gs):Gs:=
 let s1:=ndK nd .blk ks i (brg pr {s with cu:=s.be,be:=s.be+1,lo:=[],br:=[]})
 {gad 25 0 0 0 (gad 22 0 0 0 s1) with cu:=s.cu,lo:=s.lo,br:=s.br}
def staG (k:Int) (t:Tx) (n:Int) (ks:F) (s:Gs):Gs:=
 if k=21 then dcl nd n ks s
 else if k=22 then asg nd n ks s
 else if k=23 then ndK nd (.cal 0) ks 0 s
 else if k=24 then chc nd ks [] s
 else if k=25 then whl nd ks s
 else if k=26 then lpN nd ks s
 else if k=27 then lpL nd n ks s
 else if k=28 then ndK nd .blk ks 0 s
 else if k=29 then {gad 18 0 0 0 s with br:=s.br++[s.nx]}
 else if k=30 then gad 25 0 0 0 (opn nd ks (gad 22 0 0 0 s))
 else if k=31 then mkU nd (ks.take n.toNat) ks n.toNat (gad 9 (lst t 0 s.gl) 0 0 (gad 11 (s.be:Int) 0 0 s))
 else s
end
def gn (lf:Int→Int→Int):Nat→Jg→Ndg
 | 0,_=>fun _ _ _ _ _ s=>s
 | N+1,.val=>fun k t n _ ks s=>valG (gn lf N) k t n ks s
 | N+1,.cal r=>fun _ _ _ _ ks s=>calG (gn lf N) r ks s
 | N+1,.blk=>fun _ _ _ _ ks s=>blkG (gn lf N) lf ks s
 | N+1,.sta=>fun k t n _ ks s=>staG (gn lf N) k t n ks s
end Go.Proofs.YtkjbgggghigapaaGreat


namespace Go.Proofs.YtkjbgggghigapaaGreat
open Go.RowKit
structure Kn (No:Nat→Prop) (W W':World):Prop where
 os:W'.os=W.os
 tape:W'.tape=W.tape
 output:W'.output=W.output
 size:W.heap.size≤W'.heap.size
 block:∀k,k<W.heap.size→No k→W'.heap[k]?=W.heap[k]?
theorem Kn.refl (No:Nat→Prop) (W:World):Kn No W W:=⟨rfl,rfl,rfl,Nat.le_refl _,fun _ _ _=>rfl⟩
theorem Kn.trans {No:Nat→Prop} {x y z:World} (h:Kn No x y) (k:Kn No y z):Kn No x z:=
 ⟨k.os.trans h.os,k.tape.trans h.tape,k.output.trans h.output,Nat.le_trans h.size k.size,fun i hi hn=>(k.block i (Nat.lt_of_lt_of_le hi h.size) hn).trans (h.block i hi hn)⟩
theorem Kn.mono {No No':Nat→Prop} {x y:World} (h:Kn No x y) (hs:∀k,k<x.heap.size→No' k→No k):Kn No' x y:=⟨h.os,h.tape,h.output,h.size,fun k hk hn=>h.block k hk (hs k hk hn)⟩
theorem Kn.of_below {No:Nat→Prop} {x y:World} (h:Below x.heap.size x y):Kn No x y:=⟨h.os,h.tape,h.output,h.size,fun k hk _=>h.block k hk⟩
theorem Kn.alloc {No:Nat→Prop} {a w:World} (h:Kn No a w) (o:Obj):Kn No a (w.alloc o):=h.trans (.of_below ((Below.refl _ w).alloc (Nat.le_refl _) o))
theorem Kn.drew {No:Nat→Prop} {a w:World} (h:Kn No a w):Kn No a w.drew:=⟨h.os,h.tape,h.output,h.size,h.block⟩
theorem Kn.setCell {No:Nat→Prop} {b o:Nat} {a w:World} (h:Kn No a w) (hb:¬No b) (u:Value):Kn No a (w.setCell ⟨b,o,none⟩ u):=
 h.trans ⟨rfl,rfl,rfl,by simp,fun k _ hk=>Below.heap_setCell w _ u k (fun e=>hb (by have e:k=b:=e;rw[←e];exact hk))⟩
theorem Bx.kn {X:Nat} {e:TypeId} {cur:Array Value} {w w':World} {No:Nat→Prop} (h:Bx X e cur w) (k:Kn No w w') (hX:No X):Bx X e cur w':=⟨(k.block X h.lt hX).trans h.blk⟩
theorem Rv.kn {No:Nat→Prop} {w w':World} {a:Option Addr} {r:F} (h:Rv w No a r) (k:Kn No w w'):Rv w' No a r:=h.keep k.size fun g hg hl=>k.block g hl hg
theorem KF.monoP {E:TypeId} {w:World} {P Q:Nat→Prop} {xs:List Value} {f:F} (h:KF E w P xs f) (hb:∀g,P g→Q g):KF E w Q xs f:=h.mono fun g hg _=>hb g hg
theorem Rv.mono {P Q:Nat→Prop} {w:World} {a:Option Addr} {r:F} (h:Rv w P a r) (hb:∀g,P g→Q g):Rv w Q a r:=by
 obtain ⟨xs,hk,hx⟩:=h.ex
 exact ⟨xs,hk.monoP hb,fun hne=>by obtain ⟨g,o,e,hP,r⟩:=hx hne;exact ⟨g,o,e,hb g hP,r⟩⟩
def strs (l:List Tx):List Value:=l.map fun t=>.string ⟨t.toArray⟩
def vcl (l:List Vl):List Value:=l.flatMap fun v=>[.int .i64 v.1,.int .i64 v.2.1,.string ⟨v.2.2.toArray⟩]
def fcl:List Fn→List Value→List Value
 | f::fs,v::vs=>.string ⟨f.nm.toArray⟩:: .int .i64 f.pl:: .int .i64 f.pa:: .int .i64 f.sl::v::fcl fs vs
 | _,_=>[]
theorem fcl_app:∀(fs:List Fn) (vs:List Value) (f:Fn) (v:Value),vs.length=fs.length→fcl (fs++[f]) (vs++[v])=fcl fs vs++[.string ⟨f.nm.toArray⟩,.int .i64 f.pl,.int .i64 f.pa,.int .i64 f.sl,v]
 | [],[],f,v,_=>rfl
 | [],_::_,_,_,h=>by simp at h
 | _::_,[],_,_,h=>by simp at h
 | g::fs,u::vs,f,v,h=>by
   show _::_::_::_::_::fcl (fs++[f]) (vs++[v])=_
   rw[fcl_app fs vs f v (by simpa using h)];rfl
theorem fcl_at:∀(fs:List Fn) (vs:List Value) (i:Nat) (f:Fn) (v:Value),fs[i]?=some f→vs[i]?=some v→
 (fcl fs vs)[i * 5]?=some (.string ⟨f.nm.toArray⟩)∧(fcl fs vs)[i * 5+1]?=some (.int .i64 f.pl)∧(fcl fs vs)[i * 5+2]?=some (.int .i64 f.pa)∧(fcl fs vs)[i * 5+3]?=some (.int .i64 f.sl)∧(fcl fs vs)[i * 5+4]?=some v
 | [],_,i,f,v,h,_=>by simp at h
 | _::_,[],i,f,v,_,h=>by simp at h
 | g::fs,u::vs,0,f,v,h,k=>by simp at h k;subst h k;exact ⟨rfl,rfl,rfl,rfl,rfl⟩
 | g::fs,u::vs,i+1,f,v,h,k=>by
   have:=fcl_at fs vs i f v (by simpa using h) (by simpa using k)
   simpa only[show (i+1) * 5=i * 5+5 by omega,show i * 5+5+1=i * 5+1+5 by omega,show i * 5+5+2=i * 5+2+5 by omega,show i * 5+5+3=i * 5+3+5 by omega,show i * 5+5+4=i * 5+4+5 by omega,fcl,List.getElem?_cons_succ] using this
theorem fcl_sl:∀(fs:List Fn) (vs:List Value) (i:Nat) (f:Fn) (m:Int),fs[i]?=some f→vs.length=fs.length→(fcl fs vs).set (i * 5+3) (.int .i64 m)=fcl (fs.set i {f with sl:=m}) vs
 | [],_,i,f,m,h,_=>by simp at h
 | _::_,[],i,f,v,_,h=>by simp at h
 | g::fs,u::vs,0,f,m,h,k=>by simp at h;subst h;rfl
 | g::fs,u::vs,i+1,f,m,h,k=>by
   have:=fcl_sl fs vs i f m (by simpa using h) (by simpa using k)
   rw[show (i+1) * 5+3=i * 5+3+5 by omega]
   simp only[fcl,List.set_cons_succ,this]
theorem fcl_cs:∀(fs:List Fn) (vs:List Value) (i:Nat) (f:Fn) (l:List Vl) (v:Value),fs[i]?=some f→vs.length=fs.length→(fcl fs vs).set (i * 5+4) v=fcl (fs.set i {f with cs:=l}) (vs.set i v)
 | [],_,i,f,l,v,h,_=>by simp at h
 | _::_,[],i,f,l,v,_,h=>by simp at h
 | g::fs,u::vs,0,f,l,v,h,k=>by simp at h;subst h;rfl
 | g::fs,u::vs,i+1,f,l,v,h,k=>by
   have:=fcl_cs fs vs i f l v (by simpa using h) (by simpa using k)
   rw[show (i+1) * 5+4=i * 5+4+5 by omega]
   simp only[fcl,List.set_cons_succ,this]
structure Ms (w:World) (m:Nat) (l:List Tx):Prop where
 ex:∃(D:DataW Unit) (n:Nat),w.ownsMap Tryz.prog 9 unitElem m n D∧n≤l.length∧∀t:Tx,Maps.has D (.string t)=l.contains t
theorem Ms.keep {w w':World} {m:Nat} {l:List Tx} (h:Ms w m l) (hb:w'.heap[m]?=w.heap[m]?):Ms w' m l:=by
 obtain ⟨D,n,⟨es,clock,h1,h2⟩,h3⟩:=h.ex
 exact ⟨D,n,⟨es,clock,hb.trans h1,h2⟩,h3⟩
theorem Ms.lt {w:World} {m:Nat} {l:List Tx} (h:Ms w m l):m<w.heap.size:=by
 obtain ⟨D,n,h1,_⟩:=h.ex
 exact h1.lt
structure Cx where
 vF:Value
 vG:Value
 vL:Value
 vA:Value
 m:Nat
 vs:List Value
 lab:Nat→Nat
def ccl (x:Cx) (s:Cs):Array Value:=#[x.vF,x.vG,.map (some x.m),.int .i64 (s.nu:Nat),x.vL,.int .i64 s.lp,x.vA,.int .i64 s.cd,.int .i64 s.ct]
structure CK (No:Nat→Prop) (b:Nat) (x:Cx) (s:Cs) (w:World):Prop where
 bx:Bx b 76 (ccl x s) w
 fr:w.ownsRow 0 43 5 x.vF s.fs.length (fcl s.fs x.vs)
 gr:w.ownsRow 0 9 1 x.vG s.gl.length (strs s.gl)
 lr:w.ownsRow 0 9 1 x.vL s.lo.length (strs s.lo)
 ar:w.ownsRow 0 9 1 x.vA s.ar.length (strs s.ar)
 mp:Ms w x.m s.gl
 cs:∀(i:Nat) (f:Fn) (v:Value),s.fs[i]?=some f→x.vs[i]?=some v→w.ownsRow 0 79 3 v f.cs.length (vcl f.cs)
 vl:x.vs.length=s.fs.length
 lb:x.lab b=1
 lF:∀g,x.vF.ownBlock=some g→x.lab g=2
 lG:∀g,x.vG.ownBlock=some g→x.lab g=3
 lL:∀g,x.vL.ownBlock=some g→x.lab g=4
 lA:∀g,x.vA.ownBlock=some g→No g
 lm:x.lab x.m=5
 lc:∀(i:Nat) (v:Value) (g:Nat),x.vs[i]?=some v→v.ownBlock=some g→x.lab g=6+i
 no:∀g,No g→g<w.heap.size∧x.lab g=0
 nu:s.nu<s.fs.length
section
variable {No:Nat→Prop} {b:Nat} {x:Cx} {s:Cs} {w w':World}
theorem CK.lt (h:CK No b x s w):b<w.heap.size:=h.bx.lt
theorem CK.nob (h:CK No b x s w):¬No b:=fun e=>by have:=(h.no b e).2;have:=h.lb;omega
structure Tr (x:Cx) (T:Nat→Prop) (w w':World):Prop where
 size:w.heap.size≤w'.heap.size
 block:∀g,g<w.heap.size→¬T (x.lab g)→w'.heap[g]?=w.heap[g]?
theorem CK.fr' (h:CK No b x s w) {T:Nat→Prop} (k:Tr x T w w') (hT:¬T 2):w'.ownsRow 0 43 5 x.vF s.fs.length (fcl s.fs x.vs):=own_keep h.fr fun g hg=>k.block g (h.fr.lt g hg).2 (by rw[h.lF g hg];exact hT)
theorem CK.gr' (h:CK No b x s w) {T:Nat→Prop} (k:Tr x T w w') (hT:¬T 3):w'.ownsRow 0 9 1 x.vG s.gl.length (strs s.gl):=own_keep h.gr fun g hg=>k.block g (h.gr.lt g hg).2 (by rw[h.lG g hg];exact hT)
theorem CK.lr' (h:CK No b x s w) {T:Nat→Prop} (k:Tr x T w w') (hT:¬T 4):w'.ownsRow 0 9 1 x.vL s.lo.length (strs s.lo):=own_keep h.lr fun g hg=>k.block g (h.lr.lt g hg).2 (by rw[h.lL g hg];exact hT)
theorem CK.ar' (h:CK No b x s w) {T:Nat→Prop} (k:Tr x T w w') (hT:¬T 0):w'.ownsRow 0 9 1 x.vA s.ar.length (strs s.ar):=own_keep h.ar fun g hg=>k.block g (h.ar.lt g hg).2 (by rw[(h.no g (h.lA g hg)).2];exact hT)
theorem CK.mp' (h:CK No b x s w) {T:Nat→Prop} (k:Tr x T w w') (hT:¬T 5):Ms w' x.m s.gl:=h.mp.keep (k.block _ h.mp.lt (by rw[h.lm];exact hT))
theorem CK.cs' (h:CK No b x s w) {T:Nat→Prop} (k:Tr x T w w') {i:Nat} (hT:¬T (6+i)) {f:Fn} {v:Value} (hf:s.fs[i]?=some f) (hv:x.vs[i]?=some v):w'.ownsRow 0 79 3 v f.cs.length (vcl f.cs):=
 own_keep (h.cs i f v hf hv) fun g hg=>k.block g ((h.cs i f v hf hv).lt g hg).2 (by rw[h.lc i v g hv hg];exact hT)
theorem CK.no' (h:CK No b x s w) (k:w.heap.size≤w'.heap.size):∀g,No g→g<w'.heap.size∧x.lab g=0:=fun g hg=>⟨Nat.lt_of_lt_of_le (h.no g hg).1 k,(h.no g hg).2⟩
theorem CK.bx' (h:CK No b x s w) {T:Nat→Prop} (k:Tr x T w w') (hT:¬T 1):Bx b 76 (ccl x s) w':=⟨(k.block b h.lt (by rw[h.lb];exact hT)).trans h.bx.blk⟩
theorem CK.tr (h:CK No b x s w) (k:Tr x (fun _=>False) w w'):CK No b x s w':=
 ⟨h.bx' k id,h.fr' k id,h.gr' k id,h.lr' k id,h.ar' k id,h.mp' k id,fun _ _ _ hf hv=>h.cs' k id hf hv,h.vl,h.lb,h.lF,h.lG,h.lL,h.lA,h.lm,h.lc,h.no' k.size,h.nu⟩
theorem CK.below (h:CK No b x s w) (k:Below w.heap.size w w'):CK No b x s w':=h.tr ⟨k.size,fun g hg _=>k.block g hg⟩
theorem CK.alloc (h:CK No b x s w) (o:Obj):CK No b x s (w.alloc o):=h.below ((Below.refl _ w).alloc (Nat.le_refl _) o)
theorem CK.drew (h:CK No b x s w):CK No b x s w.drew:=h.tr ⟨Nat.le_refl _,fun _ _ _=>rfl⟩
theorem CK.less {No':Nat→Prop} (h:CK No b x s w) (hs:∀g,No' g→No g) (hA:∀g,x.vA.ownBlock=some g→No' g):CK No' b x s w:=
 ⟨h.bx,h.fr,h.gr,h.lr,h.ar,h.mp,h.cs,h.vl,h.lb,h.lF,h.lG,h.lL,hA,h.lm,h.lc,fun g hg=>h.no g (hs g hg),h.nu⟩
theorem CK.more (h:CK No b x s w) {X:Nat} (hX:w.heap.size≤X) (h2:X<w'.heap.size) (k:Below w.heap.size w w'):CK (fun g=>No g∨g=X) b {x with lab:=fun g=>if g=X then 0 else x.lab g} s w':=by
 have h':=h.below k
 have e:∀g,g<w.heap.size→(if g=X then 0 else x.lab g)=x.lab g:=fun g hg=>if_neg (by omega)
 exact ⟨h'.bx,h'.fr,h'.gr,h'.lr,h'.ar,h'.mp,h'.cs,h.vl,(e b h.lt).trans h.lb,fun g hg=>(e g (h.fr.lt g hg).2).trans (h.lF g hg),fun g hg=>(e g (h.gr.lt g hg).2).trans (h.lG g hg),fun g hg=>(e g (h.lr.lt g hg).2).trans (h.lL g hg),fun g hg=>.inl (h.lA g hg),(e _ h.mp.lt).trans h.lm,
  fun i v g hv hg=>by
   obtain ⟨f,hf⟩:∃f,s.fs[i]?=some f:=by
    have:=(List.getElem?_eq_some_iff.1 hv).1
    rw[h.vl] at this
    exact ⟨_,List.getElem?_eq_getElem this⟩
   exact (e g ((h.cs i f v hf hv).lt g hg).2).trans (h.lc i v g hv hg),
  fun g hg=>hg.elim (fun hg=>⟨(h'.no g hg).1,(e g (h.no g hg).1).trans (h.no g hg).2⟩) (fun hg=>by subst hg;exact ⟨h2,if_pos rfl⟩),h.nu⟩
end
def Ck (No:Nat→Prop) (b:Nat) (s:Cs) (w:World):Prop:=∃x,CK No b x s w
def CP (No:Nat→Prop) (b:Nat) (W:World) (s:Cs) (e:Ending) (w':World):Prop:=e= .returned (.tuple #[])∧Ck No b s w'∧Kn No W w'
structure Cy (No:Nat→Prop) (b:Nat) (s:Cs) (W:World) (X:Nat) (cur:Array Value) (w:World):Prop where
 ck:Ck (fun g=>No g∨g=X) b s w
 kn:Kn No W w
 bx:Bx X 54 cur w
 xl:W.heap.size≤X
section
variable {No:Nat→Prop} {b:Nat} {x:Cx} {s s':Cs} {W w w':World} {X:Nat} {cur:Array Value}
theorem Ck.below (h:Ck No b s w) (k:Below w.heap.size w w'):Ck No b s w':=by obtain ⟨x,h⟩:=h;exact ⟨x,h.below k⟩
theorem Ck.alloc (h:Ck No b s w) (o:Obj):Ck No b s (w.alloc o):=by obtain ⟨x,h⟩:=h;exact ⟨x,h.alloc o⟩
theorem Ck.cy (h:Ck No b s w) (cur:Array Value):Cy No b s w w.heap.size cur (w.alloc (.cells cur 54)):=by
 obtain ⟨x,h⟩:=h
 exact ⟨⟨_,h.more (Nat.le_refl _) (by simp) ((Below.refl _ w).alloc (Nat.le_refl _) _)⟩,(Kn.refl _ _).alloc _,Bx.new _ _ _,Nat.le_refl _⟩
theorem Cy.step {e:Ending} (h:Cy No b s W X cur w) (hc:CP (fun g=>No g∨g=X) b w s' e w'):Cy No b s' W X cur w':=
 ⟨hc.2.1,h.kn.trans (hc.2.2.mono fun _ _ e=>.inl e),h.bx.kn hc.2.2 (.inr rfl),h.xl⟩
theorem Cy.below (h:Cy No b s W X cur w) (k:Below w.heap.size w w'):Cy No b s W X cur w':=⟨h.ck.below k,h.kn.trans (.of_below k),h.bx.below k,h.xl⟩
theorem Cy.alloc (h:Cy No b s W X cur w) (o:Obj):Cy No b s W X cur (w.alloc o):=h.below ((Below.refl _ w).alloc (Nat.le_refl _) o)
theorem Cy.out (h:Cy No b s W X cur w):CP No b W s (.returned (.tuple #[])) w:=by
 obtain ⟨x,hx⟩:=h.ck
 by_cases hq:∃g,x.vA.ownBlock=some g∧g=X
 ·obtain ⟨g,h1,rfl⟩:=hq
  rcases hx.ar.2 with ⟨e,_⟩ | ⟨g',cap,cu,e,_,h3,_⟩
  ·rw[e] at h1;simp[Value.ownBlock] at h1
  ·rw[e] at h1
   have e2:g'=g:=by simpa [Value.ownBlock] using h1
   rw[e2,h.bx.blk] at h3
   injection h3 with h3
   injection h3 with _ h4
   exact absurd h4 (by decide)
 ·exact ⟨rfl,⟨x,hx.less (fun g e=>.inl e) fun g hg=>(hx.lA g hg).elim id fun e=>absurd ⟨g,hg,e⟩ hq⟩,h.kn⟩
theorem Cy.rv {a:Option Addr} {r:F} (h:Cy No b s W X cur w) (hr:Rv W No a r):Rv w (fun g=>No g∨g=X) a r:=(hr.kn h.kn).mono fun _ e=>.inl e
end
end Go.Proofs.YtkjbgggghigapaaGreat


namespace Go.Proofs.YtkjbgggghigapaaGreat
open Go.RowKit
def LD (s:ByteArray) (p:Nat):List UInt8:=s.data.toList.drop p
theorem LD_len (s:ByteArray) (p:Nat):(LD s p).length=s.size - p:=by unfold LD;rw[List.length_drop,Array.length_toList];rfl
theorem ext_LD (s:ByteArray) (p n:Nat):(s.extract p (p+n)).data.toList=(LD s p).take n:=by unfold LD;simp
theorem ext_end (s:ByteArray) (p:Nat):(s.extract p s.size).data.toList=LD s p:=Lib.extract_to_end s p
theorem ext_size (s:ByteArray) (p q:Nat) (hs:s.size≤20000):(s.extract p q).size≤maxLen:=by rw[ByteArray.size_extract];unfold maxLen;omega
set_option maxHeartbeats 1000000 in
theorem name_bad (b B:Nat) (s:ByteArray) (ts:List Tok) (W:World) (h:SC b B s ts W) (p:Nat) (hp:p<s.size) (hs:s.size≤20000) (hn:40<spn inNm (LD s p)):
 Calls Tryz.prog 86 #[.pointer (some ⟨b,0,none⟩),.int .i64 p] W fun e W'=>e=refu 14 p∧Kp b B W W':=by
 have hsrc:=h.src
 have C1:=fun w=>span_any (s.extract p s.size) 116 inNm enters52 (fun r w hr=>inName_any r w hr) w (by have:=ext_size s p s.size hs;unfold maxLen at this;omega)
 rw[ext_end] at C1
 have hl:=spn_le inNm (LD s p)
 rw[LD_len] at hl
 obtain ⟨n,hnn⟩:∃n,spn inNm (LD s p)=n:=⟨_,rfl⟩
 rw[hnn] at C1 hn hl
 have hB:=h.lt.2
 clear hnn
 go_enter Tryz.func86,Tryz.ntmps86
 go_wp2_with (first | (go_at_call 83;refine (C1 _).mono ?_;rintro e w1 ⟨rfl,hb⟩) | (go_at_call 117;refine (refuse_any _ _ _).mono ?_;rintro e w' ⟨he,rfl⟩;unfold refu at he;subst he))
 exact ⟨rfl,rfl,Kp.of_below hb hB⟩
set_option maxHeartbeats 1000000 in
theorem name_ok (b B:Nat) (s:ByteArray) (ts:List Tok) (W:World) (h:SC b B s ts W) (p:Nat) (hp:p<s.size) (hs:s.size≤20000) (hts:ts.length≤p) (hn:¬40<spn inNm (LD s p)):
 Calls Tryz.prog 86 #[.pointer (some ⟨b,0,none⟩),.int .i64 p] W fun e W'=>e= .returned (.int .i64 ((p+spn inNm (LD s p):Nat):Int))∧
  SC b B s (ts++[⟨if wordB ((LD s p).take (spn inNm (LD s p))) then 2 else 1,(LD s p).take (spn inNm (LD s p)),0,p⟩]) W'∧Kp b B W W':=by
 have hsrc:=h.src
 have C1:=fun w=>span_any (s.extract p s.size) 116 inNm enters52 (fun r w hr=>inName_any r w hr) w (by have:=ext_size s p s.size hs;unfold maxLen at this;omega)
 rw[ext_end] at C1
 have hl:=spn_le inNm (LD s p)
 rw[LD_len] at hl
 obtain ⟨n,hnn⟩:∃n,spn inNm (LD s p)=n:=⟨_,rfl⟩
 rw[hnn] at C1 hn hl⊢
 have hB:=h.lt
 have C2:=fun w=>isWord_any (s.extract p (p+n)) w
 rw[ext_LD] at C2
 have C3:=fun k w (hw:SC b B s ts w)=>add_any b B s ts w hw k 0 p (p+n) (by omega) (by omega) hs (by omega)
 have et:(s.data.toList.drop p).take (p+n - p)=(LD s p).take n:=by unfold LD;congr 1;omega
 rw[et] at C3
 clear hnn et
 cases hw:wordB ((LD s p).take n)
 all_goals
  rw[hw] at C2
  go_enter Tryz.func86,Tryz.ntmps86
  go_wp2_with (first
   | (go_at_call 83;refine (C1 _).mono ?_;rintro e w1 ⟨rfl,hb⟩;have h1:=h.below hb;have hsrc1:=h1.src)
   | (go_at_call 118;refine (C2 _).mono ?_;rintro e w' ⟨rfl,rfl⟩)
   | (go_at_call 62;refine (C3 _ _ h1).mono ?_;rintro e w2 ⟨rfl,h2,k2⟩))
  go_ret
  exact ⟨rfl,h2,(Kp.of_below hb hB.2).trans k2⟩
set_option maxHeartbeats 1000000 in
theorem number_any (b B:Nat) (s:ByteArray) (ts:List Tok) (V:World) (h:SC b B s ts V) (p:Nat) (hp:p<s.size) (hs:s.size≤20000) (hts:ts.length≤p) (e0 v0:Int) (n:Nat) (hn:spn inNm (LD s p)=n) (he:W.parE ((LD s p).take n)=e0) (hv:W.parN ((LD s p).take n)=v0):
 Calls Tryz.prog 88 #[.pointer (some ⟨b,0,none⟩),.int .i64 p] V fun e W'=>(e0≠0→e=refu e0 p∧Kp b B V W')∧(e0=0→e= .returned (.int .i64 ((p+n:Nat):Int))∧SC b B s (ts++[⟨3,(LD s p).take n,v0,p⟩]) W'∧Kp b B V W'):=by
 have hsrc:=h.src
 have C1:=fun w=>span_any (s.extract p s.size) 116 inNm enters52 (fun r w hr=>inName_any r w hr) w (by have:=ext_size s p s.size hs;unfold maxLen at this;omega)
 rw[ext_end] at C1
 have hl:=spn_le inNm (LD s p)
 rw[LD_len] at hl
 rw[hn] at C1 hl
 have hB:=h.lt
 have C2:=fun w=>W.parse_any (s.extract p (p+n)) w (ext_size s p _ hs)
 rw[ext_LD,he,hv] at C2
 have C3:=fun w (hw:SC b B s ts w)=>add_any b B s ts w hw 3 v0 p (p+n) (by omega) (by omega) hs (by omega)
 have et:(s.data.toList.drop p).take (p+n - p)=(LD s p).take n:=by unfold LD;congr 1;omega
 rw[et] at C3
 clear hn et he hv
 by_cases hz:e0=0
 ·subst hz
  go_enter Tryz.func88,Tryz.ntmps88
  go_wp2_with (first
   | (go_at_call 83;refine (C1 _).mono ?_;rintro e w1 ⟨rfl,hb⟩;have h1:=h.below hb;have hsrc1:=h1.src)
   | (go_at_call 119;refine (C2 _).mono ?_;rintro e w' ⟨rfl,rfl⟩)
   | (go_at_call 62;refine (C3 _ h1).mono ?_;rintro e w2 ⟨rfl,h2,k2⟩))
  go_ret
  exact ⟨fun hc=>absurd rfl hc,fun _=>⟨rfl,h2,(Kp.of_below hb hB.2).trans k2⟩⟩
 ·have hz':(e0 !=0)=true:=by simpa using hz
  go_enter Tryz.func88,Tryz.ntmps88
  go_wp2_with (first
   | (go_at_call 83;refine (C1 _).mono ?_;rintro e w1 ⟨rfl,hb⟩;have h1:=h.below hb;have hsrc1:=h1.src)
   | (go_at_call 119;refine (C2 _).mono ?_;rintro e w' ⟨rfl,rfl⟩)
   | (go_at_call 117;refine (refuse_any _ _ _).mono ?_;rintro e w' ⟨he,rfl⟩;unfold refu at he;subst he))
  exact ⟨rfl,fun _=>⟨rfl,Kp.of_below hb hB.2⟩,fun hc=>absurd hc hz⟩
set_option maxHeartbeats 1000000 in
theorem sign_any (b B:Nat) (s:ByteArray) (ts:List Tok) (V:World) (h:SC b B s ts V) (p:Nat) (hp:p<s.size) (hs:s.size≤20000) (hts:ts.length≤p) (n:Nat) (hn:sgz (LD s p)=n):
 Calls Tryz.prog 90 #[.pointer (some ⟨b,0,none⟩),.int .i64 p] V fun e W'=>(n=0→e=refu 4 p∧Kp b B V W')∧(n≠0→e= .returned (.int .i64 ((p+n:Nat):Int))∧SC b B s (ts++[⟨5,(LD s p).take n,0,p⟩]) W'∧Kp b B V W'):=by
 have hsrc:=h.src
 have C1:=fun w=>signSize_any (s.extract p s.size) w (by rw[ByteArray.size_extract];omega) (by have:=ext_size s p s.size hs;unfold maxLen at this;omega)
 rw[ext_end,hn] at C1
 have hl:=(sgz_le (LD s p))
 rw[LD_len,hn] at hl
 have hB:=h.lt
 have C3:=fun w (hw:SC b B s ts w)=>add_any b B s ts w hw 5 0 p (p+n) (by omega) (by omega) hs (by omega)
 have et:(s.data.toList.drop p).take (p+n - p)=(LD s p).take n:=by unfold LD;congr 1;omega
 rw[et] at C3
 clear hn et
 by_cases hz:n=0
 ·subst hz
  go_enter Tryz.func90,Tryz.ntmps90
  go_wp2_with (first
   | (go_at_call 122;refine (C1 _).mono ?_;rintro e w' ⟨rfl,rfl⟩)
   | (go_at_call 117;refine (refuse_any _ _ _).mono ?_;rintro e w' ⟨he,rfl⟩;unfold refu at he;subst he))
  exact ⟨rfl,fun _=>⟨rfl,Kp.refl _ _ _⟩,fun hc=>absurd rfl hc⟩
 ·have hz':((n:Int)==0)=false:=by simpa using hz
  go_enter Tryz.func90,Tryz.ntmps90
  go_wp2_with (first
   | (go_at_call 122;refine (C1 _).mono ?_;rintro e w' ⟨rfl,rfl⟩)
   | (go_at_call 62;refine (C3 _ h).mono ?_;rintro e w2 ⟨rfl,h2,k2⟩))
  go_ret
  exact ⟨fun hc=>absurd hc hz,fun _=>⟨rfl,h2,k2⟩⟩
end Go.Proofs.YtkjbgggghigapaaGreat


namespace Go.Proofs.YtkjbgggghigapaaGreat
open Go.RowKit
theorem enc_bytes (r:Int) (h:encB r=true):Utf8.encode r=⟨((encL r.toNat).map UInt8.ofNat).toArray⟩:=by
 have:=encode_list r h
 rw[ByteArray.toList_eq] at this
 rw[←this]
theorem encL_len (r:Nat):1≤(encL r).length∧(encL r).length≤4∧(r=65533→(encL r).length=3):=by
 unfold encL
 repeat' split
 all_goals (simp;try omega)
theorem enc_size (r:Int) (h:encB r=true):(Utf8.encode r).size=(encL r.toNat).length:=by
 rw[enc_bytes r h];simp[ByteArray.size]
theorem encS_size (r:Int) (h:encB r=true):(encS r).size=(encL r.toNat).length:=by
 have he:encS r=Utf8.encode r:=by simp[encS,h]
 rw[he,enc_size r h]
end Go.Proofs.YtkjbgggghigapaaGreat


namespace Go.Proofs.YtkjbgggghigapaaGreat
open Go.RowKit
set_option maxRecDepth 20000 in
theorem conv_row {W:World} {base:Nat} {v:Value} {l:List UInt8} (h:W.ownsRow base 5 1 v l.length (Lib.byteCells l)):(convert 118 9 v).run Tryz.prog W= .ok (.string ⟨l.toArray⟩) W:=by
 rcases h.2 with ⟨rfl,h0⟩ | ⟨g,cap,cur,rfl,_,hg,hc1,_,hc3,htk⟩
 ·have :l=[]:=List.eq_nil_of_length_eq_zero h0
  subst this
  exact run_convert_bytes_nil W 118 5 Tryz.underlying118 Tryz.underlying5 0 0 9 Tryz.underlying9
 ·have hr:=run_convert_bytes_arg (P:=Tryz.prog) W 118 5 Tryz.underlying118 Tryz.underlying5 g 0 l.length cap (l.map fun b=>(b.toNat:Int)) (by simp) (fun i hi=>by
   have:=Lib.cells_of_row hg l.length i (.int .u8 (l[i]).toNat) (by rw[Nat.mul_one] at htk;rw[htk];simp[Lib.byteCells,hi])
   rw[Nat.zero_add]
   have e:(l.map fun b=>(b.toNat:Int)).getD i 0=(l[i]).toNat:=by simp[List.getD,hi]
   rw[e]
   by_cases hi0:i=0
   ·subst hi0;simpa [Addr.add] using this
   ·simpa [Addr.add,hi0] using this) 9 Tryz.underlying9
  rw[hr]
  congr 2
  unfold strOfNums
  rw[List.map_map]
  congr 2
  have :((fun n:Int=>UInt8.ofNat n.toNat)∘fun b:UInt8=>(b.toNat:Int))=id:=by funext b;simp
  rw[this,List.map_id]
set_option maxRecDepth 100000 in
set_option maxHeartbeats 3200000 in
theorem addString_any (b B B2:Nat) (s:ByteArray) (ts:List Tok) (V:World) (h:SC b B s ts V) (p:Nat) (v:Value) (l:List UInt8) (hv0:V.ownsRow B2 5 1 v l.length (Lib.byteCells l)) (hl:l.length≤1000000) (hn:ts.length≤20000):
 Calls Tryz.prog 120 #[.pointer (some ⟨b,0,none⟩),.int .i64 p,v] V fun e W'=>(10000<l.length→e=refu 14 p∧Kp b B V W')∧(¬10000<l.length→e= .returned (.tuple #[])∧SC b B s (ts++[⟨4,l,0,p⟩]) W'∧Kp b B V W'):=by
 obtain ⟨i0,hi0,hz0,hz1,hz2⟩:=info_parts Tryz.info114
 have hcv:=conv_row hv0
 have hcv2:=conv_row hv0.drew
 obtain ⟨av,cv,rfl⟩:=slice_shape hv0
 obtain ⟨v,hv,hown⟩:=h.tok
 obtain ⟨a0,c0,rfl⟩:=slice_shape hown
 have hsrc:=h.src
 have hfr:=h.free
 obtain ⟨hbB,hBW⟩:=h.lt
 have hlt:b<V.heap.size:=by omega
 have hne:some b≠(Value.slice a0 ts.length c0).ownBlock:=fun e=>by have:=(hown.lt b e.symm).1;omega
 have hrow:∀j,(Value.slice a0 ts.length c0).ownBlock=some j→B≤j:=fun j e=>(hown.lt j e).1
 have hsa:=fun o=>alloc_cell (W:=V) (b:=b) hlt hsrc o
 have hva:=fun o=>alloc_cell (W:=V) (b:=b) hlt hv o
 have hfa:=fun o=>alloc_frozen (W:=V) (b:=b) hlt hfr o
 by_cases hb:10000<l.length
 ·go_enter Tryz.func120,Tryz.ntmps120
  go_wp2_with (go_at_call 117;refine (refuse_any _ _ _).mono ?_;rintro e w' ⟨he,rfl⟩;unfold refu at he;subst he)
  exact ⟨rfl,fun _=>⟨rfl,Kp.refl _ _ _⟩,fun hc=>absurd hb hc⟩
 ·go_enter Tryz.func120,Tryz.ntmps120
  go_wp2_with fail
  go_region_law ((refine step_append_lies _ (by rfl) _ _ _ (by rfl) B 114 i0 _ 4 40 Tryz.underlying88 hi0 hz0 hz1 hz2 rfl (by omega) (.slice a0 ts.length c0) ts.length (cellsT ts) (by rfl) (by first | exact (hown.alloc _).drew | exact hown.alloc _) ⟨V.heap.size,0,none⟩ 1 1 [.int .i64 4,.string ⟨l.toArray⟩,.int .i64 0,.int .i64 p] (by rfl) (by rfl) (World.news_of_block (cs:=#[.int .i64 4,.string ⟨l.toArray⟩,.int .i64 0,.int .i64 p]) (t:=114) (fr:=(0,0)) (heap_alloc_new V _)) (by simp[Value.oneCell']) (by omega) (by unfold maxLen;omega) (by omega) (by simp;omega) (V.heap.size+1) (by simp) ?_;intro gg cap w2 hown1 hgrow hat hlt2;have hs2:w2.cell? ⟨b,0,none⟩=some (.string s):=(hgrow.cell_far ⟨b,0,none⟩ (by simp;omega) hne).trans (hsa _);have hv2:w2.cell? ⟨b,1,none⟩=some (.slice a0 ts.length c0):=(hgrow.cell_far ⟨b,1,none⟩ (by simp;omega) hne).trans (hva _);have hf2:w2.frozen? ⟨b,1,none⟩=false:=(hgrow.frozen_far ⟨b,1,none⟩ (by simp;omega) hne).trans (hfa _)))
  all_goals
   go_wp2
   go_end0
   have K2:Kp b B V w2:=(((Kp.refl b B V).alloc hBW _).drew).grown hgrow (by simp;omega) hrow
   exact ⟨fun hc=>absurd hc hb,fun _=>⟨rfl,h.added K2 hs2 hv2 hf2 (by simp) hown1⟩⟩
theorem encS_le (r:Int):(encS r).data.toList.length≤4:=by
 cases h:encB r
 ·simp[encS,h]
 ·rw[Array.length_toList]
  have:=encS_size r h
  have h2:=(encL_len r.toNat).2.1
  have h3:(encS r).data.size=(encS r).size:=rfl
  omega
theorem esc_le:∀l:List UInt8,(esc l).2≤11∧(esc l).1.length≤4
 | []=>by simp[esc]
 | c::u=>by
   simp only[esc]
   split
   ·simp
   split
   ·simp
   split
   ·simp
   split
   ·simp
   split
   ·unfold escX;split<;>simp
   split
   ·unfold escU
    split
    ·have:=hxs_len 8 (u.drop 1)
     exact ⟨by simp only;omega,encS_le _⟩
    ·simp
   ·unfold escD
    split
    ·simp
    ·have:=dgs_len 3 (c::u)
     exact ⟨by simp only;omega,by simp⟩
theorem esc_len4 (l:List UInt8):(esc l).1.length≤4:=(esc_le l).2
set_option maxHeartbeats 1000000 in
theorem escape_any (b:Nat) (s:ByteArray) (V:World) (hsrc:V.cell? ⟨b,0,none⟩=some (.string s)) (o p:Nat) (hp:p<s.size) (hs:s.size≤20000):
 Calls Tryz.prog 121 #[.pointer (some ⟨b,0,none⟩),.int .i64 o,.int .i64 p] V fun e W'=>Below V.heap.size V W'∧(LD s (p+1)=[]→e=refu 4 o)∧(LD s (p+1)≠[]→(esc (LD s (p+1))).2=0→e=refu 4 p)∧
  (LD s (p+1)≠[]→(esc (LD s (p+1))).2≠0→e= .returned (.tuple #[.string ⟨(esc (LD s (p+1))).1.toArray⟩,.int .i64 ((p+1+(esc (LD s (p+1))).2:Nat):Int)])):=by
 have hle:(esc (LD s (p+1))).2≤11:=(esc_le _).1
 cases hL:LD s (p+1) with
 | nil=>
   have he:(s.extract (p+1) s.size).toList.isEmpty=true:=by rw[ByteArray.toList_eq,ext_end,hL];rfl
   clear hL hle
   go_enter Tryz.func121,Tryz.ntmps121
   go_wp2_with (go_at_call 117;refine (refuse_any _ _ _).mono ?_;rintro e w' ⟨he,rfl⟩;unfold refu at he;subst he)
   exact ⟨rfl,Below.refl _ _,fun _=>rfl,fun hc=>absurd rfl hc,fun hc=>absurd rfl hc⟩
 | cons c u=>
   have he:(s.extract (p+1) s.size).toList.isEmpty=false:=by rw[ByteArray.toList_eq,ext_end,hL];rfl
   have C1:=fun w=>escaped_any (s.extract (p+1) s.size) c u w (ext_size _ _ _ hs) (by rw[ext_end,hL])
   rw[hL] at hle
   unfold ansE at C1
   obtain ⟨x,hx⟩:∃x,esc (c::u)=x:=⟨_,rfl⟩
   rw[hx] at C1 hle⊢
   obtain ⟨y,n⟩:=x
   simp only at C1 hle⊢
   clear hL hx
   by_cases hz:n=0
   ·subst hz
    go_enter Tryz.func121,Tryz.ntmps121
    go_wp2_with (first
     | (go_at_call 117;refine (refuse_any _ _ _).mono ?_;rintro e w' ⟨he,rfl⟩;unfold refu at he;subst he)
     | (go_at_call 138;refine (C1 _).mono ?_;rintro e w1 ⟨rfl,hb⟩))
    exact ⟨rfl,hb,fun hc=>(by cases hc),fun _ _=>rfl,fun _ hc=>absurd rfl hc⟩
   ·have hz':((n:Int)==0)=false:=by simpa using hz
    go_enter Tryz.func121,Tryz.ntmps121
    go_wp2_with (go_at_call 138;refine (C1 _).mono ?_;rintro e w1 ⟨rfl,hb⟩)
    go_ret2
    exact ⟨hb,fun hc=>(by cases hc),fun _ hc=>absurd hc hz,fun _ _=>ret_si' rfl (by omega)⟩
end Go.Proofs.YtkjbgggghigapaaGreat


namespace Go.Proofs.YtkjbgggghigapaaGreat
open Go.RowKit
theorem hxs_prefix (m:Nat) (l:List UInt8):l.take (hxs m l).length=hxs m l:=by
 unfold hxs
 rw[takeWhile_take,List.length_take]
 congr 1
 have:=(List.takeWhile_sublist (l:=l) (fun c:UInt8=>W.dgB c.toNat)).length_le
 omega
theorem dgs_prefix (m:Nat) (l:List UInt8):l.take (dgs m l).length=dgs m l:=by
 unfold dgs
 rw[takeWhile_take,List.length_take]
 congr 1
 have:=(List.takeWhile_sublist (l:=l) (fun c:UInt8=>decide (48≤(c.toNat:Int)∧(c.toNat:Int)≤57))).length_le
 omega
theorem hxs_length (m:Nat) (l:List UInt8):(hxs m l).length≤l.length:=by
 have:=congrArg List.length (hxs_prefix m l)
 rw[List.length_take] at this
 omega
theorem dgs_length (m:Nat) (l:List UInt8):(dgs m l).length≤l.length:=by
 have:=congrArg List.length (dgs_prefix m l)
 rw[List.length_take] at this
 omega
theorem hxs_asc (m:Nat) (l:List UInt8):∀x∈hxs m l,x.toNat<128:=fun x hx=>by
 have h:=List.all_eq_true.1 (hxs_all m l) x hx
 simp only[W.dgB,Bool.or_eq_true,decide_eq_true_eq] at h
 omega
theorem dgs_asc (m:Nat) (l:List UInt8):∀x∈dgs m l,x.toNat<128:=fun x hx=>by
 have h:=List.all_eq_true.1 (dgs_all m l) x hx
 simp only[decide_eq_true_eq] at h
 omega
theorem esc_take:∀l:List UInt8,(esc l).2≤l.length∧∀x∈l.take (esc l).2,x.toNat<128
 | []=>by simp[esc]
 | c::u=>by
   have one:∀n:Nat,c.toNat=n→n<128→(1≤(c::u).length∧∀x∈(c::u).take 1,x.toNat<128):=fun n h1 h2=>by
    refine ⟨by simp,fun x hx=>?_⟩
    simp at hx
    rw[hx,h1];exact h2
   simp only[esc]
   split
   ·rename_i h;exact one 110 h (by omega)
   split
   ·rename_i h;exact one 116 h (by omega)
   split
   ·rename_i h;exact one 114 h (by omega)
   split
   ·rename_i h
    rcases h with h | h | h
    ·exact one 92 h (by omega)
    ·exact one 34 h (by omega)
    ·exact one 39 h (by omega)
   split
   ·rename_i h
    unfold escX
    split
    ·rename_i h2
     have h3:=hxs_length 2 u
     have h4:=hxs_prefix 2 u
     rw[h2] at h4
     refine ⟨by simp;omega,fun x hx=>?_⟩
     simp only[List.take_succ_cons,List.mem_cons] at hx
     rcases hx with rfl | hx
     ·omega
     ·rw[h4] at hx;exact hxs_asc 2 u x hx
    ·simp
   split
   ·rename_i h
    unfold escU
    split
    ·rename_i h2
     obtain ⟨a1,_,_,a2⟩:=h2
     cases u with
     | nil=>exact absurd a1 (by decide)
     | cons d v=>
       simp only[List.headD_cons] at a1
       simp only[List.drop_succ_cons,List.drop_zero] at *
       rw[Nat.add_comm,List.drop_succ_cons] at a2
       have h4:=hxs_prefix 8 v
       have h3:(hxs 8 v).length<v.length:=by
        rcases Nat.lt_or_ge (hxs 8 v).length v.length with hl | hl
        ·exact hl
        ·rw[List.drop_of_length_le hl] at a2;exact absurd a2 (by decide)
       refine ⟨by simp;omega,fun x hx=>?_⟩
       simp only[List.take_succ_cons,List.mem_cons] at hx
       rcases hx with rfl | rfl | hx
       ·omega
       ·rw[a1];decide
       ·rw[List.take_succ_eq_append_getElem h3,h4,List.mem_append,List.mem_singleton] at hx
        rcases hx with hx | rfl
        ·exact hxs_asc 8 v x hx
        ·rw[List.drop_eq_getElem_cons h3] at a2
         simp only[List.headD_cons] at a2
         rw[a2];decide
    ·simp
   ·unfold escD
    split
    ·simp
    ·refine ⟨dgs_length 3 _,fun x hx=>?_⟩
     simp only at hx
     rw[dgs_prefix] at hx
     exact dgs_asc 3 _ x hx
theorem qt_pass (q:UInt8):∀(n:Nat) (l:List UInt8) (i:Nat) (acc:List UInt8),n≤l.length→(∀x∈l.take n,x.toNat≠10∧x≠q∧x.toNat≠92)→qt q l i acc=qt q (l.drop n) (i+n) (acc++l.take n)
 | 0,l,i,acc,_,_=>by simp
 | n+1,[],i,acc,h,_=>by simp at h
 | n+1,c::t,i,acc,h,hx=>by
   obtain ⟨h1,h2,h3⟩:=hx c (by simp)
   have ih:=qt_pass q n t (i+1) (acc++[c]) (by simpa using h) (fun x hm=>hx x (by simp[hm]))
   rw[qt,if_neg h1,if_neg h2,if_neg h3,ih]
   simp only[List.drop_succ_cons,List.take_succ_cons,List.append_assoc,List.cons_append,List.nil_append]
   congr 1
   omega
theorem qt_nil (q:UInt8) (i:Nat) (acc:List UInt8):qt q [] i acc= .bad 4 0:=by rw[qt]
theorem qt_nl (q c:UInt8) (t:List UInt8) (i:Nat) (acc:List UInt8) (h:c.toNat=10):qt q (c::t) i acc= .bad 4 0:=by rw[qt,if_pos h]
theorem qt_end (q c:UInt8) (t:List UInt8) (i:Nat) (acc:List UInt8) (h:c=q) (hq:q.toNat≠10):qt q (c::t) i acc=if 10000<acc.length then .bad 14 0 else .ok acc (i+1):=by
 rw[qt,if_neg (by rw[h];exact hq),if_pos h]
theorem qt_esc (q c:UInt8) (t:List UInt8) (i:Nat) (acc:List UInt8) (h:c.toNat=92) (hq:q.toNat≠92):
 qt q (c::t) i acc=if t=[] then .bad 4 0 else if (esc t).2=0 then .bad 4 i else qt q (t.drop (esc t).2) (i+1+(esc t).2) (acc++(esc t).1):=by
 have h2:¬c=q:=fun e=>hq (by rw[←e];exact h)
 rw[qt,if_neg (by omega),if_neg h2,if_pos h]
end Go.Proofs.YtkjbgggghigapaaGreat





namespace Go.Proofs.YtkjbgggghigapaaGreat.W
open Go.RowKit
theorem Tryz.info5:(Tryz.prog.info? 5).map (fun i=>(i.zero,i.size,i.bytes))=some (some (.int .u8 0),1,1):=by kernel_rfl
theorem slice_shape {w:World} {base:Nat} {e:TypeId} {size:Nat} {v:Value} {n:Nat} {xs:List Value} (h:w.ownsRow base e size v n xs):∃a c,v= .slice a n c:=by
 rcases h.2 with ⟨rfl,rfl⟩ | ⟨g,cap,cur,rfl,_⟩
 ·exact ⟨_,_,rfl⟩
 ·exact ⟨_,_,rfl⟩
end Go.Proofs.YtkjbgggghigapaaGreat.W


namespace Go.Proofs.YtkjbgggghigapaaGreat
open Go.RowKit
theorem LD_cons (s:ByteArray) (p:Nat) (h:p<s.size):∃c,LD s p=c::LD s (p+1):=by
 have hl:p<s.data.toList.length:=by rw[Array.length_toList];exact h
 exact ⟨s.data.toList[p],by unfold LD;rw[List.drop_eq_getElem_cons hl]⟩
theorem LD_drop (s:ByteArray) (p n:Nat):(LD s p).drop n=LD s (p+n):=by unfold LD;rw[List.drop_drop]
theorem LD_nil (s:ByteArray) (p:Nat) (h:¬p<s.size):LD s p=[]:=by unfold LD;rw[List.drop_of_length_le];rw[Array.length_toList];show s.size≤p;omega
theorem LD_ne (s:ByteArray) (p:Nat) (h:p<s.size):LD s p≠[]:=drop_ne s p h
structure QI (s:ByteArray) (o pos T:Nat) (q:UInt8) (acc:List UInt8) (R:QR):Prop where
 t1:o+1≤T
 t2:T≤s.size
 asc:∀i c,o+1+pos≤i→i<T→(LD s i).head?=some c→c.toNat<128
 eq:∀a,a=max T (o+1+pos)→qt q (LD s a) (a - o) (acc++(LD s T).take (a - T))=R
 len:acc.length≤4 * T
theorem QI.start (s:ByteArray) (o:Nat) (h:o<s.size) (q:UInt8):QI s o 0 (o+1) q [] (qt q (LD s (o+1)) 1 []) where
 t1:=Nat.le_refl _
 t2:=h
 asc i c h1 h2:=by omega
 eq a ha:=by
  have :a=o+1:=by omega
  subst this
  have e1:o+1 - o=1:=by omega
  simp[e1]
 len:=by simp
theorem QI.skip {s:ByteArray} {o pos T:Nat} {q:UInt8} {acc:List UInt8} {R:QR} (h:QI s o pos T q acc R) (ha:o+1+pos<T):wd s (o+1+pos)=1∧QI s o (pos+1) T q acc R:=by
 have hsz:=h.t2
 obtain ⟨c,hc⟩:=LD_cons s (o+1+pos) (by omega)
 have h1:=h.asc (o+1+pos) c (Nat.le_refl _) ha (by rw[hc];rfl)
 refine ⟨?_,h.t1,h.t2,fun i c h1 h2=>h.asc i c (by omega) h2,fun a he=>h.eq a (by omega),h.len⟩
 rw[wd_drop]
 show wdL (LD s (o+1+pos))=1
 rw[hc]
 exact (Go.Proofs.YtkjbgggghigapaaGreat.asc c _ h1).2
theorem rn_head (s:ByteArray) (a:Nat) (c:UInt8) (t:List UInt8) (hc:LD s a=c::t) (n:Nat) (hn:n<128) (h:rn s a=n):c.toNat=n:=by
 rw[rn_drop] at h
 have h':rnL (LD s a)=n:=h
 rw[hc] at h'
 have:=rn_lt c t (by omega)
 omega
theorem QI.pass {s:ByteArray} {o pos T:Nat} {q:UInt8} {acc:List UInt8} {R:QR} (h:QI s o pos T q acc R) (a:Nat) (haa:a=o+1+pos) (ha:T≤a) (hl:a<s.size) (hq:q.toNat<128)
 (h10:rn s a≠10) (hqq:rn s a≠q.toNat) (h92:rn s a≠92):QI s o (pos+wd s a) T q acc R:=by
 have hwl:=wd_le s a hl
 have hwp:=wd_pos s a
 refine ⟨h.t1,h.t2,fun i c h1 h2=>by omega,fun x hx=>?_,h.len⟩
 have hx':x=a+wd s a:=by omega
 subst hx'
 rw[←h.eq a (by omega)]
 obtain ⟨c,hc⟩:=LD_cons s a hl
 have hn1:rn s a=rnL (LD s a):=rn_drop s a
 have hw1:wd s a=wdL (LD s a):=wd_drop s a
 have hb:∀x∈(LD s a).take (wd s a),x.toNat≠10∧x≠q∧x.toNat≠92:=by
  intro x hx
  rw[hw1] at hx
  rcases Nat.lt_or_ge c.toNat 128 with h1 | h1
  ·have h2:=Go.Proofs.YtkjbgggghigapaaGreat.asc c (LD s (a+1)) h1
   rw[←hc] at h2
   rw[h2.2,hc] at hx
   simp at hx
   subst hx
   rw[hn1,h2.1] at h10 hqq h92
   exact ⟨h10,fun e=>hqq (by rw[e]),h92⟩
  ·have h2:=hi_bytes c (LD s (a+1)) h1
   rw[←hc] at h2
   have:=h2 x hx
   exact ⟨by omega,fun e=>by rw[e] at this;omega,by omega⟩
 have hlen:(LD s a).length=s.size - a:=LD_len s a
 rw[qt_pass q (wd s a) (LD s a) (a - o) _ (by omega) hb,LD_drop]
 have e1:a - o+wd s a=a+wd s a - o:=by have:=h.t1;omega
 rw[e1,List.append_assoc]
 congr 2
 have e2:a+wd s a - T=(a - T)+wd s a:=by omega
 rw[e2,List.take_add,LD_drop]
 congr 3
 omega
theorem QI.at {s:ByteArray} {o pos T:Nat} {q:UInt8} {acc:List UInt8} {R:QR} (h:QI s o pos T q acc R) (a:Nat) (haa:a=o+1+pos) (ha:T≤a):qt q (LD s a) (a - o) (acc++(LD s T).take (a - T))=R:=h.eq a (by omega)
theorem QI.close {s:ByteArray} {o pos T:Nat} {q:UInt8} {acc:List UInt8} {R:QR} (h:QI s o pos T q acc R) (a:Nat) (haa:a=o+1+pos) (ha:T≤a) (hl:a<s.size) (hq:q.toNat=39∨q.toNat=34) (hr:rn s a=q.toNat):
 R=if 10000<(acc++(LD s T).take (a - T)).length then .bad 14 0 else .ok (acc++(LD s T).take (a - T)) (a - o+1):=by
 obtain ⟨c,hc⟩:=LD_cons s a hl
 have h1:=rn_head s a c _ hc q.toNat (by omega) hr
 rw[←h.at a haa ha,hc,qt_end q c _ _ _ (UInt8.toNat_inj.1 h1) (by omega)]
theorem QI.nl {s:ByteArray} {o pos T:Nat} {q:UInt8} {acc:List UInt8} {R:QR} (h:QI s o pos T q acc R) (a:Nat) (haa:a=o+1+pos) (ha:T≤a) (hl:a<s.size) (hr:rn s a=10):R= .bad 4 0:=by
 obtain ⟨c,hc⟩:=LD_cons s a hl
 rw[←h.at a haa ha,hc,qt_nl q c _ _ _ (rn_head s a c _ hc 10 (by omega) hr)]
theorem QI.end {s:ByteArray} {o pos T:Nat} {q:UInt8} {acc:List UInt8} {R:QR} (h:QI s o pos T q acc R) (hl:¬o+1+pos<s.size):R= .bad 4 0:=by
 have:=h.t2
 rw[←h.at (o+1+pos) rfl (by omega),LD_nil s _ hl,qt_nil]
theorem QI.esc {s:ByteArray} {o pos T:Nat} {q:UInt8} {acc:List UInt8} {R:QR} (h:QI s o pos T q acc R) (a:Nat) (haa:a=o+1+pos) (ha:T≤a) (hl:a<s.size) (hq:q.toNat=39∨q.toNat=34) (hr:rn s a=92):
 wd s a=1∧(LD s (a+1)=[]→R= .bad 4 0)∧(LD s (a+1)≠[]→(esc (LD s (a+1))).2=0→R= .bad 4 (a - o))∧
  (LD s (a+1)≠[]→(esc (LD s (a+1))).2≠0→QI s o (pos+1) (a+1+(esc (LD s (a+1))).2) q (acc++(LD s T).take (a - T)++(esc (LD s (a+1))).1) R):=by
 obtain ⟨c,hc⟩:=LD_cons s a hl
 have h1:=rn_head s a c _ hc 92 (by omega) hr
 have hR:=h.at a haa ha
 rw[hc,qt_esc q c _ _ _ h1 (by omega)] at hR
 have hw:wd s a=1:=by
  rw[wd_drop]
  show wdL (LD s a)=1
  rw[hc];exact (Go.Proofs.YtkjbgggghigapaaGreat.asc c _ (by omega)).2
 refine ⟨hw,fun e=>?_,fun e1 e2=>?_,fun e1 e2=>?_⟩
 ·rw[if_pos e] at hR;exact hR.symm
 ·rw[if_neg e1,if_pos e2] at hR;exact hR.symm
 ·rw[if_neg e1,if_neg e2] at hR
  obtain ⟨k1,k2⟩:=esc_take (LD s (a+1))
  rw[LD_len] at k1
  have hlen:(acc++(LD s T).take (a - T)++(Go.Proofs.YtkjbgggghigapaaGreat.esc (LD s (a+1))).1).length≤4 * (a+1+(Go.Proofs.YtkjbgggghigapaaGreat.esc (LD s (a+1))).2):=by
   have:=h.len
   have h5:=esc_len4 (LD s (a+1))
   simp only[List.length_append,List.length_take,LD_len]
   omega
  have ht:=h.t1
  refine ⟨by omega,by omega,fun i d h1 h2 h3=>?_,fun x hx=>?_,hlen⟩
  ·have h4:(LD s (a+1)).drop (i - (a+1))=LD s i:=by rw[LD_drop];congr 1;omega
   apply k2
   have h6:d∈((LD s (a+1)).take (Go.Proofs.YtkjbgggghigapaaGreat.esc (LD s (a+1))).2).drop (i - (a+1)):=by
    rw[List.drop_take,h4]
    cases hL:LD s i with
    | nil=>rw[hL] at h3;cases h3
    | cons y z=>
      rw[hL] at h3
      have :y=d:=by simpa using h3
      subst this
      obtain ⟨m,hm⟩:∃m,(Go.Proofs.YtkjbgggghigapaaGreat.esc (LD s (a+1))).2 - (i - (a+1))=m+1:=⟨(Go.Proofs.YtkjbgggghigapaaGreat.esc (LD s (a+1))).2 - (i - (a+1)) - 1,by omega⟩
      rw[hm];simp
   exact List.mem_of_mem_drop h6
  ·have hx':x=a+1+(Go.Proofs.YtkjbgggghigapaaGreat.esc (LD s (a+1))).2:=by omega
   subst hx'
   rw[LD_drop] at hR
   rw[←hR]
   have e3:a+1+(Go.Proofs.YtkjbgggghigapaaGreat.esc (LD s (a+1))).2 - o=a - o+1+(Go.Proofs.YtkjbgggghigapaaGreat.esc (LD s (a+1))).2:=by omega
   rw[e3]
   simp
end Go.Proofs.YtkjbgggghigapaaGreat


namespace Go.Proofs.YtkjbgggghigapaaGreat
open Go.RowKit
def QO (b B:Nat) (s:ByteArray) (ts:List Tok) (V:World) (o:Nat):QR→Ending→World→Prop
 | .ok v n,e,W'=>e= .returned (.int .i64 ((o+n:Nat):Int))∧SC b B s (ts++[⟨4,v,0,o⟩]) W'∧Kp b B V W'
 | .bad c x,e,W'=>e=refu c ((o+x:Nat):Int)∧Kp b B V W'
theorem own_iterAt {w:World} {base:Nat} {e:TypeId} {size:Nat} {v:Value} {n:Nat} {xs:List Value} (h:w.ownsRow base e size v n xs) {k:Nat} (hk:k<base) (x:ByteArray) (p:Nat):(w.iterAt k x p).ownsRow base e size v n xs:=by
 refine ⟨h.1,?_⟩
 rcases h.2 with h2 | ⟨g,cap,cur,g1,g2,g3,r⟩
 ·exact .inl h2
 ·refine .inr ⟨g,cap,cur,g1,g2,?_,r⟩
  rw[Lib.iterAt_other w k g x p (by omega)];exact g3
theorem own_app {w:World} {base n:Nat} {v:Value} {acc l:List UInt8} {x:ByteArray} (h:w.ownsRow base 5 1 v n (Lib.byteCells acc++Lib.strCells x)) (hn:n=acc.length+x.size) (hx:x.data.toList=l):w.ownsRow base 5 1 v (acc++l).length (Lib.byteCells (acc++l)):=by
 subst hx hn
 have e1:(acc++x.data.toList).length=acc.length+x.size:=by rw[List.length_append,Array.length_toList];rfl
 rw[e1,Lib.byteCells_append]
 exact h
theorem grow_keep {V W w1:World} {v:Value} {n:Nat} {xs:List Value} (hB:Below V.heap.size V W) (hlt:V.heap.size<W.heap.size) (hown:W.ownsRow (V.heap.size+1) 5 1 v n xs) (hg:W.grownBy w1 v.ownBlock):
 Below V.heap.size V w1∧w1.heap[V.heap.size]?=W.heap[V.heap.size]?∧W.heap.size≤w1.heap.size:=
 ⟨hB.grown hg (by omega) (fun k hk=>by have:=(hown.lt k hk).1;omega),hg.block _ hlt (fun e=>by have:=(hown.lt _ e.symm).1;omega),hg.size⟩
theorem ext_TA (s:ByteArray) (T a:Nat):(s.extract T a).data.toList=(LD s T).take (a - T):=by unfold LD;simp
set_option maxRecDepth 20000 in
set_option maxHeartbeats 8000000 in
theorem quoted_any (b B:Nat) (s:ByteArray) (ts:List Tok) (V:World) (h:SC b B s ts V) (o:Nat) (ho:o<s.size) (hs:s.size≤20000) (hts:ts.length≤20000) (q:UInt8) (qn:Nat) (hqn:q.toNat=qn) (hq:qn=39∨qn=34):
 Calls Tryz.prog 89 #[.pointer (some ⟨b,0,none⟩),.int .i64 o,.int .i32 qn] V fun e W'=>QO b B s ts V o (qt q (LD s (o+1)) 1 []) e W':=by
 obtain ⟨i5,hi5,hy0,hy1,hy2⟩:=info_parts W.Tryz.info5
 have HQ:=QI.start s o ho q
 obtain ⟨R,hR⟩:∃R,qt q (LD s (o+1)) 1 []=R:=⟨_,rfl⟩
 rw[hR] at HQ⊢
 have HQ0:Hid (QI s o 0 (o+1) q [] R):=HQ
 have HH:Hid (SC b B s ts V):=h
 have hsrc:=h.src
 have hbV:b<V.heap.size:=by have:=h.lt;omega
 obtain ⟨x,hx⟩:∃x,s.extract (o+1) s.size=x:=⟨_,rfl⟩
 have hxz:x.size=s.size - (o+1):=by rw[←hx,ByteArray.size_extract];omega
 have hxr:∀p,rn x p=rn s (o+1+p):=fun p=>by rw[←hx];exact rn_extract s (o+1) p
 have hxw:∀p,wd x p=wd s (o+1+p):=fun p=>by rw[←hx];exact wd_extract s (o+1) p
 have HXR:Hid (∀p,rn x p=rn s (o+1+p)):=hxr
 have HXW:Hid (∀p,wd x p=wd s (o+1+p)):=hxw
 have HQN:Hid (q.toNat=qn):=hqn
 clear hR HQ h hxr hxw hqn
 go_enter Tryz.func89,Tryz.ntmps89
 go_wp2
 go_loopg [8,9] (x.size+1) (fun gf v8 v9 wx=>∃(pos T:Nat) (acc:List UInt8),pos≤x.size∧wx.heap[V.heap.size]?=some (.stringIter x pos)∧v9= .int .i64 T∧wx.ownsRow (V.heap.size+1) 5 1 v8 acc.length (Lib.byteCells acc)∧Below V.heap.size V wx∧Hid (QI s o pos T q acc R)∧x.size<pos+gf)
 case atStart=>exact ⟨0,o+1,[],Nat.zero_le _,World.iter_heap V x 0,rfl,World.ownsRow_nil _ _ _ _,(Below.refl _ _).alloc (Nat.le_refl _) _,HQ0,by omega⟩
 case round=>
  obtain ⟨pos,T,acc,hple,hi,rfl,hown,hB,hI,hfu⟩:=hrel
  have hT1:=hI.out.t1
  have hT2:=hI.out.t2
  have hlen:=hI.out.len
  obtain ⟨av,cv,rfl⟩:=slice_shape hown
  by_cases hps:pos<x.size
  ·obtain ⟨g',rfl⟩:∃g',gk=g'+1:=⟨gk - 1,by omega⟩
   have hnx:∀ty,(Instr.next (.pointer (some ⟨V.heap.size,0,none⟩)) true ty).run Tryz.prog wr= .ok (.tuple #[.bool true,.int .i64 pos,.int .i32 (rn x pos)]) (wr.iterAt V.heap.size x (pos+wd x pos)):=fun ty=>Lib.run_next_any_at wr V.heap.size x pos ty hi hps
   have hwp:=wd_pos x pos
   have hwl:=wd_le x pos hps
   have hi2:=Lib.iterAt_heap wr V.heap.size x pos (pos+wd x pos) hi
   have hB2:=Lib.below_iterAt hB (Nat.le_refl _) x (pos+wd x pos)
   have hown2:=own_iterAt hown (Nat.lt_succ_self _) x (pos+wd x pos)
   have hlt:=(Array.getElem?_eq_some_iff.1 hi2).1
   obtain ⟨W,hW⟩:∃W,wr.iterAt V.heap.size x (pos+wd x pos)=W:=⟨_,rfl⟩
   rw[hW] at hnx hi2 hB2 hown2 hlt
   obtain ⟨r,hr⟩:∃r,rn x pos=r:=⟨_,rfl⟩
   obtain ⟨wd0,hwd⟩:∃wd0,wd x pos=wd0:=⟨_,rfl⟩
   have hrs:Hid (rn s (o+1+pos)=r):=by show _=_;rw[←HXR.out,hr]
   have hws:Hid (wd s (o+1+pos)=wd0):=by show _=_;rw[←HXW.out,hwd]
   have hrl:r≤1114111:=by rw[←hr];exact rn_le x pos
   rw[hr] at hnx
   rw[hwd] at hi2 hwp hwl
   have hsrc2:W.cell? ⟨b,0,none⟩=some (.string s):=(hB2.cell hbV).trans hsrc
   clear hi hB hown hW hr hwd
   by_cases hsk:o+1+pos<T
   ·obtain ⟨e1,HN⟩:=hI.out.skip hsk
    have HN':Hid (QI s o (pos+1) T q acc R):=HN
    have e2:wd0=1:=by rw[←hws.out,e1]
    subst e2
    clear HN e1
    go_wp2
    go_roundg g'
    case measure=>omega
    case rel=>exact ⟨pos+1,T,acc,by omega,hi2,rfl,hown2,hB2,HN',by omega⟩
   ·obtain ⟨a,haa⟩:∃a,a=o+1+pos:=⟨_,rfl⟩
    have hTa:T≤a:=by omega
    have hal:a<s.size:=by omega
    have hra:rn s a=r:=by rw[haa];exact hrs.out
    by_cases hrq:r=qn
    ·have hqb:=beq_t hrq
     have hR:=hI.out.close a haa hTa hal (by rw[HQN.out];exact hq) (by rw[HQN.out,hra,hrq])
     obtain ⟨sl,hsl⟩:∃sl,acc++(LD s T).take (a - T)=sl:=⟨_,rfl⟩
     rw[hsl] at hR
     have hslen:sl.length≤1000000:=by
      rw[←hsl,List.length_append,List.length_take]
      omega
     have HSL:Hid (acc++(LD s T).take (a - T)=sl):=hsl
     have HR:Hid (R=if 10000<sl.length then .bad 14 0 else .ok sl (a - o+1)):=hR
     have HHB:=hB2
     clear hR hsl hra hrq hI hrs hws
     go_wp2_with (at_builtin;refine Lib.wpList_append_own_string _ rfl _ _ 118 9 rfl (V.heap.size+1) 5 i5 Tryz.underlying118 Tryz.underlying9 hi5 hy0 hy1 hy2 (.slice av acc.length cv) acc.length (Lib.byteCells acc) rfl hown2 _ rfl ?c1 ?c2 ?c3 ?_)
     case c1=>rw[ByteArray.size_extract];unfold maxLen;omega
     case c2=>rw[ByteArray.size_extract];omega
     case c3=>omega
     intro v1 w1 ho1 hg1 _
     have hk1:=grow_keep HHB hlt hown2 hg1
     have ho2:=own_app ho1 (by rw[ByteArray.size_extract]) (ext_TA s T _)
     rw[←haa,HSL.out] at ho2
     have hSC1:=HH.out.below hk1.1
     have CA:=addString_any b B _ s ts w1 hSC1 o v1 sl ho2 hslen hts
     clear ho1 hg1 hown2
     by_cases hbig:10000<sl.length
     ·go_wp2_with (go_at_call 120;refine CA.mono ?_;rintro e w2 ⟨hA1,hA2⟩;obtain ⟨he,hk2⟩:=hA1 hbig;unfold refu at he;subst he)
      exact ⟨rfl,by rw[HR.out,if_pos hbig];exact ⟨rfl,(Kp.of_below hk1.1 HH.out.lt.2).trans hk2⟩⟩
     ·go_wp2_with (go_at_call 120;refine CA.mono ?_;rintro e w2 ⟨hA1,hA2⟩;obtain ⟨he,hs2,hk2⟩:=hA2 hbig;subst he)
      go_ret
      rw[HR.out,if_neg hbig]
      exact ⟨ret1 (by omega),hs2,(Kp.of_below hk1.1 HH.out.lt.2).trans hk2⟩
    ·have hqb:=beq_f hrq
     by_cases h10:r=10
     ·have h10b:=beq_t h10
      have HR:Hid (R= .bad 4 0):=hI.out.nl a haa hTa hal (by rw[hra,h10])
      clear hI hrs hws hra
      go_wp2_with (go_at_call 117;refine (refuse_any _ _ _).mono ?_;rintro e w' ⟨he,rfl⟩;unfold refu at he;subst he)
      exact ⟨rfl,by rw[HR.out];exact ⟨rfl,Kp.of_below hB2 HH.out.lt.2⟩⟩
     ·have h10b:=beq_f h10
      by_cases h92:r=92
      ·have h92b:=beq_t h92
       obtain ⟨e1,E1,E2,E3⟩:=hI.out.esc a haa hTa hal (by rw[HQN.out];exact hq) (by rw[hra,h92])
       have e2:wd0=1:=by rw[←hws.out,←haa];exact e1
       subst e2
       have HE1:Hid _:=E1
       have HE2:Hid _:=E2
       have HE3:Hid _:=E3
       have htk:=esc_take (LD s (a+1))
       have hel:=esc_le (LD s (a+1))
       rw[LD_len] at htk
       have htk1:=htk.1
       clear E1 E2 E3 htk hra hI hrs hws e1
       go_wp2_with (at_builtin;refine Lib.wpList_append_own_string _ rfl _ _ 118 9 rfl (V.heap.size+1) 5 i5 Tryz.underlying118 Tryz.underlying9 hi5 hy0 hy1 hy2 (.slice av acc.length cv) acc.length (Lib.byteCells acc) rfl hown2 _ rfl ?c1 ?c2 ?c3 ?_)
       case c1=>rw[ByteArray.size_extract];unfold maxLen;omega
       case c2=>rw[ByteArray.size_extract];omega
       case c3=>omega
       intro v1 w1 ho1 hg1 _
       have hk1:=grow_keep hB2 hlt hown2 hg1
       have ho2:=own_app ho1 (by rw[ByteArray.size_extract]) (ext_TA s T _)
       rw[←haa] at ho2
       have hi3:w1.heap[V.heap.size]?=some (.stringIter x (pos+1)):=hk1.2.1.trans hi2
       have hsrc3:w1.cell? ⟨b,0,none⟩=some (.string s):=(hk1.1.cell hbV).trans hsrc
       have hlt3:V.heap.size<w1.heap.size:=by omega
       have CE:=escape_any b s w1 hsrc3 o a hal hs
       have ea:(a:Int)=(o:Int)+1+pos:=by omega
       rw[ea] at CE
       obtain ⟨sl,hsl⟩:∃sl,acc++(LD s T).take (a - T)=sl:=⟨_,rfl⟩
       have hslen:sl.length≤1000000:=by
        rw[←hsl,List.length_append,List.length_take]
        omega
       rw[hsl] at ho2
       have HSL:Hid (acc++(LD s T).take (a - T)=sl):=hsl
       obtain ⟨hB3,_,_⟩:=hk1
       obtain ⟨a1,c1,rfl⟩:=slice_shape ho2
       have HEA:Hid ((a:Int)=(o:Int)+1+pos):=ea
       clear ho1 hg1 hown2 hi2 hB2 hsrc2 hsl ea
       by_cases hL:LD s (a+1)=[]
       ·go_wp2_with (go_at_call 121;refine CE.mono ?_;rintro e w2 ⟨hb2,hA1,hA2,hA3⟩;have he:=hA1 hL;unfold refu at he;subst he)
        exact ⟨rfl,by rw[HE1.out hL];exact ⟨rfl,(Kp.of_below (hB3.trans (hb2.mono (Nat.le_of_lt hlt3))) HH.out.lt.2)⟩⟩
       ·by_cases hz:(esc (LD s (a+1))).2=0
        ·go_wp2_with (go_at_call 121;refine CE.mono ?_;rintro e w2 ⟨hb2,hA1,hA2,hA3⟩;have he:=hA2 hL hz;unfold refu at he;subst he)
         refine ⟨rfl,?_⟩
         rw[HE2.out hL hz]
         refine ⟨?_,Kp.of_below (hB3.trans (hb2.mono (Nat.le_of_lt hlt3))) HH.out.lt.2⟩
         have e5:o+(a - o)=a:=by omega
         rw[e5,HEA.out];rfl
        ·have HN:=HE3.out hL hz
         rw[HSL.out] at HN
         have HN':Hid (QI s o (pos+1) (a+1+(esc (LD s (a+1))).2) q (sl++(esc (LD s (a+1))).1) R):=HN
         clear HN HE1 HE2 HE3 HSL
         obtain ⟨y,hy⟩:∃y,esc (LD s (a+1))=y:=⟨_,rfl⟩
         rw[hy] at CE HN' hz hel htk1
         obtain ⟨y1,y2⟩:=y
         simp only at CE HN' hz hel htk1
         clear hy
         go_wp2_with (first
          | (go_at_call 121;refine CE.mono ?_;rintro e w2 ⟨hb2,hA1,hA2,hA3⟩;have he:=hA3 hL hz;subst he;have ho3:=own_below ho2 hb2;have hsz2:=hb2.size)
          | (at_builtin;refine Lib.wpList_append_own_string _ rfl _ _ 118 9 rfl (V.heap.size+1) 5 i5 Tryz.underlying118 Tryz.underlying9 hi5 hy0 hy1 hy2 (.slice a1 sl.length c1) sl.length (Lib.byteCells sl) rfl ho3 _ rfl ?c4 ?c5 ?c6 ?_))
         case c4=>simp only[ByteArray.size,List.size_toArray];unfold maxLen;omega
         case c5=>simp only[ByteArray.size,List.size_toArray];omega
         case c6=>omega
         intro v4 w4 ho4 hg4 _
         have hk4:=grow_keep (hB3.trans (hb2.mono (Nat.le_of_lt hlt3))) (by omega) ho3 hg4
         have ho5:=own_app ho4 (by simp[ByteArray.size]) (l:=y1) rfl
         have hi5':w4.heap[V.heap.size]?=some (.stringIter x (pos+1)):=hk4.2.1.trans ((hb2.block _ hlt3).trans hi3)
         obtain ⟨a5,c5,rfl⟩:=slice_shape ho5
         obtain ⟨hB5,_,_⟩:=hk4
         clear ho4 hg4
         go_wp2
         go_roundg g'
         case measure=>omega
         case rel=>exact ⟨pos+1,a+1+y2,sl++y1,by omega,hi5',by go_num,ho5,hB5,HN',by omega⟩
      ·have h92b:=beq_f h92
       have HN:Hid (QI s o (pos+wd0) T q acc R):=by
        have:=hI.out.pass a haa hTa hal (by rw[HQN.out];omega) (by rw[hra];exact h10) (by rw[HQN.out,hra];exact hrq) (by rw[hra];exact h92)
        rw[haa,hws.out] at this
        exact this
       clear hI hrs hws hra
       go_wp2
       go_roundg g'
       case measure=>omega
       case rel=>exact ⟨pos+wd0,T,acc,by omega,hi2,rfl,hown2,hB2,HN,by omega⟩
  ·have hnx:∀ty,(Instr.next (.pointer (some ⟨V.heap.size,0,none⟩)) true ty).run Tryz.prog wr= .ok (.tuple #[.bool false]) wr:=fun ty=>Lib.run_next_end_at wr V.heap.size x pos ty hi hps
   have HR:Hid (R= .bad 4 0):=hI.out.end (by omega)
   clear hI
   go_wp2_with (go_at_call 117;refine (refuse_any _ _ _).mono ?_;rintro e w' ⟨he,rfl⟩;unfold refu at he;subst he)
   exact ⟨rfl,by rw[HR.out];exact ⟨rfl,Kp.of_below hB HH.out.lt.2⟩⟩
end Go.Proofs.YtkjbgggghigapaaGreat
