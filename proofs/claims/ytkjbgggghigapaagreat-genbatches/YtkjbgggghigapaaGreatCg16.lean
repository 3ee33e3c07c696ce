import Derived.Test.YtkjbgggghigapaaGreatCg15
import Derived.Test.YtkjbgggghigapaaGreatCg07
import Derived.Test.YtkjbgggghigapaaGreatCg08
import Derived.Test.YtkjbgggghigapaaGreatCg09
import Derived.Deep.DeepCutAuto
namespace Go.Proofs.YtkjbgggghigapaaGreat
open Go.RowKit
theorem lst_snoc (t x:Tx):∀(l:List Tx) (i:Nat),lst t i (l++[x])=if x=t then (i:Int)+(l.length:Int)+1 else lst t i l
 | [],i=>by
   simp only[List.nil_append,lst,List.length_nil,if_true]
   split<;>simp
 | y::r,i=>by
   have h:=lst_snoc t x r (i+1)
   rw[List.cons_append]
   unfold lst
   rw[h]
   by_cases e:x=t
   ·simp only[if_pos e,List.length_cons]
    rw[if_neg (by omega)]
    omega
   ·simp only[if_neg e]
theorem ucl_snoc:∀(us:List Gu) (cs ks:List Value) (u:Gu) (c k:Value),cs.length=us.length→ks.length=us.length→
 ucl (us++[u]) (cs++[c]) (ks++[k])=ucl us cs ks++[.string ⟨u.nm.toArray⟩,.int .i64 u.pa,.int .i64 u.sl,c,k]
 | [],[],[],u,c,k,_,_=>rfl
 | [],_::_,_,_,_,_,h,_=>by simp at h
 | [],[],_::_,_,_,_,_,h=>by simp at h
 | _::_,[],_,_,_,_,h,_=>by simp at h
 | _::_,_::_,[],_,_,_,_,h=>by simp at h
 | x::us,y::cs,z::ks,u,c,k,h,h2=>by
   have:=ucl_snoc us cs ks u c k (by simpa using h) (by simpa using h2)
   simp only[List.cons_append,ucl,this]
def unF (fs:List Fn):List Gu:=fs.map fun f=>⟨f.nm,f.pa,f.sl,f.cs,[]⟩
theorem info41:(Tryz.prog.info? 41).map (fun i=>(i.zero,i.size,i.bytes))=some (some (.agg #[.string ⟨#[]⟩,.int .i64 0,.int .i64 0,.slice none 0 0,.slice none 0 0]),5,80):=by kernel_rfl
theorem belowSet {B:Nat} {a w:World} (h:Below B a w) {b o:Nat} (hb:B≤b) (u:Value):Below B a (w.setCell ⟨b,o,none⟩ u):=
 ⟨h.os,h.tape,h.output,by rw[size_set];exact h.size,fun g hg=>(Below.heap_setCell w _ u g (by show g≠b;omega)).trans (h.block g hg)⟩
structure Nu (w0:World) (tx:Tx) (vF vG:Value) (vs:List Value) (us:List Gu) (vU:Value) (n:Nat) (gl:List Tx) (w:World):Prop where
 sx:Bx (w0.heap.size+2) 71 #[.string ⟨tx.toArray⟩,vU,.int .i64 0,.map (some (w0.heap.size+1)),.int .i64 0,.int .i64 1] w
 bx:Bx w0.heap.size 33 #[vF,vG] w
 ur:w.ownsRow 0 41 5 vU us.length (ucl us vs (List.replicate us.length (.slice none 0 0)))
 ge:∀g,vU.ownBlock=some g→w0.heap.size+3≤g
 mp:∃D,Maps.IsMap D∧w.ownsMap Tryz.prog 9 (plainElem (H:=Unit) Tryz.prog 3) (w0.heap.size+1) n D∧∀t:Tx,D.atKey (.string t) (.lit (.int .i64 0))= .lit (.int .i64 (lst t 0 gl))
 be:Below w0.heap.size w0 w
section
variable {w0 w w':World} {tx:Tx} {vF vG vU:Value} {vs:List Value} {us:List Gu} {n:Nat} {gl:List Tx}
theorem Nu.below (h:Nu w0 tx vF vG vs us vU n gl w) (k:Below w.heap.size w w'):Nu w0 tx vF vG vs us vU n gl w':=by
 obtain ⟨D,h0,h1,h2⟩:=h.mp
 refine ⟨h.sx.below k,h.bx.below k,own_keep h.ur fun g hg=>k.block g (h.ur.lt g hg).2,h.ge,⟨D,h0,?_,h2⟩,bthen h.be h.be.size k⟩
 have hl:=h1.lt
 obtain ⟨es,clock,hb,F⟩:=h1
 exact ⟨es,clock,(k.block _ hl).trans hb,F⟩
theorem Nu.alloc (h:Nu w0 tx vF vG vs us vU n gl w) (o:Obj):Nu w0 tx vF vG vs us vU n gl (w.alloc o):=h.below ((Below.refl _ w).alloc (Nat.le_refl _) o)
theorem Nu.drew (h:Nu w0 tx vF vG vs us vU n gl w):Nu w0 tx vF vG vs us vU n gl w.drew:=h.below ⟨rfl,rfl,rfl,Nat.le_refl _,fun _ _=>rfl⟩
theorem Nu.start (w0:World) (tx:Tx) (vF vG:Value):Nu w0 tx vF vG [] [] (.slice none 0 0) 0 [] (((w0.alloc (.cells #[vF,vG] 33)).alloc (.map #[] 0)).alloc (.cells #[.string ⟨tx.toArray⟩,.slice none 0 0,.int .i64 0,.map (some (w0.heap.size+1)),.int .i64 0,.int .i64 1] 71)):=by
 have e1:(w0.alloc (.cells #[vF,vG] 33)).heap.size=w0.heap.size+1:=by simp
 have e2:((w0.alloc (.cells #[vF,vG] 33)).alloc (.map #[] 0)).heap.size=w0.heap.size+2:=by simp
 have B0:=Bx.new w0 33 #[vF,vG]
 have S0:=Bx.new ((w0.alloc (.cells #[vF,vG] 33)).alloc (.map #[] 0)) 71 #[.string ⟨tx.toArray⟩,.slice none 0 0,.int .i64 0,.map (some (w0.heap.size+1)),.int .i64 0,.int .i64 1]
 have hM:=World.ownsMap_made (w0.alloc (.cells #[vF,vG] 33)) Tryz.prog 9 (plainElem (H:=Unit) Tryz.prog 3)
 rw[e2] at S0
 rw[e1] at hM
 exact ⟨S0,(B0.alloc _).alloc _,World.ownsRow_nil _ 0 41 5,fun g hg=>by simp[Value.ownBlock] at hg,⟨_,Maps.isMap_empty,hM.alloc _,fun t=>rfl⟩,bthen (b2 w0 _ _) (by simp;omega) (b1 _ _)⟩
theorem Nu.app (h:Nu w0 tx vF vG vs us vU n gl w) {w1 w3:World} {u:Gu} {v:Value} {g' cc:Nat} (_hu:u.cd=[]) (hv:vs.length=us.length) (hb:Below w.heap.size w w1) (hown:w3.ownsRow 0 41 5 (.slice (some ⟨g',0,none⟩) (us.length+1) cc) (us.length+1) (ucl us vs (List.replicate us.length (.slice none 0 0))++[.string ⟨u.nm.toArray⟩,.int .i64 u.pa,.int .i64 u.sl,v,.slice none 0 0]))
 (hg3:w1.grownBy w3 vU.ownBlock) (hat:vU.ownBlock=some g'∨g'=w1.heap.size):Nu w0 tx vF vG (vs++[v]) (us++[u]) (.slice (some ⟨g',0,none⟩) (us.length+1) cc) n gl (w3.setCell ⟨w0.heap.size+2,1,none⟩ (.slice (some ⟨g',0,none⟩) (us.length+1) cc)):=by
 have k:=h.below hb
 have s1:=hb.size
 have s3:=hg3.size
 have sS:=h.sx.lt
 have hg':w0.heap.size+3≤g':=by
  rcases hat with q | q
  ·exact h.ge g' q
  ·omega
 have K:∀g,g<w0.heap.size+3→g<w1.heap.size→w3.heap[g]?=w1.heap[g]?:=fun g hg hl=>hg3.block g hl fun e=>by have:=h.ge g e.symm;omega
 have S3:Bx (w0.heap.size+2) 71 #[.string ⟨tx.toArray⟩,vU,.int .i64 0,.map (some (w0.heap.size+1)),.int .i64 0,.int .i64 1] w3:=⟨(K _ (by omega) k.sx.lt).trans k.sx.blk⟩
 have B3:Bx w0.heap.size 33 #[vF,vG] w3:=⟨(K _ (by omega) k.bx.lt).trans k.bx.blk⟩
 obtain ⟨D,h0,h1,h2⟩:=k.mp
 refine ⟨S3.put (j:=1) _,B3.set (by omega) _,?_,fun g hg=>?_,⟨D,h0,?_,h2⟩,belowSet ⟨hg3.os.trans k.be.os,hg3.tape.trans k.be.tape,hg3.output.trans k.be.output,by have:=k.be.size;omega,fun g hg=>(K g (by omega) (Nat.lt_of_lt_of_le hg k.be.size)).trans (k.be.block g hg)⟩ (by omega) _⟩
 ·rw[List.length_append,List.length_singleton,List.replicate_succ',ucl_snoc us vs _ u v _ hv (by simp)]
  exact own_set hown (fun g hg=>by have e2:g'=g:=by simpa [Value.ownBlock] using hg
                                   omega) _
 ·have e2:g'=g:=by simpa [Value.ownBlock] using hg
  omega
 ·have hl:=h1.lt
  obtain ⟨es,clock,hb2,F⟩:=h1
  exact ⟨es,clock,(Below.heap_setCell w3 _ _ _ (by show w0.heap.size+1≠w0.heap.size+2;omega)).trans ((K _ (by omega) hl).trans hb2),F⟩
theorem Nu.put (h:Nu w0 tx vF vG vs us vU n gl w) {D:DataW Unit} (hI:Maps.IsMap D) (hD:∀t:Tx,D.atKey (.string t) (.lit (.int .i64 0))= .lit (.int .i64 (lst t 0 gl))) {t:Tx} (hm:w'.ownsMap Tryz.prog 9 (plainElem (H:=Unit) Tryz.prog 3) (w0.heap.size+1) (n+1) (D.put (.string t) (.lit (.int .i64 ((gl.length:Int)+1))))) (hg:w.grownBy w' (some (w0.heap.size+1))):Nu w0 tx vF vG vs us vU (n+1) (gl++[t]) w':=by
 have K:∀g,g<w.heap.size→g≠w0.heap.size+1→w'.heap[g]?=w.heap[g]?:=fun g hl hn=>hg.block g hl fun e=>hn (by injection e)
 refine ⟨⟨(K _ h.sx.lt (by omega)).trans h.sx.blk⟩,⟨(K _ h.bx.lt (by omega)).trans h.bx.blk⟩,own_keep h.ur fun g hgg=>K g (h.ur.lt g hgg).2 (by have:=h.ge g hgg;omega),h.ge,⟨_,hI.put _ _,hm,fun t'=>?_⟩,⟨hg.os.trans h.be.os,hg.tape.trans h.be.tape,hg.output.trans h.be.output,Nat.le_trans h.be.size hg.size,fun g hl=>(K g (Nat.lt_of_lt_of_le hl h.be.size) (by omega)).trans (h.be.block g hl)⟩⟩
 rw[lst_snoc]
 by_cases e:t=t'
 ·subst e
  rw[if_pos rfl,Maps.atKey_put_same hI (by exact trivial)]
  simp
 ·rw[if_neg e,Maps.atKey_put_other (by intro q;injection q with q;exact e q.symm)]
  exact hD t'
end
set_option maxRecDepth 20000 in
set_option maxHeartbeats 16000000 in
theorem newSource_any (w0:World) (tx:Tx) (vF vG:Value) (vs:List Value) (fs:List Fn) (gl:List Tx) (hF:w0.ownsRow 0 43 5 vF fs.length (fcl fs vs)) (hv:vs.length=fs.length) (hc:∀(i:Nat) (f:Fn) (v:Value),fs[i]?=some f→vs[i]?=some v→w0.ownsRow 0 79 3 v f.cs.length (vcl f.cs)) (hG:w0.ownsRow 0 9 1 vG gl.length (strs gl)) (hgl:∀t∈gl,t.length≤20000) (hn:fs.length≤100000000) (hn2:gl.length≤100000000):
 Calls Tryz.prog 21 #[.string ⟨tx.toArray⟩,.agg #[vF,vG]] w0 fun e w'=>e= .returned (.pointer (some ⟨w0.heap.size+2,0,none⟩))∧∃vU,Nu w0 tx vF vG vs (unF fs) vU gl.length gl w':=by
 obtain ⟨i0,hi0,hz0,hz1,hz2⟩:=info_parts info41
 obtain ⟨aF,cF,eF⟩:=row_form hF
 obtain ⟨aG,cG,eG⟩:=row_form hG
 obtain ⟨W1,hW1⟩:∃W1,((w0.alloc (.cells #[vF,vG] 33)).alloc (.map #[] 0)).alloc (.cells #[.string ⟨tx.toArray⟩,.slice none 0 0,.int .i64 0,.map (some (w0.heap.size+1)),.int .i64 0,.int .i64 1] 71)=W1:=⟨_,rfl⟩
 have N0:=Nu.start w0 tx vF vG
 rw[hW1] at N0
 have HR:Hid (w0.ownsRow 0 43 5 vF fs.length (fcl fs vs)∧vs.length=fs.length∧(∀(i:Nat) (f:Fn) (v:Value),fs[i]?=some f→vs[i]?=some v→w0.ownsRow 0 79 3 v f.cs.length (vcl f.cs))∧w0.ownsRow 0 9 1 vG gl.length (strs gl)∧vF= .slice aF fs.length cF∧vG= .slice aG gl.length cG):=⟨hF,hv,hc,hG,eF,eG⟩
 have q0:W1.cell? ⟨w0.heap.size,0,none⟩=some (.slice aF fs.length cF):=by rw[←eF];exact N0.bx.c 0 _ rfl
 have hmm:=@run_makeMap Tryz.prog
 obtain ⟨S,hS⟩:∃S,w0.heap.size+2=S:=⟨_,rfl⟩
 have HN0:Hid (Nu w0 tx vF vG [] [] (.slice none 0 0) 0 [] W1):=N0
 clear hF hv hc hG eF eG N0
 go_enter Tryz.func21,Tryz.ntmps21
 go_wp2_with fail
 go_loopw [7,17] (fun _ iv wx=>∃(i:Nat) (vU:Value),iv= .int .i64 (i:Nat)∧i≤fs.length∧Hid (Nu w0 tx vF vG (vs.take i) (unF (fs.take i)) vU 0 [] wx)) (fun _ iv _=>fs.length - (intOf iv).toNat)
 case atStart=>exact ⟨0,_,rfl,Nat.zero_le _,HN0.out⟩
 case round=>
  clear HN0 q0
  obtain ⟨i,vU,rfl,hi,HQ⟩:=hrel
  by_cases hlt:i<fs.length
  ·have h1:(i:Int)<(fs.length:Int):=by omega
   have wi:IntKind.i64.wrap ((i:Int)+1)=(i:Int)+1:=by rw[IntKind.wrap_i64];omega
   obtain ⟨f,hf⟩:∃f,fs[i]?=some f:=⟨_,List.getElem?_eq_getElem hlt⟩
   obtain ⟨v,hvi⟩:∃v,vs[i]?=some v:=⟨_,List.getElem?_eq_getElem (by rw[HR.out.2.1];exact hlt)⟩
   have hFw:=own_keep HR.out.1 (w':=wr) fun g hg=>HQ.out.be.block g (HR.out.1.lt g hg).2
   obtain ⟨gF,c',e',-,-⟩:=hFw.form (by omega)
   obtain ⟨k0,k1,k2,k3,k4⟩:=fcl_at fs vs i f v hf hvi
   have ee:=HR.out.2.2.2.2.1.symm.trans e'
   injection ee with ee1 _ ee3
   subst ee1 ee3
   obtain ⟨g0,b0,d0⟩:=own_at hFw _ _ k0
   obtain ⟨g1,b1',d1⟩:=own_at hFw _ _ k1
   obtain ⟨g2,b2',d2⟩:=own_at hFw _ _ k2
   obtain ⟨g3,b3,d3⟩:=own_at hFw _ _ k3
   obtain ⟨g4,b4,d4⟩:=own_at hFw _ _ k4
   rw[e'] at b0 b1' b2' b3 b4
   have e0:gF=g0:=by simpa [Value.ownBlock] using b0
   have e1:gF=g1:=by simpa [Value.ownBlock] using b1'
   have e2:gF=g2:=by simpa [Value.ownBlock] using b2'
   have e3:gF=g3:=by simpa [Value.ownBlock] using b3
   have e4:gF=g4:=by simpa [Value.ownBlock] using b4
   subst e0 e1 e2 e3 e4
   obtain ⟨av,cv,ev⟩:=row_form (HR.out.2.2.1 i f v hf hvi)
   have hf':fs.take (i+1)=fs.take i++[f]:=by rw[List.take_add_one,hf];rfl
   have hv':vs.take (i+1)=vs.take i++[v]:=by rw[List.take_add_one,hvi];rfl
   have hu':unF (fs.take (i+1))=unF (fs.take i)++[⟨f.nm,f.pa,f.sl,f.cs,[]⟩]:=by rw[hf'];simp[unF]
   have hul:(unF (fs.take i)).length=i:=by simp[unF];omega
   have hvl:(vs.take i).length=(unF (fs.take i)).length:=by rw[hul];simp;have:=HR.out.2.1;omega
   have HT:Hid (vs.take (i+1)=vs.take i++[v]∧unF (fs.take (i+1))=unF (fs.take i)++[⟨f.nm,f.pa,f.sl,f.cs,[]⟩]∧(vs.take i).length=(unF (fs.take i)).length∧v= .slice av f.cs.length cv∧(unF (fs.take i)).length=i):=⟨hv',hu',hvl,ev,hul⟩
   obtain ⟨us,hus⟩:∃us,unF (fs.take i)=us:=⟨_,rfl⟩
   obtain ⟨vs',hvs'⟩:∃vs',vs.take i=vs':=⟨_,rfl⟩
   rw[hus,hvs'] at HQ HT
   rw[ev] at d4
   have X0:=Bx.new wr 43 #[.string ⟨f.nm.toArray⟩,.int .i64 f.pl,.int .i64 f.pa,.int .i64 f.sl,.slice av f.cs.length cv]
   have NA:=HQ.out.alloc (.cells #[.string ⟨f.nm.toArray⟩,.int .i64 f.pl,.int .i64 f.pa,.int .i64 f.sl,.slice av f.cs.length cv] 43)
   have hX:w0.heap.size+3≤wr.heap.size:=by have:=HQ.out.sx.lt;omega
   obtain ⟨X,hXe⟩:∃X,wr.heap.size=X:=⟨_,rfl⟩
   obtain ⟨wa,hwa⟩:∃wa,wr.alloc (.cells #[.string ⟨f.nm.toArray⟩,.int .i64 f.pl,.int .i64 f.pa,.int .i64 f.sl,.slice av f.cs.length cv] 43)=wa:=⟨_,rfl⟩
   rw[hwa] at NA X0
   rw[hXe] at X0 hX
   have ND:=NA.drew
   have XD:=X0.drew
   have z1:wa.drew.cell? ⟨S,1,none⟩=some vU:=by rw[←hS];exact ND.sx.c 1 _ rfl
   have z1A:∀o,(wa.drew.alloc o).cell? ⟨S,1,none⟩=some vU:=fun o=>by rw[←hS];exact (ND.sx.alloc o).c 1 _ rfl
   have z1B:∀o,(wa.alloc o).cell? ⟨S,1,none⟩=some vU:=fun o=>by rw[←hS];exact (NA.sx.alloc o).c 1 _ rfl
   have hnv:∀g,vU.ownBlock=some g→g≠X:=fun g hg e=>by
    have q1:=HQ.out.ur.lt g hg
    have q2:g<X:=by rw[←hXe];exact q1.2
    omega
   obtain ⟨x0,x1,x2,x3,x4⟩:=XD.five
   obtain ⟨x0A,x1A,x2A,x3A,x4A⟩:=XD.fiveA
   have fS:wa.drew.frozen? ⟨S,1,none⟩=false:=by rw[←hS];exact ND.sx.f 1
   have fSA:∀o,(wa.drew.alloc o).frozen? ⟨S,1,none⟩=false:=fun o=>by rw[←hS];exact (ND.sx.alloc o).f 1
   have HS0:Hid ((wa.drew.cell? ⟨X,0,none⟩=some (.string ⟨f.nm.toArray⟩)∧wa.drew.cell? ⟨X,2,none⟩=some (.int .i64 f.pa)∧wa.drew.cell? ⟨X,3,none⟩=some (.int .i64 f.sl)∧wa.drew.cell? ⟨X,4,none⟩=some (.slice av f.cs.length cv))∧wa.drew.frozen? ⟨S,1,none⟩=false):=⟨⟨x0,x2,x3,x4⟩,fS⟩
   have HSA:Hid (∀o,((wa.drew.alloc o).cell? ⟨X,0,none⟩=some (.string ⟨f.nm.toArray⟩)∧(wa.drew.alloc o).cell? ⟨X,2,none⟩=some (.int .i64 f.pa)∧(wa.drew.alloc o).cell? ⟨X,3,none⟩=some (.int .i64 f.sl)∧(wa.drew.alloc o).cell? ⟨X,4,none⟩=some (.slice av f.cs.length cv))∧(wa.drew.alloc o).frozen? ⟨S,1,none⟩=false):=fun o=>⟨⟨x0A o,x2A o,x3A o,x4A o⟩,fSA o⟩
   have hur:=ND.ur
   have hul2:us.length≤100000000:=by have:=HT.out.2.2.2.2;omega
   have HF:Hid (∀gg cc w3,w3.ownsRow 0 41 5 (.slice (some ⟨gg,0,none⟩) (us.length+1) cc) (us.length+1) (ucl us vs' (List.replicate us.length (.slice none 0 0))++[.string ⟨f.nm.toArray⟩,.int .i64 f.pa,.int .i64 f.sl,.slice av f.cs.length cv,.slice none 0 0])→(wa.drew.alloc (.cells #[.string ⟨f.nm.toArray⟩,.int .i64 f.pa,.int .i64 f.sl,.slice av f.cs.length cv,.slice none 0 0] 41)).grownBy w3 vU.ownBlock→(vU.ownBlock=some gg∨gg=(wa.drew.alloc (.cells #[.string ⟨f.nm.toArray⟩,.int .i64 f.pa,.int .i64 f.sl,.slice av f.cs.length cv,.slice none 0 0] 41)).heap.size)→
    ((w3.cell? ⟨X,0,none⟩=some (.string ⟨f.nm.toArray⟩)∧w3.cell? ⟨X,2,none⟩=some (.int .i64 f.pa)∧w3.cell? ⟨X,3,none⟩=some (.int .i64 f.sl)∧w3.cell? ⟨X,4,none⟩=some (.slice av f.cs.length cv))∧w3.frozen? ⟨S,1,none⟩=false)∧w3.cell? ⟨S,1,none⟩=some vU∧(let w5:=w3.setCell ⟨S,1,none⟩ (.slice (some ⟨gg,0,none⟩) (us.length+1) cc);((w5.cell? ⟨X,0,none⟩=some (.string ⟨f.nm.toArray⟩)∧w5.cell? ⟨X,2,none⟩=some (.int .i64 f.pa)∧w5.cell? ⟨X,3,none⟩=some (.int .i64 f.sl)∧w5.cell? ⟨X,4,none⟩=some (.slice av f.cs.length cv))∧w5.frozen? ⟨S,1,none⟩=false)∧Hid (Nu w0 tx vF vG (vs.take (i+1)) (unF (fs.take (i+1))) (.slice (some ⟨gg,0,none⟩) (us.length+1) cc) 0 [] w5))):=fun gg cc w3 hown hg3 hat=>by
    have X3:Bx X 43 #[.string ⟨f.nm.toArray⟩,.int .i64 f.pl,.int .i64 f.pa,.int .i64 f.sl,.slice av f.cs.length cv] w3:=⟨(hg3.block X (XD.alloc _).lt (fun e=>hnv X e.symm rfl)).trans (XD.alloc _).blk⟩
    have S3:Bx (w0.heap.size+2) 71 #[.string ⟨tx.toArray⟩,vU,.int .i64 0,.map (some (w0.heap.size+1)),.int .i64 0,.int .i64 1] w3:=⟨(hg3.block _ (ND.alloc _).sx.lt (fun e=>by have:=ND.ge _ e.symm;omega)).trans (ND.alloc _).sx.blk⟩
    have hN:=ND.app (w1:=wa.drew.alloc (.cells #[.string ⟨f.nm.toArray⟩,.int .i64 f.pa,.int .i64 f.sl,.slice av f.cs.length cv,.slice none 0 0] 41)) (u:=⟨f.nm,f.pa,f.sl,f.cs,[]⟩) (v:=.slice av f.cs.length cv) rfl HT.out.2.2.1 (b1 _ _) hown hg3 hat
    rw[hS] at S3 hN
    have S5:=S3.put (j:=1) (.slice (some ⟨gg,0,none⟩) (us.length+1) cc)
    have X5:=X3.set (b:=S) (o:=1) (by omega) (.slice (some ⟨gg,0,none⟩) (us.length+1) cc)
    refine ⟨⟨⟨X3.c 0 _ rfl,X3.c 2 _ rfl,X3.c 3 _ rfl,X3.c 4 _ rfl⟩,S3.f 1⟩,S3.c 1 _ rfl,⟨⟨X5.c 0 _ rfl,X5.c 2 _ rfl,X5.c 3 _ rfl,X5.c 4 _ rfl⟩,S5.f 1⟩,?_⟩
    show Nu _ _ _ _ _ _ _ _ _ _
    rw[HT.out.1,HT.out.2.1,HT.out.2.2.2.1]
    exact hN
   clear NA ND XD X0 hf hvi hFw k0 k1 k2 k3 k4 ev hf' hv' hu' hul hvl hus hvs' HQ hnv x0A x1A x2A x3A x4A x1 fS fSA b0 b1' b2' b3 b4 e' hlt
   go_wp2_with fail
   refine wp_region_held_drew (S:=(fun V=>(V.cell? ⟨X,0,none⟩=some (.string ⟨f.nm.toArray⟩)∧V.cell? ⟨X,2,none⟩=some (.int .i64 f.pa)∧V.cell? ⟨X,3,none⟩=some (.int .i64 f.sl)∧V.cell? ⟨X,4,none⟩=some (.slice av f.cs.length cv))∧V.frozen? ⟨S,1,none⟩=false)) (by kernel_rfl) HS0.out (fun hHeld=>?_)
   refine wpAnyH_take (i:=0) (v:=?_) rfl (by kernel_rfl) (by kernel_rfl) (by kernel_rfl) (fun _ _ _ h=>h) (Or.inl ⟨by rfl,?_⟩) (by assumption) ?_
   rotate_left
   ·(intro w hSw;(try dsimp only at hSw);go_simp;try with_reducible rfl)
   try simp only[Act.put,List.setIfInBounds_toArray]
   refine wpAnyH_take (i:=1) (v:=?_) rfl (by kernel_rfl) (by kernel_rfl) (by kernel_rfl) (fun _ _ _ h=>h) (Or.inl ⟨by rfl,?_⟩) (by assumption) ?_
   rotate_left
   ·(intro w hSw;(try dsimp only at hSw);go_simp;try with_reducible rfl)
   try simp only[Act.put]
   refine wpAnyH_take (i:=2) (v:=?_) rfl (by kernel_rfl) (by kernel_rfl) (by kernel_rfl) (fun _ _ _ h=>h) (Or.inl ⟨by rfl,?_⟩) (by assumption) ?_
   rotate_left
   ·(intro w hSw;(try dsimp only at hSw);go_simp;try with_reducible rfl)
   try simp only[Act.put]
   refine wpAnyH_take (i:=3) (v:=?_) rfl (by kernel_rfl) (by kernel_rfl) (by kernel_rfl) (fun _ _ _ h=>h) (Or.inl ⟨by rfl,?_⟩) (by assumption) ?_
   rotate_left
   ·(intro w hSw;(try dsimp only at hSw);go_simp;try with_reducible rfl)
   try simp only[Act.put]
   refine wpAnyH_take (i:=5) (v:=?_) rfl (by kernel_rfl) (by kernel_rfl) (by kernel_rfl) (fun _ _ _ h=>h) (Or.inl ⟨by rfl,?_⟩) (by assumption) ?_
   rotate_left
   ·(intro w hSw;(try dsimp only at hSw);go_simp;try with_reducible rfl)
   try simp only[Act.put]
   refine wpAnyH_take (i:=6) (v:=?_) rfl (by kernel_rfl) (by kernel_rfl) (by kernel_rfl) (fun _ _ _ h=>h) (Or.inl ⟨by rfl,?_⟩) (by assumption) ?_
   rotate_left
   ·(intro w hSw;(try dsimp only at hSw);go_simp;try with_reducible rfl)
   try simp only[Act.put]
   refine wpAnyH_take (i:=7) (v:=?_) rfl (by kernel_rfl) (by kernel_rfl) (by kernel_rfl) (fun _ _ _ h=>h) (Or.inl ⟨by rfl,?_⟩) (by assumption) ?_
   rotate_left
   ·(intro w hSw;(try dsimp only at hSw);go_simp;try with_reducible rfl)
   try simp only[Act.put]
   refine wpAnyH_take (i:=8) (v:=?_) rfl (by kernel_rfl) (by kernel_rfl) (by kernel_rfl) (fun _ _ _ h=>h) (Or.inl ⟨by rfl,?_⟩) (by assumption) ?_
   rotate_left
   ·(intro w hSw;(try dsimp only at hSw);go_simp;try with_reducible rfl)
   try simp only[Act.put]
   refine wpAnyH_take (i:=9) (v:=?_) rfl (by kernel_rfl) (by kernel_rfl) (by kernel_rfl) (fun _ _ _ h=>h) (Or.inl ⟨by rfl,?_⟩) (by assumption) ?_
   rotate_left
   ·(intro w hSw;(try dsimp only at hSw);go_simp;try with_reducible rfl)
   try simp only[Act.put]
   refine wpAnyH_take (i:=10) (v:=?_) rfl (by kernel_rfl) (by kernel_rfl) (by kernel_rfl) (fun _ _ _ h=>h) (Or.inl ⟨by rfl,?_⟩) (by assumption) ?_
   rotate_left
   ·(intro w hSw;(try dsimp only at hSw);go_simp;try with_reducible rfl)
   try simp only[Act.put]
   refine wpAnyH_take (i:=11) (v:=?_) rfl (by kernel_rfl) (by kernel_rfl) (by kernel_rfl) (fun _ _ _ h=>h) (Or.inl ⟨by rfl,?_⟩) (by assumption) ?_
   rotate_left
   ·(intro w hSw;(try dsimp only at hSw);go_simp;try with_reducible rfl)
   try simp only[Act.put]
   refine wpAnyH_take (i:=12) (v:=?_) rfl (by kernel_rfl) (by kernel_rfl) (by kernel_rfl) (fun _ _ _ h=>h) (Or.inl ⟨by rfl,?_⟩) (by assumption) ?_
   rotate_left
   ·(intro w hSw;(try dsimp only at hSw);go_simp;try with_reducible rfl)
   try simp only[Act.put]
   refine wpAnyH_take (i:=13) (v:=?_) rfl (by kernel_rfl) (by kernel_rfl) (by kernel_rfl) (fun _ _ _ h=>h) (Or.inl ⟨by rfl,?_⟩) (by assumption) ?_
   rotate_left
   ·(intro w hSw;(try dsimp only at hSw);go_simp;try with_reducible rfl)
   try simp only[Act.put]
   refine wpAnyH_ready (rs:=[4,14]) (by kernel_rfl) (by simp) (AllReadyH.cons rfl (fun K hK=>?_) (AllReadyH.cons rfl (fun K hK=>?_) AllReadyH.nil))
   ·go_simp
    refine hK.out _ _ HS0.out (fun hHeld=>?_)
    clear hK K
    refine wpAnyH_ready (rs:=[14]) (by kernel_rfl) (by simp) (AllReadyH.cons rfl (fun K hK=>?_) AllReadyH.nil)
    go_simp
    refine hK.out _ _ (HSA.out _) (fun hHeld=>?_)
    clear hK K
    refine wpAnyH_ready (rs:=[15]) (by kernel_rfl) (by simp) (AllReadyH.cons rfl (fun K hK=>?_) AllReadyH.nil)
    (refine step_append_lies _ (by rfl) _ _ 22 (by rfl) 0 41 i0 _ 5 80 Tryz.underlying22 hi0 hz0 hz1 hz2 rfl (by omega) vU us.length (ucl us vs' (List.replicate us.length (.slice none 0 0))) (by rfl) (hur.alloc _) ⟨wa.drew.heap.size,0,none⟩ 1 1 [.string ⟨f.nm.toArray⟩,.int .i64 f.pa,.int .i64 f.sl,.slice av f.cs.length cv,.slice none 0 0] (by rfl) rfl (World.news_of_block (cs:=#[.string ⟨f.nm.toArray⟩,.int .i64 f.pa,.int .i64 f.sl,.slice av f.cs.length cv,.slice none 0 0]) (t:=41) (fr:=(0,0)) (Bx.new wa.drew 41 #[.string ⟨f.nm.toArray⟩,.int .i64 f.pa,.int .i64 f.sl,.slice av f.cs.length cv,.slice none 0 0]).blk) (by simp[Value.oneCell']) (by omega) (by unfold maxLen;omega) (by omega) (by omega) _ rfl ?_;intro gg cc w3 hown3 hg3 hat3 hlt3;obtain ⟨hS3,fc3,hS5,HA⟩:=HF.out gg cc w3 hown3 hg3 hat3;have fz3:=hS3.2;clear hown3 hg3 hat3 hlt3)
    refine hK.out _ _ hS3 (fun hHeld=>?_)
    clear hK K
    refine wpAnyH_take (i:=16) (v:=?_) rfl (by kernel_rfl) (by kernel_rfl) (by kernel_rfl) (fun _ _ _ h=>h) (Or.inl ⟨by rfl,?_⟩) (by assumption) ?_
    rotate_left
    ·(intro w hSw;(try dsimp only at hSw);go_simp;try with_reducible rfl)
    try simp only[Act.put]
    refine wpAnyH_take (i:=17) (v:=?_) rfl (by kernel_rfl) (by kernel_rfl) (by kernel_rfl) (fun _ _ _ h=>h) (Or.inl ⟨by rfl,?_⟩) (by assumption) ?_
    rotate_left
    ·(intro w hSw;(try dsimp only at hSw);go_simp;try with_reducible rfl)
    try simp only[Act.put]
    refine wpAnyH_ready (rs:=[18]) (by kernel_rfl) (by simp) (AllReadyH.cons rfl (fun K hK=>?_) AllReadyH.nil)
    go_simp
    refine hK.out _ _ hS5 (fun hHeld=>?_)
    clear hK K
    refine wpAnyH_done (by kernel_rfl) ?_ _
    clear HF HS0 HSA hS3 hS5 fz3 fc3 hur z1 z1A z1B
    go_wp2
    refine ⟨⟨i+1,_,by go_num,by omega,HA⟩,?_⟩
    simp[intOf];omega
   ·go_simp
    refine hK.out _ _ (HSA.out _) (fun hHeld=>?_)
    clear hK K
    refine wpAnyH_ready (rs:=[4]) (by kernel_rfl) (by simp) (AllReadyH.cons rfl (fun K hK=>?_) AllReadyH.nil)
    go_simp
    refine hK.out _ _ (HSA.out _) (fun hHeld=>?_)
    clear hK K
    refine wpAnyH_ready (rs:=[15]) (by kernel_rfl) (by simp) (AllReadyH.cons rfl (fun K hK=>?_) AllReadyH.nil)
    (refine step_append_lies _ (by rfl) _ _ 22 (by rfl) 0 41 i0 _ 5 80 Tryz.underlying22 hi0 hz0 hz1 hz2 rfl (by omega) vU us.length (ucl us vs' (List.replicate us.length (.slice none 0 0))) (by rfl) (hur.alloc _) ⟨wa.drew.heap.size,0,none⟩ 1 1 [.string ⟨f.nm.toArray⟩,.int .i64 f.pa,.int .i64 f.sl,.slice av f.cs.length cv,.slice none 0 0] (by rfl) rfl (World.news_of_block (cs:=#[.string ⟨f.nm.toArray⟩,.int .i64 f.pa,.int .i64 f.sl,.slice av f.cs.length cv,.slice none 0 0]) (t:=41) (fr:=(0,0)) (Bx.new wa.drew 41 #[.string ⟨f.nm.toArray⟩,.int .i64 f.pa,.int .i64 f.sl,.slice av f.cs.length cv,.slice none 0 0]).blk) (by simp[Value.oneCell']) (by omega) (by unfold maxLen;omega) (by omega) (by omega) _ rfl ?_;intro gg cc w3 hown3 hg3 hat3 hlt3;obtain ⟨hS3,fc3,hS5,HA⟩:=HF.out gg cc w3 hown3 hg3 hat3;have fz3:=hS3.2;clear hown3 hg3 hat3 hlt3)
    refine hK.out _ _ hS3 (fun hHeld=>?_)
    clear hK K
    refine wpAnyH_take (i:=16) (v:=?_) rfl (by kernel_rfl) (by kernel_rfl) (by kernel_rfl) (fun _ _ _ h=>h) (Or.inl ⟨by rfl,?_⟩) (by assumption) ?_
    rotate_left
    ·(intro w hSw;(try dsimp only at hSw);go_simp;try with_reducible rfl)
    try simp only[Act.put]
    refine wpAnyH_take (i:=17) (v:=?_) rfl (by kernel_rfl) (by kernel_rfl) (by kernel_rfl) (fun _ _ _ h=>h) (Or.inl ⟨by rfl,?_⟩) (by assumption) ?_
    rotate_left
    ·(intro w hSw;(try dsimp only at hSw);go_simp;try with_reducible rfl)
    try simp only[Act.put]
    refine wpAnyH_ready (rs:=[18]) (by kernel_rfl) (by simp) (AllReadyH.cons rfl (fun K hK=>?_) AllReadyH.nil)
    go_simp
    refine hK.out _ _ hS5 (fun hHeld=>?_)
    clear hK K
    refine wpAnyH_done (by kernel_rfl) ?_ _
    clear HF HS0 HSA hS3 hS5 fz3 fc3 hur z1 z1A z1B
    go_wp2
    refine ⟨⟨i+1,_,by go_num,by omega,HA⟩,?_⟩
    simp[intOf];omega
  ·have h1:¬(i:Int)<(fs.length:Int):=by omega
   obtain rfl:i=fs.length:=by omega
   have N1:Nu w0 tx vF vG vs (unF fs) vU 0 [] wr:=by
    have q:=HQ.out
    rw[List.take_length,List.take_of_length_le (by rw[HR.out.2.1];exact Nat.le_refl _)] at q
    exact q
   have y1:wr.cell? ⟨w0.heap.size,1,none⟩=some (.slice aG gl.length cG):=by rw[←HR.out.2.2.2.2.2];exact N1.bx.c 1 _ rfl
   have HN1:Hid (Nu w0 tx vF vG vs (unF fs) vU 0 [] wr):=N1
   clear N1 HQ
   go_wp2_with fail
   go_loopw [8,9,43] (fun _ _ iv wx=>∃(j:Nat),iv= .int .i64 (j:Nat)∧j≤gl.length∧Hid (Nu w0 tx vF vG vs (unF fs) vU j (gl.take j) wx)) (fun _ _ iv _=>gl.length - (intOf iv).toNat)
   case atStart=>exact ⟨0,rfl,Nat.zero_le _,HN1.out⟩
   case round=>
    clear HN1 y1
    obtain ⟨j,rfl,hj,HQ⟩:=hrel
    by_cases hlt:j<gl.length
    ·have h2:(j:Int)<(gl.length:Int):=by omega
     have wj:IntKind.i64.wrap ((j:Int)+1)=(j:Int)+1:=by rw[IntKind.wrap_i64];omega
     obtain ⟨t,ht⟩:∃t,gl[j]?=some t:=⟨_,List.getElem?_eq_getElem hlt⟩
     have htl:=hgl t (List.mem_of_getElem? ht)
     have hGw:=own_keep HR.out.2.2.2.1 (w':=wr) fun g hg=>HQ.out.be.block g (HR.out.2.2.2.1.lt g hg).2
     obtain ⟨gG,c',e',-,-⟩:=hGw.form (by omega)
     have ee:=HR.out.2.2.2.2.2.symm.trans e'
     injection ee with ee1 _ ee3
     subst ee1 ee3
     obtain ⟨g0,b0,d0⟩:=own_at hGw j (.string ⟨t.toArray⟩) (by unfold strs;rw[List.getElem?_map,ht];rfl)
     rw[e'] at b0
     have e0:gG=g0:=by simpa [Value.ownBlock] using b0
     subst e0
     have z3:wr.cell? ⟨S,3,none⟩=some (.map (some (w0.heap.size+1))):=by rw[←hS];exact HQ.out.sx.c 3 _ rfl
     obtain ⟨D,hI,hM,hD⟩:=HQ.out.mp
     have hkey:keyOf Tryz.prog 9 (.string ⟨t.toArray⟩)=some (.string t):=by
      have:=WideMaps.keyOf_string_mk (P:=Tryz.prog) Tryz.underlying9 (s:=⟨t.toArray⟩) (by show t.toArray.size≤maxLen;simp;unfold maxLen;omega)
      simpa using this
     have hval:plainElem (H:=Unit) Tryz.prog 3 (.int .i64 ((j:Int)+1))=some (.lit (.int .i64 ((j:Int)+1)),[]):=plainElem_int Tryz.underlying3 (by simp[Lit.wf,IntKind.min,IntKind.max,IntKind.signed,IntKind.bits];omega)
     have hg':gl.take (j+1)=gl.take j++[t]:=by rw[List.take_add_one,ht];rfl
     have hgn:(gl.take j).length=j:=by simp;omega
     have HP:Hid (∀w1,w1.ownsMap Tryz.prog 9 (plainElem (H:=Unit) Tryz.prog 3) (w0.heap.size+1) (j+1) (D.put (.string t) (.lit (.int .i64 ((j:Int)+1))))→wr.grownBy w1 (some (w0.heap.size+1))→Nu w0 tx vF vG vs (unF fs) vU (j+1) (gl.take (j+1)) w1):=fun w1 h3 h4=>by
      rw[hg']
      exact HQ.out.put hI hD (by rw[hgn];exact h3) h4
     clear HQ hD hI ht hGw e' b0 hg' hgn hlt
     go_wp2_with (first
      | (at_mapUpdate;refine wpList_mapUpdate_own _ rfl _ _ _ 69 rfl 9 3 law9 Tryz.underlying69 _ (w0.heap.size+1) j D rfl hM (by unfold maxLen;omega) _ _ (.string t) rfl rfl hkey (.lit (.int .i64 ((j:Int)+1))) [] hval ?_;intro w1 hown1 hgrow1)
      | fail)
     have HA:Hid (Nu w0 tx vF vG vs (unF fs) vU (j+1) (gl.take (j+1)) w1):=HP.out w1 hown1 hgrow1
     clear hown1 hgrow1 HP hM z3 d0
     go_wp2
     refine ⟨⟨j+1,by go_num,by omega,HA.out⟩,?_⟩
     simp[intOf];omega
    ·have h2:¬(j:Int)<(gl.length:Int):=by omega
     obtain rfl:j=gl.length:=by omega
     have HA:Hid (Nu w0 tx vF vG vs (unF fs) vU gl.length gl wr):=by
      have q:=HQ.out
      rw[List.take_length] at q
      exact q
     clear HQ
     go_wp2_with fail
     go_ret
     exact ⟨rfl,vU,HA.out⟩
end Go.Proofs.YtkjbgggghigapaaGreat


namespace Go.Proofs.YtkjbgggghigapaaGreat
def F.wp (L:Nat):F→Bool
 | .nil=>true
 | .cons k _ _ p ks r=>decide (0≤p∧p≤(L:Int)) && runG k ks && ks.wp L && r.wp L
theorem F.wp_app {L:Nat}:∀f g:F,f.wp L=true→g.wp L=true→(f.app g).wp L=true
 | .nil,g,_,h=>h
 | .cons k t n p ks r,g,h,h2=>by
   simp only[F.app,F.wp,Bool.and_eq_true] at h⊢
   exact ⟨h.1,F.wp_app r g h.2 h2⟩
theorem wp_at {L:Nat} {f:F} (h:f.wp L=true):0≤f.at∧f.at≤(L:Int):=by
 cases f with
 | nil=>exact ⟨Int.le_refl _,by show (0:Int)≤_;omega⟩
 | cons k t n p ks r=>
   simp only[F.wp,Bool.and_eq_true,decide_eq_true_eq] at h
   exact h.1.1.1
theorem wp_mk {L:Nat} {k n p:Int} {t:List UInt8} {ks:F} (hk:k≠23) (hp:0≤p∧p≤(L:Int)) (h:ks.wp L=true):(one k t n p ks).wp L=true:=by
 simp only[one,F.wp,runG,if_neg hk,h,Bool.and_true,decide_eq_true_eq]
 exact hp
theorem wp_run {L:Nat} {n p:Int} {t:List UInt8} {ks:F} (hk:ks.kind=8) (hp:0≤p∧p≤(L:Int)) (h:ks.wp L=true):(one 23 t n p ks).wp L=true:=by
 have q:kdA ks 0=8:=by cases ks<;>exact hk
 simp only[one,F.wp,runG,if_true,q,h,Bool.and_true,decide_true,decide_eq_true_eq]
 exact hp
def Rps (L:Nat) (l:List Tok):Prop:=∀t∈l,t.p≤L
theorem Rps.tl {L:Nat} {l:List Tok} (h:Rps L l):Rps L l.tail:=fun t ht=>h t (List.mem_of_mem_tail ht)
theorem Rps.ha {L:Nat} {l:List Tok} (h:Rps L l):0≤ha l∧ha l≤(L:Int):=by
 cases l with
 | nil=>exact ⟨Int.le_refl _,by show (0:Int)≤_;omega⟩
 | cons t l=>have:=h t (List.mem_cons_self ..);exact ⟨by show (0:Int)≤(t.p:Int);omega,by show (t.p:Int)≤_;omega⟩
theorem Wok.needp {L:Nat} {c:Nat} {l:List Tok} {k:List Tok→PR} {R:F→List Tok→Prop} (hl:Rps L l) (h:Rps L l.tail→Wok (k l.tail) R):Wok (Go.Proofs.YtkjbgggghigapaaGreat.need c l k) R:=by
 unfold Go.Proofs.YtkjbgggghigapaaGreat.need
 split
 ·exact h hl.tl
 ·exact trivial
theorem Wok.namp {L:Nat} {q:Int} {l:List Tok} {k:F→List Tok→PR} {R:F→List Tok→Prop} (hl:Rps L l) (hq:q≠23) (h:∀f,f.wp L=true→Rps L l.tail→Wok (k f l.tail) R):Wok (Go.Proofs.YtkjbgggghigapaaGreat.nam q l k) R:=by
 unfold Go.Proofs.YtkjbgggghigapaaGreat.nam
 split
 ·exact h _ (wp_mk hq hl.ha rfl) hl.tl
 ·exact trivial
@[reducible] def Okp (L:Nat) (j:J) (f:F):Prop:=
  match j with
  | .bk _ a=>a.wp L=true→f.wp L=true
  | .lst a=>a.wp L=true→f.wp L=true
  | .nms a=>a.wp L=true→f.wp L=true
  | .asg a=>a.wp L=true→f.wp L=true
  | .ifs a=>a.wp L=true→f.wp L=true
  | .tab a=>a.wp L=true→f.wp L=true
  | .exl _ g=>g.wp L=true→f.wp L=true
  | .sufl g=>g.wp L=true→f.wp L=true
  | _=>f.wp L=true
section
variable {L:Nat} {rec:J→List Tok→PR} (ih:∀j l,Rps L l→Wok (rec j l) fun f m=>Rps L m∧Okp L j f)
include ih
theorem op_body {l:List Tok} {k:F→List Tok→PR} {R:F→List Tok→Prop} (hl:Rps L l) (h:∀f m,Rps L m→f.wp L=true→Wok (k f m) R):Wok (bodyP rec l k) R:=
 .needp hl fun R1=>.bind (ih _ _ R1) fun f _ ⟨R2,T⟩=>.needp R2 fun R3=>h f _ R3 T
theorem op_last {l:List Tok} (hl:Rps L l):Wok (lastP rec l) fun f m=>Rps L m∧f.wp L=true:=by
 unfold lastP
 split
 ·exact .ok ⟨hl.tl.tl,wp_mk (by decide) hl.ha rfl⟩
 ·split
  ·exact .ok ⟨hl.tl,wp_mk (by decide) hl.ha rfl⟩
  ·refine .bind (ih _ _ hl.tl) fun f m ⟨R2,T⟩=>.ok ⟨?_,wp_mk (by decide) hl.ha (T rfl)⟩
   split
   ·exact R2.tl
   ·exact R2
theorem op_fun {l:List Tok} (hl:Rps L l):Wok (funP rec l) fun f m=>Rps L m∧f.wp L=true:=by
 unfold funP parP
 refine .namp hl.tl (by decide) fun m T R2=>.needp R2 fun R3=>.bind (Q:=fun ps m=>Rps L m∧ps.wp L=true) ?_ fun ps l1 ⟨R4,O4⟩=>.needp R4 fun R5=>.bind (ih _ _ R5) fun b l2 ⟨R6,T6⟩=>.needp R6 fun R7=>.ok ⟨R7,wp_mk (by decide) hl.ha (F.wp_app _ _ O4 T6)⟩
 split
 ·exact .ok ⟨R3,rfl⟩
 ·exact .namp R3 (by decide) fun f T4 R4=>.mono (ih _ _ R4) fun ps m ⟨R5,h5⟩=>⟨R5,h5 T4⟩
theorem op_br {a:F} {l:List Tok} (hl:Rps L l) (hA:a.wp L=true):Wok (brP rec a l) fun f m=>Rps L m∧f.wp L=true:=by
 unfold brP
 exact .bind (ih _ _ hl) fun e l1 ⟨R1,T1⟩=>.needp R1 fun R2=>.bind (ih _ _ R2) fun b l2 ⟨R3,T3⟩=>.ok ⟨R3,F.wp_app _ _ (F.wp_app _ _ hA T1) T3⟩
theorem op_num {p:Int} {a:F} {l:List Tok} (hl:Rps L l) (hp:0≤p∧p≤(L:Int)) (hA:a.wp L=true):Wok (numP rec p a l) fun f m=>Rps L m∧f.wp L=true:=by
 unfold numP
 refine .bind (ih _ _ hl) fun e1 l1 ⟨R1,T1⟩=>.needp R1 fun R2=>.bind (ih _ _ R2) fun e2 l2 ⟨R3,T3⟩=>?_
 have h2:=F.wp_app _ _ (F.wp_app _ _ hA T1) T3
 split
 ·exact .bind (ih _ _ R3.tl) fun e3 l3 ⟨R5,T5⟩=>op_body ih R5 fun b l4 R6 T6=>.ok ⟨R6,wp_mk (by decide) hp (F.wp_app _ _ (F.wp_app _ _ h2 T5) T6)⟩
 ·exact op_body ih R3 fun b l4 R6 T6=>.ok ⟨R6,wp_mk (by decide) hp (F.wp_app _ _ h2 T6)⟩
theorem op_for {l:List Tok} (hl:Rps L l):Wok (forP rec l) fun f m=>Rps L m∧f.wp L=true:=by
 unfold forP
 refine .namp hl.tl (by decide) fun m T R2=>?_
 split
 ·exact op_num ih R2.tl hl.ha T
 ·exact .bind (ih _ _ R2) fun ns l1 ⟨R3,T3⟩=>.needp R3 fun R4=>.bind (ih _ _ R4) fun f l2 ⟨R5,T5⟩=>op_body ih R5 fun b l3 R6 T6=>.ok ⟨R6,wp_mk (by decide) hl.ha (F.wp_app _ _ (T5 (T3 T)) T6)⟩
theorem op_loc {l:List Tok} (hl:Rps L l):Wok (locP rec l) fun f m=>Rps L m∧f.wp L=true:=by
 unfold locP
 refine .namp hl.tl (by decide) fun m T R2=>.bind (ih _ _ R2) fun ns l1 ⟨R3,T3⟩=>?_
 split
 ·exact .bind (ih _ _ R3.tl) fun f l2 ⟨R5,T5⟩=>.ok ⟨R5,wp_mk (by decide) hl.ha (T5 (T3 T))⟩
 ·exact .ok ⟨R3,wp_mk (by decide) hl.ha (T3 T)⟩
theorem op_asg {l:List Tok} (hl:Rps L l):Wok (asgP rec l) fun f m=>Rps L m∧f.wp L=true:=by
 unfold asgP
 refine .bind (ih _ _ hl) fun f l1 ⟨R1,T1⟩=>?_
 have T1:f.wp L=true:=T1
 split
 ·exact .tgt (.bind (ih _ _ R1) fun ts l2 ⟨R2,T2⟩=>.needp R2 fun R3=>.bind (ih _ _ R3) fun g l3 ⟨R4,T4⟩=>.ok ⟨R4,wp_mk (by decide) (wp_at T1) (T4 (T2 T1))⟩)
 ·split
  ·next h8=>exact .ok ⟨R1,wp_run h8 (wp_at T1) T1⟩
  ·exact trivial
theorem op_arg {a:F} {l:List Tok} (hl:Rps L l) (hA:a.wp L=true):Wok (argP rec a l) fun f m=>Rps L m∧f.wp L=true:=by
 unfold argP
 split
 ·exact .ok ⟨hl.tl,hA⟩
 ·exact .bind (ih _ _ hl) fun f l1 ⟨R1,T1⟩=>.needp R1 fun R2=>.ok ⟨R2,T1 hA⟩
theorem op_stem {l:List Tok} (hl:Rps L l):Wok (stemP rec l) fun f m=>Rps L m∧f.wp L=true:=by
 unfold stemP
 split
 ·exact .bind (ih _ _ hl.tl) fun e l1 ⟨R1,T1⟩=>.needp R1 fun R2=>.ok ⟨R2,wp_mk (by decide) hl.ha T1⟩
 ·exact .namp hl (by decide) fun f T R2=>.ok ⟨R2,T⟩
theorem op_step (j:J) (l:List Tok) (hl:Rps L l):Wok (stp' rec j l) fun f m=>Rps L m∧Okp L j f:=by
 cases j with
 | blk c=>exact .bind (ih _ _ hl) fun f l1 ⟨R1,T1⟩=>.ok ⟨R1,wp_mk (by decide) hl.ha (T1 rfl)⟩
 | bk c a=>
   simp only[stp']
   split
   ·exact ih _ _ hl.tl
   ·split
    ·exact .bind (op_last ih hl) fun f m ⟨R1,T1⟩=>.ok ⟨R1,fun hA=>F.wp_app _ _ hA T1⟩
    ·split
     ·exact .bind (op_fun ih hl) fun f m ⟨R1,T1⟩=>.mono (ih _ _ R1) fun g m' ⟨R2,T2⟩=>⟨R2,fun hA=>T2 (F.wp_app _ _ hA T1)⟩
     ·split
      ·exact .ok ⟨hl,id⟩
      ·exact .bind (ih _ _ hl) fun f m ⟨R1,T1⟩=>.mono (ih _ _ R1) fun g m' ⟨R2,T2⟩=>⟨R2,fun hA=>T2 (F.wp_app _ _ hA T1)⟩
 | stat=>
   simp only[stp']
   split
   ·exact op_body ih hl fun b m R1 T1=>.ok ⟨R1,wp_mk (by decide) hl.ha T1⟩
   ·split
    ·exact .bind (ih _ _ hl.tl) fun e l1 ⟨R1,T1⟩=>op_body ih R1 fun b m R2 T2=>.ok ⟨R2,wp_mk (by decide) hl.ha (F.wp_app _ _ T1 T2)⟩
    ·split
     ·exact .bind (ih _ _ hl.tl) fun f l1 ⟨R1,T1⟩=>.ok ⟨R1,wp_mk (by decide) hl.ha (T1 rfl)⟩
     ·split
      ·exact op_for ih hl
      ·split
       ·exact op_loc ih hl
       ·split
        ·exact .ok ⟨hl.tl,wp_mk (by decide) hl.ha rfl⟩
        ·exact op_asg ih hl
 | lst a=>
   refine .bind (ih _ _ hl) fun f m ⟨R1,T1⟩=>?_
   split
   ·exact .mono (ih _ _ R1.tl) fun g m' ⟨R2,T2⟩=>⟨R2,fun hA=>T2 (F.wp_app _ _ hA T1)⟩
   ·exact .ok ⟨R1,fun hA=>F.wp_app _ _ hA T1⟩
 | nms a=>
   simp only[stp']
   split
   ·exact .namp hl.tl (by decide) fun f T1 R1=>.mono (ih _ _ R1) fun g m' ⟨R2,T2⟩=>⟨R2,fun hA=>T2 (F.wp_app _ _ hA T1)⟩
   ·exact .ok ⟨hl,id⟩
 | ifs a=>
   by_cases hA:a.wp L=true
   ·refine .bind (op_br ih hl hA) fun f m ⟨R1,T1⟩=>?_
    split
    ·exact .mono (ih _ _ R1.tl) fun g m' ⟨R2,T2⟩=>⟨R2,fun _=>T2 T1⟩
    ·split
     ·exact .bind (ih _ _ R1.tl) fun b l2 ⟨R2,T2⟩=>.needp R2 fun R3=>.ok ⟨R3,fun _=>F.wp_app _ _ T1 T2⟩
     ·exact .needp R1 fun R3=>.ok ⟨R3,fun _=>T1⟩
   ·have key:Wok (stp' rec (.ifs a) l) fun _ m=>Rps L m:=by
     simp only[stp',brP]
     refine .bind (.bind (ih _ _ hl) fun e l1 ⟨R1,T1⟩=>.needp R1 fun R2=>.bind (ih _ _ R2) fun b l2 ⟨R3,T3⟩=>.ok (R:=fun _ m=>Rps L m) R3) fun f m R1=>?_
     have R1:Rps L m:=R1
     split
     ·exact .mono (ih _ _ R1.tl) fun g m' h=>h.1
     ·split
      ·exact .bind (ih _ _ R1.tl) fun b l2 ⟨R2,T2⟩=>.needp R2 fun R3=>.ok R3
      ·exact .needp R1 fun R3=>.ok R3
    exact .mono key fun f m h=>⟨h,fun hx=>absurd hx hA⟩
 | asg a=>
   simp only[stp']
   split
   ·exact .bind (ih _ _ hl.tl) fun f m ⟨R1,T1⟩=>.tgt (.mono (ih _ _ R1) fun g m' ⟨R2,T2⟩=>⟨R2,fun hA=>T2 (F.wp_app _ _ hA T1)⟩)
   ·exact .ok ⟨hl,id⟩
 | ex a=>exact .bind (ih _ _ hl) fun f m ⟨R1,T1⟩=>.mono (ih _ _ R1) fun g m' ⟨R2,T2⟩=>⟨R2,T2 T1⟩
 | exl a g=>
   by_cases hA:g.wp L=true
   ·simp only[stp']
    split
    ·exact .bind (ih _ _ hl.tl) fun f m ⟨R1,T1⟩=>.mono (ih _ _ R1) fun g2 m' ⟨R2,T2⟩=>⟨R2,fun _=>T2 (wp_mk (by decide) (wp_at hA) (F.wp_app _ _ hA T1))⟩
    ·exact .ok ⟨hl,id⟩
   ·simp only[stp']
    split
    ·exact .bind (ih _ _ hl.tl) fun f m ⟨R1,T1⟩=>.mono (ih _ _ R1) fun g2 m' ⟨R2,T2⟩=>⟨R2,fun h=>absurd h hA⟩
    ·exact .ok ⟨hl,id⟩
 | opd=>
   simp only[stp',tabP]
   split
   ·exact ih _ _ hl
   split
   ·exact .bind (ih _ _ hl.tl) fun f m ⟨R1,T1⟩=>.needp R1 fun R2=>.ok ⟨R2,wp_mk (by decide) hl.ha (T1 rfl)⟩
   split
   ·exact .bind (ih _ _ hl.tl) fun f m ⟨R1,T1⟩=>.ok ⟨R1,wp_mk (by decide) hl.ha T1⟩
   repeat' split
   all_goals first
    | exact trivial
    | exact .ok ⟨hl.tl,wp_mk (by decide) hl.ha rfl⟩
 | suf=>exact .bind (op_stem ih hl) fun f m ⟨R1,T1⟩=>.mono (ih _ _ R1) fun g m' ⟨R2,T2⟩=>⟨R2,T2 T1⟩
 | sufl g=>
   by_cases hA:g.wp L=true
   ·simp only[stp']
    split
    ·exact .bind (ih _ _ hl.tl) fun f m ⟨R1,T1⟩=>.needp R1 fun R2=>.mono (ih _ _ R2) fun g2 m' ⟨R3,T3⟩=>⟨R3,fun _=>T3 (wp_mk (by decide) (wp_at hA) (F.wp_app _ _ hA T1))⟩
    ·split
     ·exact .namp hl.tl (by decide) fun f T1 R1=>.mono (ih _ _ R1) fun g2 m' ⟨R3,T3⟩=>⟨R3,fun _=>T3 (wp_mk (by decide) (wp_at hA) (F.wp_app _ _ hA T1))⟩
     ·split
      ·exact .bind (op_arg ih hl.tl hA) fun f m ⟨R1,T1⟩=>.mono (ih _ _ R1) fun g2 m' ⟨R3,T3⟩=>⟨R3,fun _=>T3 (wp_mk (by decide) (wp_at hA) T1)⟩
      ·exact .ok ⟨hl,id⟩
   ·simp only[stp',argP]
    split
    ·exact .bind (ih _ _ hl.tl) fun f m ⟨R1,T1⟩=>.needp R1 fun R2=>.mono (ih _ _ R2) fun g2 m' ⟨R3,T3⟩=>⟨R3,fun h=>absurd h hA⟩
    ·split
     ·exact .namp hl.tl (by decide) fun f T1 R1=>.mono (ih _ _ R1) fun g2 m' ⟨R3,T3⟩=>⟨R3,fun h=>absurd h hA⟩
     ·split
      ·refine .bind (Q:=fun _ m=>Rps L m) ?_ fun f m R1=>.mono (ih _ _ R1) fun g2 m' ⟨R3,T3⟩=>⟨R3,fun h=>absurd h hA⟩
       split
       ·exact .ok hl.tl.tl
       ·exact .bind (ih _ _ hl.tl) fun f l1 ⟨R1,T1⟩=>.needp R1 fun R2=>.ok R2
      ·exact .ok ⟨hl,id⟩
 | tab a=>
   simp only[stp']
   split
   ·exact .ok ⟨hl,id⟩
   ·refine .bind (ih _ _ hl) fun f m ⟨R1,T1⟩=>?_
    split
    ·exact .mono (ih _ _ R1.tl) fun g m' ⟨R2,T2⟩=>⟨R2,fun hA=>T2 (F.wp_app _ _ hA T1)⟩
    ·exact .ok ⟨R1,fun hA=>F.wp_app _ _ hA T1⟩
 | fld=>
   simp only[stp']
   split
   ·exact .bind (ih _ _ hl.tl) fun k l1 ⟨R1,T1⟩=>.needp R1 fun R2=>.needp R2 fun R3=>.bind (ih _ _ R3) fun v l2 ⟨R4,T4⟩=>.ok ⟨R4,wp_mk (by decide) hl.ha (F.wp_app _ _ T1 T4)⟩
   ·split
    ·exact .bind (ih _ _ hl.tl.tl) fun v l1 ⟨R1,T1⟩=>.ok ⟨R1,wp_mk (by decide) hl.ha (F.wp_app _ _ (wp_mk (by decide) hl.ha rfl) T1)⟩
    ·exact .bind (ih _ _ hl) fun v l1 ⟨R1,T1⟩=>.ok ⟨R1,wp_mk (by decide) hl.ha T1⟩
end
theorem op_all {L:Nat}:∀(n:Nat) (j:J) (l:List Tok),Rps L l→Wok (pr n j l) fun f m=>Rps L m∧Okp L j f
 | 0,_,_,_=>trivial
 | n+1,j,l,hl=>op_step (op_all n) j l hl
end Go.Proofs.YtkjbgggghigapaaGreat


namespace Go.Proofs.YtkjbgggghigapaaGreat
theorem okN_arG {k n:Int} {f:F} (h:okN k n f.kds=true):arG k n f.len=true:=by
 have e:=f.kds_len
 unfold arG
 split
 ·next hk=>rcases hk with rfl | rfl | rfl | rfl<;>(simp[okN] at h;simp;omega)
 split
 ·next hk=>rcases hk with rfl | rfl | rfl | rfl | rfl | rfl<;>(simp[okN] at h;simp;omega)
 split
 ·next hk=>rcases hk with rfl | rfl<;>(simp[okN] at h;simp;omega)
 split
 ·next hk=>rcases hk with rfl | rfl<;>(simp[okN] at h;simp;omega)
 ·rfl
theorem F.wfG_of {L:Tx}:∀f:F,f.okT=true→f.wp L.length=true→f.wfG L=true
 | .nil,_,_=>rfl
 | .cons k t n p ks r,h,h2=>by
   simp only[F.okT,Bool.and_eq_true] at h
   simp only[F.wp,Bool.and_eq_true] at h2
   simp only[F.wfG,Bool.and_eq_true]
   exact ⟨⟨⟨⟨⟨okN_arG h.1.1.1,h2.1.1.2⟩,h2.1.1.1⟩,h.1.1.2⟩,F.wfG_of ks h.1.2 h2.1.2⟩,F.wfG_of r h.2 h2.2⟩
theorem GT.rps {l:List UInt8}:∀(r:List Tok) (a:Nat),GT l a r→Rps l.length r
 | [],a,h=>fun t ht=>by cases ht
 | [t],a,h=>fun u hu=>by
   have e:u=t:=by simpa using hu
   have q:t.k=6∧t.t=[]∧t.p=l.length∧a≤l.length:=h
   rw[e];omega
 | t::v::r,a,h=>fun u hu=>by
   have q:OT l a t∧GT l (nxt t) (v::r):=h
   rcases List.mem_cons.1 hu with e | e
   ·rw[e];have:=q.1.hi;omega
   ·exact GT.rps (v::r) _ q.2 u e
theorem prT_sc (l:List UInt8) (h:(prT l).2.1=0):(scT l).2.1=0:=by
 unfold prT at h
 split at h
 ·next hc=>exact absurd h hc
 ·next hc=>simpa using hc
theorem prT_len {l:List UInt8} (h:(prT l).2.1=0):l.length≤20000:=by have:=(scT_ok l (prT_sc l h)).2.1;omega
theorem prT_wp (l:List UInt8) (h:(prT l).2.1=0):(prT l).1.wp l.length=true:=by
 have hs:=(scT_ok l (prT_sc l h)).1
 have hR:=GT.rps _ _ hs
 unfold prT at h⊢
 split
 ·next hc=>rw[if_pos hc] at h;exact absurd h hc
 ·next hc=>
  rw[if_neg hc] at h
  cases hk:chk (scT l).1 with
  | bad p=>show noF.wp l.length=true;simp[noF,one,F.wp,runG]
  | out=>show noF.wp l.length=true;simp[noF,one,F.wp,runG]
  | ok f m=>
    show f.wp l.length=true
    unfold chk at hk
    have q:=op_all (L:=l.length) (8 * (scT l).1.length+4) (.blk true) (scT l).1 hR
    cases hx:pr (8 * (scT l).1.length+4) (.blk true) (scT l).1 with
    | bad p=>rw[hx] at hk;cases hk
    | out=>rw[hx] at hk;cases hk
    | ok g m2=>
      rw[hx] at hk q
      simp only[PR.bind] at hk
      split at hk
      ·injection hk with h1 h2
       rw[←h1]
       exact q.2
      ·cases hk
theorem prT_fit (l:List UInt8) (h:(prT l).2.1=0):∃p ks,(prT l).1=one 20 [] 0 p ks∧(one 20 [] 0 p ks).wfG l=true∧(one 20 [] 0 p ks).okT=true∧ks.top=true∧ks.siz≤60010:=by
 obtain ⟨p,ks,e,hok⟩:=prT_okT l h
 have hw:=prT_wp l h
 have hz:=prT_siz l
 rw[e] at hw hz
 refine ⟨p,ks,e,F.wfG_of _ hok hw,hok,prT_top (r:=.nil) e,?_⟩
 simp only[one,F.siz] at hz
 omega
theorem F.n31_z:∀f:F,f.n31=true→f.z31=0
 | .nil,_=>rfl
 | .cons k t n p ks r,h=>by
   simp only[F.n31,Bool.and_eq_true,decide_eq_true_eq] at h
   simp only[F.z31,if_neg h.1.1,F.n31_z ks h.1.2,F.n31_z r h.2]
theorem F.top_z:∀f:F,f.top=true→f.z31=f.fcn
 | .nil,_=>rfl
 | .cons k t n p ks r,h=>by
   simp only[F.top,Bool.and_eq_true] at h
   simp only[F.z31,F.fcn,F.n31_z ks h.1,F.top_z r h.2]
   omega
def Gq (s s':Cs):Prop:=∀t∈s'.gl,t∈s.gl∨t.length≤20000
theorem Gq.of {s s':Cs} (h:s'.gl=s.gl):Gq s s':=fun t ht=>.inl (by rw[←h];exact ht)
theorem Gq.refl (s:Cs):Gq s s:=.of rfl
theorem Gq.trans {a b c:Cs} (h:Gq a b) (k:Gq b c):Gq a c:=fun t ht=>(k t ht).elim (fun q=>h t q) .inr
theorem q_fau (c p:Int) (s:Cs):Gq s (fau c p s):=by unfold fau;split<;>exact .of rfl
theorem q_lim (p n m:Int) (s:Cs):Gq s (lim p n m s):=by
 unfold lim;split
 ·exact q_fau _ _ _
 ·exact .refl _
theorem q_unk (t:Tx) (p:Int) (s:Cs):Gq s (unk t p s):=by
 unfold unk;split
 ·exact q_fau _ _ _
 ·exact .refl _
theorem q_glo (t:Tx) (s:Cs) (ht:t.length≤20000):Gq s (glo t s):=by
 unfold glo;split
 ·exact .refl _
 ·intro u hu
  rcases List.mem_append.1 hu with e | e
  ·exact .inl e
  ·have e:u=t:=by simpa using e
   exact .inr (by rw[e];exact ht)
theorem q_con (v:Vl) (p:Int) (s:Cs):Gq s (con v p s):=by
 unfold con
 cases s.fs[s.nu]? with
 | none=>exact .refl _
 | some f=>
   show Gq s (conF f v p s)
   unfold conF;split
   ·exact .refl _
   ·exact Gq.trans (b:={s with fs:=s.fs.set s.nu {f with cs:=f.cs++[v]}}) (.of rfl) (q_lim _ _ _ _)
theorem q_nmC (t:Tx) (p:Int) (s:Cs) (ht:t.length≤20000):Gq s (nmC t p s):=by
 unfold nmC ngl
 split
 ·exact q_unk _ _ _
 ·refine (q_unk t p s).trans ?_
  split
  ·exact (q_fau _ _ _).trans (q_glo _ _ ht)
  ·exact q_glo _ _ ht
theorem q_brN:∀(r:F) (s:Cs),Gq s (brN r s)
 | .nil,_=>.refl _
 | .cons _ t _ p _ r,s=>((q_unk t p s).trans (b:=unk t p s) (c:={unk t p s with lo:=s.lo++[t]}) (.of rfl)).trans (q_brN r _)
theorem q_slo (s:Cs):Gq s (slo s):=by
 unfold slo
 cases s.fs[s.nu]? with
 | none=>exact .refl _
 | some f=>exact .of rfl
theorem q_bri (p:Int) (r:F) (s:Cs):Gq s (bri p r s):=((q_brN r s).trans (q_lim _ _ _ _)).trans (q_slo _)
section
variable {nd:Ndc} (H:∀k t n p ks s,(one k t n p ks).wfC=true→Gq s (nd k t n p ks s))
include H
theorem q_ckN:∀(r:F) (s:Cs),r.wfC=true→Gq s (ckN nd r s)
 | .nil,_,_=>.refl _
 | .cons k t n p ks r,s,h=>(H k t n p ks s (F.wfC_cons h).1).trans (q_ckN r _ (F.wfC_cons h).2)
theorem q_ckA (n:Int):∀(r:F) (i:Int) (s:Cs),r.wfC=true→Gq s (ckA nd n i r s)
 | .nil,i,s,_=>.refl _
 | .cons k t m p ks r,i,s,h=>by
   have h1:Gq s (if decide (i<n) && ixk k ks then fau 5 p s else s):=by
    split
    ·exact q_fau _ _ _
    ·exact .refl _
   exact (h1.trans (H k t m p ks _ (F.wfC_cons h).1)).trans (q_ckA n r (i+1) _ (F.wfC_cons h).2)
theorem q_ndG (ks:F) (i:Nat) (s:Cs) (h:ks.wfC=true):Gq s (ndG nd ks i s):=by
 unfold ndG
 cases hg:ks.get? i with
 | none=>exact .refl _
 | some x=>
   obtain ⟨k,t,n,p,f⟩:=x
   exact H k t n p f s (F.wfC_get ks i h hg)
theorem q_fnc (t:Tx) (n p:Int) (ks:F) (m:Nat) (s:Cs) (h:ks.wfC=true) (ht:t.length≤20000):Gq s (fncB nd t n p ks m (fncH t n p s)):=by
 unfold fncB fncH
 have e1:=(((q_lim p (s.fs.length:Int) 100 s).trans (q_unk t p _)).trans (q_lim p n 50 _)).trans (q_glo t _ ht)
 generalize glo t (lim p n 50 (unk t p (lim p (s.fs.length:Int) 100 s)))=s4 at e1⊢
 exact (((e1.trans (Gq.of (s':={s4 with fs:=s4.fs++[⟨t,p,n,0,[]⟩],nu:=s4.fs.length,lo:=[],lp:=0,ar:=s4.lo}) rfl)).trans (q_bri p (ks.take m) _)).trans (q_ndG H ks m _ h)).trans (Gq.of rfl)
theorem q_ckS (k:Int) (t:Tx) (n p:Int) (ks:F) (s:Cs) (hw:(one k t n p ks).wfC=true):Gq s (ckS nd k t n p ks s):=by
 obtain ⟨-,ht,h⟩:=F.wfC_one hw
 have L:=fun (n m:Int) (s:Cs)=>q_lim p n m s
 have hlop:∀(m:Nat) (s:Cs),Gq s (lopC nd p ks m s):=fun m s=>by
  unfold lopC
  have e0:=q_ckN H ((ks.take (ks.len - 1)).drop m) s (F.wfC_drop _ m (F.wfC_take ks _ h))
  refine e0.trans ?_
  clear e0
  generalize ckN nd ((ks.take (ks.len - 1)).drop m) s=s1
  unfold lopB
  have e1:=(Gq.of (s:=s1) (s':={s1 with lo:=s1.lo++[[],[],[]]}) rfl).trans (q_bri p (ks.take m) _)
  generalize bri p (ks.take m) {s1 with lo:=s1.lo++[[],[],[]]}=s3 at e1⊢
  exact ((e1.trans (Gq.of (s':={s3 with lp:=s3.lp+1}) rfl)).trans (q_ndG H ks (ks.len - 1) _ h)).trans (.of rfl)
 unfold ckS
 split
 ·exact .refl _
 split
 ·exact q_con _ _ _
 split
 ·exact q_con _ _ _
 split
 ·exact q_nmC _ _ _ ht
 split
 ·unfold ckI;split
  ·cases ks.get? 0 with
   | none=>exact .refl _
   | some x=>
     cases ks.get? 1 with
     | none=>exact .refl _
     | some y=>
       simp only[Option.elim]
       split
       ·exact q_fau _ _ _
       ·exact .refl _
  ·exact q_ckN H _ _ h
 split
 ·exact (L _ _ _).trans (q_ckN H _ _ h)
 split
 ·exact (L _ _ _).trans (q_ckN H _ _ h)
 unfold ckX
 split
 ·unfold blkC
  exact (q_ckN H ks s h).trans (.of rfl)
 split
 ·exact (((L _ _ _).trans (L _ _ _)).trans (q_ckN H _ _ (F.wfC_drop ks _ h))).trans (q_bri _ _ _)
 split
 ·exact ((L _ _ _).trans (L _ _ _)).trans (q_ckA H _ _ _ _ h)
 split
 ·exact ((Gq.of (s:=s) (s':={s with lp:=s.lp+1}) rfl).trans (q_ckN H ks _ h)).trans (.of rfl)
 split
 ·exact hlop _ _
 split
 ·exact ((L _ _ _).trans (L _ _ _)).trans (hlop _ _)
 split
 ·split
  ·exact q_fau _ _ _
  ·exact .refl _
 split
 ·exact (L _ _ _).trans (q_ckN H _ _ h)
 split
 ·exact q_fnc H _ _ _ _ _ _ h ht
 ·exact q_ckN H _ _ h
end
theorem q_ck:∀(N:Nat) (k:Int) (t:Tx) (n p:Int) (ks:F) (s:Cs),(one k t n p ks).wfC=true→Gq s (ck N k t n p ks s)
 | 0,_,_,_,_,_,_,_=>.refl _
 | N+1,k,t,n,p,ks,s,h=>q_ckS (q_ck N) k t n p ks s h
theorem csS_mem:∀(l:List Fn) (f:Fn),f∈l→f.cs.length≤csS l
 | [],f,h=>by cases h
 | x::l,f,h=>by
   have e:csS (x::l)=x.cs.length+csS l:=by simp[csS]
   rw[e]
   rcases List.mem_cons.1 h with h | h
   ·rw[h];omega
   ·have:=csS_mem l f h;omega
theorem chT_fit (l:List UInt8) (h1:(chT l).2.1=0) (h2:(chT l).2.2=0):(prT l).2.1=0∧∃p ks,(prT l).1=one 20 [] 0 p ks∧(one 20 [] 0 p ks).wfG l=true∧ks.siz≤60010∧(chT l).1.1.length=1+ks.z31∧(chT l).1.1.length≤1000000∧(∀f∈(chT l).1.1,f.cs.length≤2000000)∧(chT l).1.2.length≤1000000∧∀t∈(chT l).1.2,t.length≤20000:=by
 have h0:(prT l).2.1=0:=by
  unfold chT at h1
  split at h1
  ·assumption
  ·exact h1
 refine ⟨h0,?_⟩
 obtain ⟨p,ks,e,hw,hok,htop,hsz⟩:=prT_fit l h0
 refine ⟨p,ks,e,hw,hsz,?_⟩
 have hc:chT l=chF (one 20 [] 0 p ks):=by unfold chT;rw[if_pos h0,e]
 have hf:chF (one 20 [] 0 p ks)=if 100<ks.hgt+1 then (([],[]),6,p) else outC (ck (ks.siz+1) 20 [] 0 p ks (s0 p)):=rfl
 rw[hc,hf] at h1 h2⊢
 by_cases hh:100<ks.hgt+1
 ·rw[if_pos hh] at h1
  exact absurd (show (6:Int)=0 from h1) (by decide)
 ·rw[if_neg hh] at h1 h2⊢
  have hg:=gd_ck (ks.siz+1) 20 [] 0 p ks (s0 p)
  have hq:=q_ck (ks.siz+1) 20 [] 0 p ks (s0 p) (F.okT_wfC _ hok)
  have hk:(ck (ks.siz+1) 20 [] 0 p ks (s0 p)).bad=false→(ck (ks.siz+1) 20 [] 0 p ks (s0 p)).fs.length=1+ks.z31:=fun hb=>by
   rw[F.top_z ks htop]
   cases ks with
   | nil=>
     have e:ck 1 20 [] 0 p .nil (s0 p)={s0 p with lo:=[]}:=by
      show ckS (ck 0) 20 [] 0 p .nil (s0 p)=_
      unfold ckS ckX
      rw[if_neg (by simp[Cs.bad,s0])]
      simp only[Int.reduceEq,if_false,if_true]
      rfl
     show (ck 1 20 [] 0 p .nil (s0 p)).fs.length=1+0
     rw[e];rfl
   | cons k t n q ks' r=>
     obtain ⟨M,hM⟩:∃M,(F.cons k t n q ks' r).siz+1=M+2:=⟨ks'.siz+r.siz,by simp only[F.siz]⟩
     rw[hM] at hb⊢
     have q:=(chF_ok M p _ htop hb).len
     rw[q];rfl
  generalize ck (ks.siz+1) 20 [] 0 p ks (s0 p)=s1 at *
  unfold outC at h1 h2⊢
  by_cases hb:s1.bad=true
  ·rw[if_pos hb] at h1 h2
   have q:s1.cd=0:=h1
   have r:s1.ct=0:=h2
   unfold Cs.bad at hb
   simp[q,r] at hb
  ·rw[if_neg hb]
   have hw:=hg.wt
   have e0:(s0 p).wt=1:=rfl
   rw[e0] at hw
   unfold Cs.wt at hw
   refine ⟨hk (Bool.eq_false_iff.2 hb),by show s1.fs.length≤_;omega,fun f hf=>?_,by show s1.gl.length≤_;omega,fun t ht=>?_⟩
   ·have q:f.cs.length≤csS s1.fs:=csS_mem _ _ hf
    omega
   ·rcases hq t ht with q | q
    ·cases q
    ·exact q
end Go.Proofs.YtkjbgggghigapaaGreat


namespace Go.Proofs.YtkjbgggghigapaaGreat
open Go.RowKit
def gsS (fs:List Fn) (gl:List Tx) (S U:Nat):Gs:=⟨unF fs,0,gl,0,1,0,[],[],S,U⟩
def Kept (vs:List Value) (B:Nat) (g:Nat):Prop:=g<B∧∀v∈vs,v.ownBlock≠some g
theorem Nu.sk {w0 w:World} {tx:Tx} {vF vG vU:Value} {vs:List Value} {fs:List Fn} {n:Nat} {gl:List Tx} (h:Nu w0 tx vF vG vs (unF fs) vU n gl w) (hn:fs.length≠0) (hv:vs.length=fs.length) (hc:∀(i:Nat) (f:Fn) (v:Value),fs[i]?=some f→vs[i]?=some v→w0.ownsRow 0 79 3 v f.cs.length (vcl f.cs)):
 ∃x:Gx,x.S=w0.heap.size+2∧SK (Kept vs w0.heap.size) tx x (gsS fs gl x.S x.U) w:=by
 have hul:(unF fs).length=fs.length:=by simp[unF]
 obtain ⟨U,hU⟩:∃U,vU.ownBlock=some U:=by
  rcases h.ur.2 with ⟨_,e⟩ | ⟨g,cap,cur,e,_⟩
  ·omega
  ·exact ⟨g,by rw[e];rfl⟩
 have hUl:=h.ge U hU
 have hcl:∀(i:Nat) (v:Value) (g:Nat),vs[i]?=some v→v.ownBlock=some g→g<w0.heap.size:=fun i v g hi hg=>by
  obtain ⟨f,hf⟩:∃f,fs[i]?=some f:=⟨_,List.getElem?_eq_getElem (by rw[←hv];exact (List.getElem?_eq_some_iff.1 hi).1)⟩
  exact ((hc i f v hf hi).lt g hg).2
 obtain ⟨D,hI,hM,hD⟩:=h.mp
 refine ⟨⟨w0.heap.size+2,U,w0.heap.size+1,vU,.slice none 0 0,.slice none 0 0,vs,List.replicate (unF fs).length (.slice none 0 0),fun g=>if g=w0.heap.size+2 then 1 else if g=w0.heap.size+1 then 4 else if g=U then 3 else if vs.any (fun v=>decide (v.ownBlock=some g))=true then 7 else 0⟩,rfl,h.sx,h.ur,⟨D,n,hM,hD⟩,?_,?_,by rw[hv];exact hul.symm,by simp[gsS],hU,if_pos rfl,?_,?_,?_,?_,?_,rfl,rfl⟩
 ·intro i u v hu hvi
  have q:(unF fs)[i]?=some u:=hu
  unfold unF at q
  rw[List.getElem?_map] at q
  obtain ⟨f,hf,rfl⟩:∃f,fs[i]?=some f∧(⟨f.nm,f.pa,f.sl,f.cs,[]⟩:Gu)=u:=by simpa using q
  exact own_keep (hc i f v hf hvi) fun g hg=>h.be.block g ((hc i f v hf hvi).lt g hg).2
 ·intro i u v hu hvi
  have q:(unF fs)[i]?=some u:=hu
  unfold unF at q
  rw[List.getElem?_map] at q
  obtain ⟨f,hf,rfl⟩:∃f,fs[i]?=some f∧(⟨f.nm,f.pa,f.sl,f.cs,[]⟩:Gu)=u:=by simpa using q
  have e:v= .slice none 0 0:=by
   have q:=List.mem_of_getElem? hvi
   exact (List.mem_replicate.1 q).2
  subst e
  exact World.ownsRow_nil _ 0 48 4
 ·show (if U=w0.heap.size+2 then 1 else if U=w0.heap.size+1 then 4 else if U=U then 3 else _)=3
  rw[if_neg (by omega),if_neg (by omega),if_pos rfl]
 ·show (if w0.heap.size+1=w0.heap.size+2 then 1 else if w0.heap.size+1=w0.heap.size+1 then 4 else _)=4
  rw[if_neg (by omega),if_pos rfl]
 ·intro i v g hi hg
  have l:=hcl i v g hi hg
  show (if g=w0.heap.size+2 then 1 else if g=w0.heap.size+1 then 4 else if g=U then 3 else if vs.any (fun v=>decide (v.ownBlock=some g))=true then 7 else 0)=7
  rw[if_neg (by omega),if_neg (by omega),if_neg (by omega),if_pos]
  exact List.any_eq_true.2 ⟨v,List.mem_of_getElem? hi,by simpa using hg⟩
 ·intro i v g hi hg
  have e:v= .slice none 0 0:=(List.mem_replicate.1 (List.mem_of_getElem? hi)).2
  subst e
  simp[Value.ownBlock] at hg
 ·intro g hg
  have l:=hg.1
  refine ⟨Nat.lt_of_lt_of_le l h.be.size,?_⟩
  show (if g=w0.heap.size+2 then 1 else if g=w0.heap.size+1 then 4 else if g=U then 3 else if vs.any (fun v=>decide (v.ownBlock=some g))=true then 7 else 0)=0
  rw[if_neg (by omega),if_neg (by omega),if_neg (by omega),if_neg]
  intro q
  obtain ⟨v,hv,e⟩:=List.any_eq_true.1 q
  exact hg.2 v hv (by simpa using e)
def genS (l:Tx) (S U:Nat):Gs:=mkU (gn (lfT l) ((prT l).1.siz+1)) .nil (prT l).1 0 (gsS (chT l).1.1 (chT l).1.2 S U)
def okRep (l:Tx):Bool:=decide ((chT l).2.1=0) && decide ((chT l).2.2=0)
def genU (l:Tx) (S U:Nat):List Gu:=if okRep l=true then (genS l S U).us else []
def genG (l:Tx):List Tx:=if okRep l=true then (chT l).1.2 else []
structure Gp (w:World) (vU vG:Value) (us:List Gu) (gl:List Tx):Prop where
 ex:∃vc vk:List Value,w.ownsRow 0 41 5 vU us.length (ucl us vc vk)∧vc.length=us.length∧vk.length=us.length∧(∀(i:Nat) (u:Gu) (v:Value),us[i]?=some u→vc[i]?=some v→w.ownsRow 0 79 3 v u.cs.length (vcl u.cs))∧∀(i:Nat) (u:Gu) (v:Value),us[i]?=some u→vk[i]?=some v→w.ownsRow 0 48 4 v u.cd.length (icl u.cd)
 gr:w.ownsRow 0 9 1 vG gl.length (strs gl)
theorem Gp.nil (w:World):Gp w (.slice none 0 0) (.slice none 0 0) [] []:=⟨⟨[],[],World.ownsRow_nil _ _ _ _,rfl,rfl,fun i u v hu=>by simp at hu,fun i u v hu=>by simp at hu⟩,World.ownsRow_nil _ _ _ _⟩
theorem Gp.keep {w w':World} {vU vG:Value} {us:List Gu} {gl:List Tx} (h:Gp w vU vG us gl) (k:∀g,g<w.heap.size→w'.heap[g]?=w.heap[g]?):Gp w' vU vG us gl:=by
 obtain ⟨vc,vk,h1,h2,h3,h4,h5⟩:=h.ex
 exact ⟨⟨vc,vk,own_keep h1 fun g hg=>k g (h1.lt g hg).2,h2,h3,fun i u v hu hv=>own_keep (h4 i u v hu hv) fun g hg=>k g ((h4 i u v hu hv).lt g hg).2,fun i u v hu hv=>own_keep (h5 i u v hu hv) fun g hg=>k g ((h5 i u v hu hv).lt g hg).2⟩,own_keep h.gr fun g hg=>k g (h.gr.lt g hg).2⟩
theorem Gp.below {w w':World} {vU vG:Value} {us:List Gu} {gl:List Tx} (h:Gp w vU vG us gl) (k:Below w.heap.size w w'):Gp w' vU vG us gl:=h.keep fun g hg=>k.block g hg
end Go.Proofs.YtkjbgggghigapaaGreat


namespace Go.Proofs.YtkjbgggghigapaaGreat
open Go.RowKit
structure Rq (lo:Nat) (w:World) (vF vG:Value) (fs:List Fn) (gl:List Tx):Prop where
 fr:∃vs,w.ownsRow 0 43 5 vF fs.length (fcl fs vs)∧vs.length=fs.length∧(∀(i:Nat) (f:Fn) (v:Value),fs[i]?=some f→vs[i]?=some v→w.ownsRow 0 79 3 v f.cs.length (vcl f.cs))∧∀(i:Nat) (v:Value) (g:Nat),vs[i]?=some v→v.ownBlock=some g→lo≤g
 gr:w.ownsRow 0 9 1 vG gl.length (strs gl)
theorem Rq.nil (lo:Nat) (w:World):Rq lo w (.slice none 0 0) (.slice none 0 0) [] []:=⟨⟨[],World.ownsRow_nil _ _ _ _,rfl,fun i f v hf=>by simp at hf,fun i v g hv=>by simp at hv⟩,World.ownsRow_nil _ _ _ _⟩
def ChQ (w:World) (r:(List Fn×List Tx)×Int×Int) (e:Ending) (w':World):Prop:=∃vF vG,e= .returned (.tuple #[.agg #[vF,vG],.agg #[.int .i64 r.2.1,.int .i64 r.2.2]])∧Rq w.heap.size w' vF vG r.1.1 r.1.2∧Below w.heap.size w w'
end Go.Proofs.YtkjbgggghigapaaGreat


namespace Go.Proofs.YtkjbgggghigapaaGreat
open Go.RowKit
theorem CK.loops {No:Nat→Prop} {b:Nat} {x:Cx} {s:Cs} {w:World} (h:CK No b x s w) (l:Int):Ck No b {s with lp:=l} (w.setCell ⟨b,5,none⟩ (.int .i64 l))∧Kn No w (w.setCell ⟨b,5,none⟩ (.int .i64 l)):=by
 have k:Tr x (fun l=>l=1) w (w.setCell ⟨b,5,none⟩ (.int .i64 l)):=(Tr.refl _ _ w).set h.lb _
 exact ⟨⟨x,h.own k (h.bx.put (j:=5) _) rfl rfl rfl rfl rfl⟩,h.kn (Kn.refl _ _) k rfl rfl rfl (by decide)⟩
theorem Cy.loops {No:Nat→Prop} {b:Nat} {s:Cs} {W w:World} {X:Nat} {cur:Array Value} (h:Cy No b s W X cur w) (l:Int):Cy No b {s with lp:=l} W X cur (w.setCell ⟨b,5,none⟩ (.int .i64 l)):=by
 obtain ⟨x,hx⟩:=h.ck
 have:=hx.loops l
 exact h.step (e:=.returned (.tuple #[])) ⟨rfl,this.1,this.2⟩
theorem slice_mid (a:Option Addr) (m c:Nat) (ks:F) (hm:m+1≤ks.len) (hc:ks.len≤c) (_hl:c≤maxLen) {P:Nat→Prop}:∃a2 c2,(∀W,(Instr.sliceAt 52 (.slice a ks.len c) (some (.int .i64 (m:Nat))) (some (.int .i64 ((ks.len:Int) - 1))) none).run Tryz.prog W= .ok (.slice a2 (ks.len - 1 - m) c2) W)∧∀w,Rv w P a ks→Rv w P a2 ((ks.take (ks.len - 1)).drop m):=by
 refine ⟨if c=m then a else a.map (·.add (m * 5)),c - m,fun W=>?_,fun w h=>?_⟩
 ·have e:((ks.len:Int) - 1)=((ks.len - 1:Nat):Int):=by omega
  rw[e]
  have h1:m≤ks.len - 1:=by omega
  have h2:ks.len - 1≤c:=by omega
  simp[go_sem,Instr.sliceAt,h1,h2]
 ·rw[if_neg (by omega)]
  obtain ⟨x,hx⟩:=ks.get_some 0 (by omega)
  obtain ⟨g,o,_,_,e,_⟩:=Rv.nth ks 0 h (k:=x.1) (t:=x.2.1) (n:=x.2.2.1) (p:=x.2.2.2.1) (ks:=x.2.2.2.2) hx
  subst e
  have q:=Rv.drop (ks.take (ks.len - 1)) m (h.take (ks.len - 1))
  simp only[Option.map_some]
  unfold Addr.add
  split
  ·next h0=>
   have h0:m=0:=by omega
   subst h0
   simpa using q
  ·exact q
set_option maxRecDepth 20000 in
set_option maxHeartbeats 8000000 in
theorem loopc_any {N:Nat} {nd:Ndc} (H:∀k t n p ks s,Gd (ks.siz+1) s (nd k t n p ks s)) (CE:CN 23 N nd) (No:Nat→Prop) (b:Nat) (s:Cs) (W:World) (k:Int) (t:Tx) (n:Int) (m:Nat) (p:Int) (a:Option Addr) (c:Nat) (ks:F) (h:Ck No b s W) (hr:Rv W No a ks) (hs:ks.siz<N+1) (hwk:ks.wfC=true) (hcc:ks.len≤c∧c≤maxLen) (hm:m+1≤ks.len) (hL:s.wt+4 * (ks.siz+1)≤1000000) (hp0:0≤s.lp) (hp:s.lp+((ks.siz:Nat):Int)+1≤1000000):
 Calls Tryz.prog 59 #[.pointer (some ⟨b,0,none⟩),(.agg #[.int .i64 (k),.string ⟨(t).toArray⟩,.int .i64 (n),.int .i64 (p),.slice a ks.len c]),.int .i64 (m:Nat)] W (CP No b W (lopC nd p ks m s)):=by
 obtain ⟨i0,hi0,hz0,hz1,hz2⟩:=info_parts info9
 have hlen:=ks.len_siz
 have wl:IntKind.i64.wrap ((ks.len:Int) - 1)=(ks.len:Int) - 1:=by rw[IntKind.wrap_i64];omega
 have B:=h.cy #[.int .i64 k,.string ⟨t.toArray⟩,.int .i64 n,.int .i64 p,.slice a ks.len c]
 obtain ⟨X,hX⟩:∃X,W.heap.size=X:=⟨_,rfl⟩
 obtain ⟨W1,hW1⟩:∃W1,W.alloc (.cells #[.int .i64 (k),.string ⟨(t).toArray⟩,.int .i64 (n),.int .i64 (p),.slice a ks.len c] 54)=W1:=⟨_,rfl⟩
 rw[hX,hW1] at B
 obtain ⟨a2,c2,hsl,hR2⟩:=slice_mid a m c ks hm hcc.1 hcc.2 (P:=fun g=>No g∨g=X)
 -- sizes
 have z1:=F.td_siz ks (ks.len - 1)
 have z2:=F.td_siz (ks.take (ks.len - 1)) m
 rw[F.take_take ks m (ks.len - 1) (by omega)] at z2
 have z3:=(ks.take m).len_siz
 have tl:=F.take_len ks m (by omega)
 have dl:((ks.take (ks.len - 1)).drop m).len=ks.len - 1 - m:=by rw[F.drop_len,F.take_len ks (ks.len - 1) (by omega)]
 obtain ⟨⟨k9,t9,n9,p9,ks9⟩,hget⟩:=ks.get_some (ks.len - 1) (by omega)
 have hsz9:=F.get_drop ks (ks.len - 1) hget
 have hw9:=F.wfC_get ks (ks.len - 1) hwk hget
 have C1:=nodes_any H CE (fun g=>No g∨g=X) b s W1 a2 c2 ((ks.take (ks.len - 1)).drop m) B.ck (hR2 W1 (B.rv hr)) (by omega) (F.wfC_drop _ m (F.wfC_take ks _ hwk)) (by omega) hp0 (by omega)
 rw[dl] at C1
 have g1:=gd_ckN H ((ks.take (ks.len - 1)).drop m) s
 have HS:Hid (lopC nd p ks m s=lopB nd p ks m (ckN nd ((ks.take (ks.len - 1)).drop m) s)):=rfl
 generalize ckN nd ((ks.take (ks.len - 1)).drop m) s=s1 at *
 have w1:=g1.wt
 have l1:=g1.lp
 obtain ⟨p0,p1,p2,p3,p4⟩:=B.bx.five
 have HB:Hid (Cy No b s W X #[.int .i64 k,.string ⟨t.toArray⟩,.int .i64 n,.int .i64 p,.slice a ks.len c] W1∧Rv W No a ks):=⟨B,hr⟩
 have h96:Hid (∀w,Ck (fun g=>No g∨g=X) b {s1 with lo:=s1.lo++[[],[],[]]} w→Rv w (fun g=>No g∨g=X) a ks→Calls Tryz.prog 81 #[.pointer (some ⟨b,0,none⟩),(.agg #[.int .i64 (k),.string ⟨(t).toArray⟩,.int .i64 (n),.int .i64 (p),.slice a ks.len c]),.slice a m c] w (CP (fun g=>No g∨g=X) b w (bri p (ks.take m) {s1 with lo:=s1.lo++[[],[],[]]}))):=fun w hc hv=>by
  have:=bring_any (fun g=>No g∨g=X) b {s1 with lo:=s1.lo++[[],[],[]]} w k t n p (.slice a ks.len c) a c (ks.take m) hc (hv.take m) (by simp only[Cs.wt,List.length_append,List.length_cons,List.length_nil] at w1 hL⊢;omega)
  rw[tl] at this
  exact this
 have g3:=gd_bri p (ks.take m) {s1 with lo:=s1.lo++[[],[],[]]}
 have b3:=bri_lo p (ks.take m) {s1 with lo:=s1.lo++[[],[],[]]}
 have q3:=wt_bri p (ks.take m) {s1 with lo:=s1.lo++[[],[],[]]}
 have HS2:Hid (lopC nd p ks m s={ndG nd ks (ks.len - 1) {bri p (ks.take m) {s1 with lo:=s1.lo++[[],[],[]]} with lp:=(bri p (ks.take m) {s1 with lo:=s1.lo++[[],[],[]]}).lp+1} with lp:=(ndG nd ks (ks.len - 1) {bri p (ks.take m) {s1 with lo:=s1.lo++[[],[],[]]} with lp:=(bri p (ks.take m) {s1 with lo:=s1.lo++[[],[],[]]}).lp+1}).lp - 1,lo:=(ndG nd ks (ks.len - 1) {bri p (ks.take m) {s1 with lo:=s1.lo++[[],[],[]]} with lp:=(bri p (ks.take m) {s1 with lo:=s1.lo++[[],[],[]]}).lp+1}).lo.take s1.lo.length}):=HS.out
 have l3:=g3.lp
 generalize bri p (ks.take m) {s1 with lo:=s1.lo++[[],[],[]]}=s3 at *
 simp only[Cs.wt,List.length_append,List.length_cons,List.length_nil] at w1 hL q3 b3 l3
 have w4:({s3 with lp:=s3.lp+1}:Cs).wt=s3.wt:=rfl
 have hn:ndG nd ks (ks.len - 1) {s3 with lp:=s3.lp+1}=nd k9 t9 n9 p9 ks9 {s3 with lp:=s3.lp+1}:=by unfold ndG;rw[hget];rfl
 rw[hn] at HS2
 have g5:=H k9 t9 n9 p9 ks9 {s3 with lp:=s3.lp+1}
 have l5:=g5.lp
 have o5:=g5.lo
 simp only at l5 o5
 have C24:Hid (∀w a9 c9,Ck (fun g=>No g∨g=X) b {s3 with lp:=s3.lp+1} w→Rv w (fun g=>No g∨g=X) a9 ks9→(ks9.len≤c9∧c9≤maxLen)→Calls Tryz.prog 23 #[.pointer (some ⟨b,0,none⟩),(.agg #[.int .i64 (k9),.string ⟨(t9).toArray⟩,.int .i64 (n9),.int .i64 (p9),.slice a9 ks9.len c9])] w (CP (fun g=>No g∨g=X) b w (nd k9 t9 n9 p9 ks9 {s3 with lp:=s3.lp+1}))):=fun w a9 c9 hc hv h9=>
  CE _ b _ w k9 t9 n9 p9 a9 c9 ks9 hc hv (by omega) hw9 h9 (by rw[w4];simp only[Cs.wt];omega) (by show 0≤s3.lp+1;omega) (by show s3.lp+1+((ks9.siz:Nat):Int)+1≤1000000;omega)
 generalize nd k9 t9 n9 p9 ks9 {s3 with lp:=s3.lp+1}=s5 at *
 have wp1:IntKind.i64.wrap (s3.lp+1)=s3.lp+1:=by rw[IntKind.wrap_i64];omega
 have wp5:IntKind.i64.wrap (s5.lp - 1)=s5.lp - 1:=by rw[IntKind.wrap_i64];omega
 have hlo1:s1.lo.length≤1000000:=by omega
 have hlo5:s1.lo.length≤s5.lo.length:=by omega
 have HG:Hid (ks.get? (ks.len - 1)=some (k9,t9,n9,p9,ks9)):=hget
 have hlast:((ks.len - 1:Nat):Int)=(ks.len:Int) - 1:=by omega
 have hlt1:(ks.len:Int) - 1<(ks.len:Int):=by omega
 have hge1:¬(ks.len:Int) - 1<0:=by omega
 have hmc:(m:Int)≤(c:Int):=by omega
 have hmc':m≤c:=by omega
 clear h hr B hget hn g1 g3 g5 w1 l1 z1 z2 z3 tl dl hsz9 hw9 hwk hL hp0 hp b3 q3 l3 w4 l5 o5 HS hR2 hs
 go_enter Tryz.func59,Tryz.ntmps59
 go_wp2_with fail
 refine C1.mono ?_
 rintro e v1 hq
 have D1:=HB.out.1.step hq
 obtain ⟨rfl,-⟩:=hq
 obtain ⟨x1,hx1⟩:=D1.ck
 obtain ⟨aL,cL,eL⟩:=slice_shape hx1.lr
 have c4:v1.cell? ⟨b,4,none⟩=some (.slice aL s1.lo.length cL):=by rw[←eL];exact hx1.bx.c 4 _ rfl
 have hlr:=hx1.lr
 rw[eL] at hlr
 have HF:Hid (∀o w3,(v1.alloc o).grownBy w3 (Value.ownBlock (.slice aL s1.lo.length cL))→w3.frozen? ⟨b,4,none⟩=false∧w3.cell? ⟨b,4,none⟩=some (.slice aL s1.lo.length cL)):=fun o w3 hg3=>by
  rw[←eL] at hg3⊢
  have hb3:Bx b 76 (ccl x1 s1) w3:=⟨(hg3.block b (Nat.lt_of_lt_of_le hx1.lt (by simp)) (fun e=>by have:=hx1.lL b e.symm;have:=hx1.lb;omega)).trans (hx1.bx.alloc o).blk⟩
  exact ⟨hb3.f 4,hb3.c 4 _ rfl⟩
 have HX:Hid (CK (fun g=>No g∨g=X) b x1 s1 v1∧x1.vL= .slice aL s1.lo.length cL):=⟨hx1,eL⟩
 have c4A:∀o,(v1.alloc o).cell? ⟨b,4,none⟩=some (.slice aL s1.lo.length cL):=fun o=>by rw[←eL];exact (hx1.alloc o).bx.c 4 _ rfl
 have HD1:Hid _:=D1
 clear C1 D1 hx1 eL p0 p1 p2 p3 p4 hsl
 go_wp2_with (at_builtin;refine wpList_append_lies _ rfl _ _ 23 rfl 0 9 i0 _ 1 16 Tryz.underlying23 hi0 hz0 hz1 hz2 rfl (by omega) (.slice aL s1.lo.length cL) s1.lo.length (strs s1.lo) rfl (hlr.alloc _) ⟨v1.heap.size,0,none⟩ 3 3 [.string ⟨#[]⟩,.string ⟨#[]⟩,.string ⟨#[]⟩] rfl rfl (World.news_of_block (cs:=#[.string ⟨#[]⟩,.string ⟨#[]⟩,.string ⟨#[]⟩]) (t:=9) (fr:=(0,0)) (Bx.new v1 9 #[.string ⟨#[]⟩,.string ⟨#[]⟩,.string ⟨#[]⟩]).blk) (by simp[Value.oneCell']) (by omega) (by unfold maxLen;omega) (by omega) (by omega) _ rfl ?_;intro gg cc w3 hown3 hg3 hat3 hlt3;obtain ⟨fz4,fc4⟩:=HF.out _ w3 hg3)
 have hA:=HX.out.1.appL (ys:=[[],[],[]]) (o:=.cells #[.string ⟨#[]⟩,.string ⟨#[]⟩,.string ⟨#[]⟩] 9) hown3 (by rw[HX.out.2];exact hg3) (by rw[HX.out.2];exact hat3)
 have D2:=HD1.out.step (e:=.returned (.tuple #[])) ⟨rfl,hA.1,hA.2⟩
 simp only[List.length_cons,List.length_nil,Nat.zero_add,Nat.reduceAdd] at D2
 obtain ⟨v2,hv2⟩:∃v2,w3.setCell ⟨b,4,none⟩ (.slice (some ⟨gg,0,none⟩) (s1.lo.length+3) cc)=v2:=⟨_,rfl⟩
 rw[hv2] at D2
 have K2:=h96.out v2.drew D2.drew.ck (D2.drew.rv HB.out.2)
 obtain ⟨p0,p1,p2,p3,p4⟩:=D2.bx.five
 have HD2:Hid _:=D2.drew
 clear hA D2 hown3 hg3 hat3 hlt3 fz4 fc4 HX HF HD1 c4A c4 hlr h96
 rw[hv2]
 clear hv2
 go_cut [] (fun wx=>Cy No b s3 W X #[.int .i64 k,.string ⟨t.toArray⟩,.int .i64 n,.int .i64 p,.slice a ks.len c] wx)
 case first=>
  go_region_with (refine K2.mono ?_;rintro e v4 hq;have D4:=HD2.out.step hq;obtain ⟨rfl,-⟩:=hq)
  all_goals
   go_wp2_with fail
   go_meet
   exact D4
 case rest=>
  have D3:=hcut
  obtain ⟨x3,hx3⟩:=D3.ck
  have b5:wc.cell? ⟨b,5,none⟩=some (.int .i64 s3.lp):=hx3.bx.c 5 _ rfl
  have f5:=hx3.bx.f 5
  have D4:=D3.loops (s3.lp+1)
  obtain ⟨g9,o9,a9,c9,ea,hg9,e0,e1,e2,e3,e4,hv9,hc9⟩:=Rv.nth ks (ks.len - 1) (D4.rv HB.out.2) HG.out
  subst ea
  obtain ⟨p0,p1,p2,p3,p4⟩:=D4.bx.five
  have K4:=C24.out _ a9 c9 D4.ck hv9 hc9
  obtain ⟨v4,hv4⟩:∃v4,wc.setCell ⟨b,5,none⟩ (.int .i64 (s3.lp+1))=v4:=⟨_,rfl⟩
  rw[hv4] at D4 e0 e1 e2 e3 e4 p0 p1 p2 p3 p4 K4
  have HD4:Hid _:=D4
  clear hcut K2 HD2 D3 hx3 D4 hg9 hv9 hc9 C24
  go_wp2_with fail
  refine K4.mono ?_
  rintro e v5 hq
  have D5:=HD4.out.step hq
  obtain ⟨rfl,-⟩:=hq
  obtain ⟨x5,hx5⟩:=D5.ck
  have b5:v5.cell? ⟨b,5,none⟩=some (.int .i64 s5.lp):=hx5.bx.c 5 _ rfl
  have f5:=hx5.bx.f 5
  have D6:=D5.loops (s5.lp - 1)
  obtain ⟨v6,hv6⟩:∃v6,v5.setCell ⟨b,5,none⟩ (.int .i64 (s5.lp - 1))=v6:=⟨_,rfl⟩
  rw[hv6] at D6
  obtain ⟨x6,hx6⟩:=D6.ck
  obtain ⟨aM,cM,eM⟩:=slice_shape hx6.lr
  have d4:v6.cell? ⟨b,4,none⟩=some (.slice aM s5.lo.length cM):=by rw[←eM];exact hx6.bx.c 4 _ rfl
  have f4:=hx6.bx.f 4
  have hcap:s5.lo.length≤cM:=by have q:=hx6.lr;rw[eM] at q;exact (own_cut q (Nat.zero_le _)).2.2
  have hA:=hx6.cutL eM hlo5
  have HE:Hid (CP No b W {s5 with lp:=s5.lp - 1,lo:=s5.lo.take s1.lo.length} (.returned (.tuple #[])) (v6.setCell ⟨b,4,none⟩ (.slice aM s1.lo.length cM))):=(D6.step (e:=.returned (.tuple #[])) ⟨rfl,hA.1,hA.2⟩).out
  have j1:(s1.lo.length:Int)≤(cM:Int):=by omega
  have j2:s1.lo.length≤cM:=by omega
  clear K4 D5 HD4 hx5 D6 hx6 eM hcap hA e0 e1 e2 e3 e4 p0 p1 p2 p3 p4
  go_wp2
  go_end0
  rw[HS2.out]
  exact HE.out
end Go.Proofs.YtkjbgggghigapaaGreat


namespace Go.Proofs.YtkjbgggghigapaaGreat
open Go.RowKit
theorem info48:(Tryz.prog.info? 43).map (fun i=>(i.zero,i.size,i.bytes))=some (some (.agg #[.string ⟨#[]⟩,.int .i64 0,.int .i64 0,.int .i64 0,.slice none 0 0]),5,64):=by kernel_rfl
theorem fs_fau (c a:Int) (s:Cs):(fau c a s).fs=s.fs:=by unfold fau;split<;>rfl
theorem fs_lim (p n m:Int) (s:Cs):(lim p n m s).fs=s.fs:=by
 unfold lim;split
 ·exact fs_fau _ _ _
 ·rfl
theorem fs_unk (t:Tx) (p:Int) (s:Cs):(unk t p s).fs=s.fs:=by
 unfold unk;split
 ·exact fs_fau _ _ _
 ·rfl
theorem fs_glo (t:Tx) (s:Cs):(glo t s).fs=s.fs:=by unfold glo;split<;>rfl
theorem CK.appF {No:Nat→Prop} {b:Nat} {x:Cx} {s:Cs} {w w3:World} {t:Tx} {p n:Int} {g' cc:Nat} {o:Obj} (h:CK No b x s w) (hown:w3.ownsRow 0 43 5 (.slice (some ⟨g',0,none⟩) (s.fs.length+1) cc) (s.fs.length+1) (fcl s.fs x.vs++[.string ⟨t.toArray⟩,.int .i64 p,.int .i64 n,.int .i64 0,.slice none 0 0]))
 (hg3:(w.alloc o).grownBy w3 x.vF.ownBlock) (hat:x.vF.ownBlock=some g'∨g'=(w.alloc o).heap.size):Ck No b {s with fs:=s.fs++[⟨t,p,n,0,[]⟩]} (w3.setCell ⟨b,0,none⟩ (.slice (some ⟨g',0,none⟩) (s.fs.length+1) cc))∧Kn No w (w3.setCell ⟨b,0,none⟩ (.slice (some ⟨g',0,none⟩) (s.fs.length+1) cc)):=by
 have s3:=hg3.size
 have z1:(w.alloc o).heap.size=w.heap.size+1:=by simp
 have h1:=h.at h.lF (g':=g') (hat.imp id fun e=>by omega)
 generalize hlab:(fun g=>if g=g' then 2 else x.lab g)=lab' at h1
 have hl':lab' g'=2:=by rw[←hlab];exact if_pos rfl
 have hbg:g'≠b:=fun e=>by have:=h1.lb;rw[←e] at this;simp only at this;omega
 have k0:Tr {x with lab:=lab'} (fun l=>l=1∨l=2) w w3:=((Tr.refl _ _ w).alloc o).trans (Tr.app hg3 h1.lF (.inr rfl))
 have k:Tr {x with lab:=lab'} (fun l=>l=1∨l=2) w (w3.setCell ⟨b,0,none⟩ (.slice (some ⟨g',0,none⟩) (s.fs.length+1) cc)):=k0.set (.inl h1.lb) _
 have hb3:Bx b 76 (ccl x s) w3:=⟨(hg3.block b (by have:=h.lt;omega) (fun e=>by have:=h1.lF b e.symm;have:=h1.lb;simp only at *;omega)).trans (h.bx.alloc o).blk⟩
 refine ⟨⟨{x with vF:= .slice (some ⟨g',0,none⟩) (s.fs.length+1) cc,vs:=x.vs++[.slice none 0 0],lab:=lab'},?_⟩,?_⟩
 ·refine ⟨hb3.put (j:=0) _,?_,h1.gr' k (by simp),h1.lr' k (by simp),h1.ar' k (by simp),h1.mp' k (by simp),fun i f v hf hv=>?_,by simp[h.vl],h1.lb,fun g hg=>?_,h1.lG,h1.lL,h.lA,h1.lm,fun i v g hv hg=>?_,h1.no' k.size,by simp only[List.length_append,List.length_singleton];have:=h.nu;omega⟩
  ·simp only
   rw[fcl_app _ _ _ _ h.vl,List.length_append,List.length_singleton]
   exact own_set hown (fun g hg=>by have e2:g'=g:=by simpa [Value.ownBlock] using hg
                                    omega) _
  ·by_cases e:i<s.fs.length
   ·simp only at hf hv
    rw[List.getElem?_append_left e] at hf
    rw[List.getElem?_append_left (by rw[h.vl];exact e)] at hv
    exact h1.cs' k (by omega) hf hv
   ·simp only at hf hv
    rw[List.getElem?_append_right (by omega)] at hf
    rw[List.getElem?_append_right (by rw[h.vl];omega)] at hv
    have hi:i - s.fs.length=0:=by have:=(List.getElem?_eq_some_iff.1 hf).1;simp at this;omega
    rw[hi] at hf
    rw[h.vl,hi] at hv
    simp at hf hv
    subst hf hv
    exact World.ownsRow_nil _ _ _ _
  ·have e2:g'=g:=by simpa [Value.ownBlock] using hg
   rw[←e2];exact hl'
  ·by_cases e:i<s.fs.length
   ·simp only at hv
    rw[List.getElem?_append_left (by rw[h.vl];exact e)] at hv
    exact h1.lc i v g hv hg
   ·simp only at hv
    rw[List.getElem?_append_right (by rw[h.vl];omega)] at hv
    have hi:i - x.vs.length=0:=by have:=(List.getElem?_eq_some_iff.1 hv).1;simp at this;omega
    rw[hi] at hv
    simp at hv
    subst hv
    simp[Value.ownBlock] at hg
 ·refine ⟨hg3.os,hg3.tape,hg3.output,k.size,fun g hg hn=>k.block g hg ?_⟩
  rw[(h1.no g hn).2];simp
theorem Ck.drop {No:Nat→Prop} {b Y:Nat} {s:Cs} {w:World} {e:TypeId} {cur:Array Value} (h:Ck (fun g=>No g∨g=Y) b s w) (hY:Bx Y e cur w) (he:¬e=9):Ck No b s w:=by
 obtain ⟨x,hx⟩:=h
 refine ⟨x,hx.less (fun g e=>.inl e) fun g hg=>(hx.lA g hg).elim id fun e1=>?_⟩
 subst e1
 rcases hx.ar.2 with ⟨e2,_⟩ | ⟨g',cap,cu,e2,_,h3,_⟩
 ·rw[e2] at hg;simp[Value.ownBlock] at hg
 ·rw[e2] at hg
  have e3:g'=g:=by simpa [Value.ownBlock] using hg
  rw[e3,hY.blk] at h3
  injection h3 with h3
  injection h3 with _ h4
  exact absurd h4 he
section
variable {No:Nat→Prop} {b:Nat} {x:Cx} {s:Cs} {w w':World}
theorem CK.enter (h:CK No b x s w) {q:Nat} (hq:q<s.fs.length) (k:Tr x (fun l=>l=1) w w') (hb:Bx b 76 #[x.vF,x.vG,.map (some x.m),.int .i64 (q:Nat),.slice none 0 0,.int .i64 0,x.vL,.int .i64 s.cd,.int .i64 s.ct] w'):
 Ck (fun g=>No g∨x.vL.ownBlock=some g) b {s with nu:=q,lo:=[],lp:=0,ar:=s.lo} w':=by
 have e:∀g,x.lab g≠4→(if x.vL.ownBlock=some g then 0 else x.lab g)=x.lab g:=fun g hg=>if_neg fun e=>hg (h.lL g e)
 refine ⟨{x with vL:=.slice none 0 0,vA:=x.vL,lab:=fun g=>if x.vL.ownBlock=some g then 0 else x.lab g},hb,h.fr' k (by decide),h.gr' k (by decide),World.ownsRow_nil _ _ _ _,h.lr' k (by decide),h.mp' k (by decide),fun i _ _ hf hv=>h.cs' k (by omega) hf hv,h.vl,?_,fun g hg=>?_,fun g hg=>?_,fun g hg=>?_,fun g hg=>.inr hg,?_,fun i v g hv hg=>?_,fun g hg=>?_,hq⟩
 ·exact (e b (by rw[h.lb];decide)).trans h.lb
 ·exact (e g (by rw[h.lF g hg];decide)).trans (h.lF g hg)
 ·exact (e g (by rw[h.lG g hg];decide)).trans (h.lG g hg)
 ·simp[Value.ownBlock] at hg
 ·exact (e _ (by rw[h.lm];decide)).trans h.lm
 ·exact (e g (by rw[h.lc i v g hv hg];omega)).trans (h.lc i v g hv hg)
 ·rcases hg with hg | hg
  ·exact ⟨Nat.lt_of_lt_of_le (h.no g hg).1 k.size,(e g (by rw[(h.no g hg).2];decide)).trans (h.no g hg).2⟩
  ·exact ⟨Nat.lt_of_lt_of_le (h.lr.lt g hg).2 k.size,if_pos hg⟩
theorem CK.leave {x2:Cx} {s2:Cs} {w2:World} (h0:CK No b x s w) (h:CK (fun g=>No g∨x.vL.ownBlock=some g) b x2 s2 w2) (kn:Kn (fun g=>No g∨x.vL.ownBlock=some g) w w2) (hf:s.fs.length≤s2.fs.length) (k:Tr x2 (fun l=>l=1) w2 w')
 (hb:Bx b 76 #[x2.vF,x2.vG,.map (some x2.m),.int .i64 (s.nu:Nat),x.vL,.int .i64 s.lp,.slice none 0 0,.int .i64 s2.cd,.int .i64 s2.ct] w'):Ck No b {s2 with nu:=s.nu,lo:=s.lo,lp:=s.lp,ar:=[]} w':=by
 have e:∀g,x2.lab g≠0→(if x.vL.ownBlock=some g then 4 else x2.lab g)=x2.lab g:=fun g hg=>if_neg fun e=>hg (h.no g (.inr e)).2
 have hl2:w2.ownsRow 0 9 1 x.vL s.lo.length (strs s.lo):=own_keep h0.lr fun g hg=>kn.block g (h0.lr.lt g hg).2 (.inr hg)
 refine ⟨{x2 with vL:=x.vL,vA:=.slice none 0 0,lab:=fun g=>if x.vL.ownBlock=some g then 4 else x2.lab g},hb,h.fr' k (by decide),h.gr' k (by decide),own_keep hl2 fun g hg=>k.block g (hl2.lt g hg).2 (by rw[(h.no g (.inr hg)).2];decide),World.ownsRow_nil _ _ _ _,h.mp' k (by decide),fun i _ _ hf hv=>h.cs' k (by omega) hf hv,h.vl,?_,fun g hg=>?_,fun g hg=>?_,fun g hg=>if_pos hg,fun g hg=>?_,?_,fun i v g hv hg=>?_,fun g hg=>?_,Nat.lt_of_lt_of_le h0.nu hf⟩
 ·exact (e b (by rw[h.lb];decide)).trans h.lb
 ·exact (e g (by rw[h.lF g hg];decide)).trans (h.lF g hg)
 ·exact (e g (by rw[h.lG g hg];decide)).trans (h.lG g hg)
 ·simp[Value.ownBlock] at hg
 ·exact (e _ (by rw[h.lm];decide)).trans h.lm
 ·exact (e g (by rw[h.lc i v g hv hg];omega)).trans (h.lc i v g hv hg)
 ·refine ⟨Nat.lt_of_lt_of_le (h.no g (.inl hg)).1 k.size,?_⟩
  show (if x.vL.ownBlock=some g then 4 else x2.lab g)=0
  rw[if_neg (fun q=>by have:=h0.lL g q;have:=(h0.no g hg).2;omega)]
  exact (h.no g (.inl hg)).2
end
end Go.Proofs.YtkjbgggghigapaaGreat
