import Derived.Test.YtkjbgggghigapaaGreatCg10
import Derived.RangeFuncNested
import Derived.RangeFuncBound
import Derived.RangeFuncCalls
import Derived.RangeFuncLeaves
import Derived.RangeFuncFrom
import Derived.Shelf.Abstract
import Derived.Shelf.RegionOpen
import Derived.WalkKit
import Derived.OwnWalkIn
import Derived.TacticsInMore
import Derived.LoopNIn
import Derived.LoopIn
import Derived.RangeFuncBox
import Derived.Maps.OwnOps
import Derived.WalkSpells
import Derived.WalkLawsBesides
import Derived.WalkSmall
import Derived.Lib.OthersKept
import Derived.Deep.LoopGhost
import Derived.Deep.QuietTactic
import Derived.BigQuiet
namespace Go.Proofs.YtkjbgggghigapaaGreat
open Go.RowKit Go.Shelf
attribute [local go_sem] Oper.semAt_some
theorem lst_none (t:Tx):∀(l:List Tx) (i:Nat),(∀j:Nat,l[j]?≠some t)→lst t i l=0
 | [],_,_=>rfl
 | x::r,i,h=>by
   have h1:=lst_none t r (i+1) fun j=>by simpa using h (j+1)
   have h2:x≠t:=fun e=>h 0 (by simp[e])
   unfold lst
   rw[if_pos h1,if_neg h2]
theorem lst_at (t:Tx):∀(l:List Tx) (i x:Nat),l[x]?=some t→(∀j:Nat,x<j→l[j]?≠some t)→lst t i l=(i:Int)+(x:Int)+1
 | [],_,_,h,_=>by simp at h
 | y::r,i,0,h,k=>by
   have h1:=lst_none t r (i+1) fun j=>by simpa using k (j+1) (by omega)
   simp at h
   unfold lst
   rw[if_pos h1,if_pos h]
   omega
 | y::r,i,x+1,h,k=>by
   have h1:=lst_at t r (i+1) x (by simpa using h) fun j hj=>by simpa using k (j+1) (by omega)
   unfold lst
   rw[if_neg (by rw[h1];omega),h1]
   omega
def encLo (l:List Tx) (x:Fin l.length):Array Value:=#[.int .i64 (x.1:Nat),.string ⟨(l[x.1]).toArray⟩]
structure Ib (w:World) (Ks:Nat→Prop) (X:Nat) (l:List Tx) (a:Option Addr) (c:Nat):Prop where
 bx:w.cell? ⟨X,0,none⟩=some (.slice a l.length c)
 ro:w.ownsRow 0 9 1 (.slice a l.length c) l.length (strs l)
 kX:Ks X
 kR:∀g,(Value.slice a l.length c).ownBlock=some g→Ks g
theorem Ib.kept {w w':World} {Ks:Nat→Prop} {X:Nat} {l:List Tx} {a:Option Addr} {c:Nat} (h:Ib w Ks X l a c) (k:Kn Ks w w'):Ib w' Ks X l a c:=
 ⟨by rw[World.cell?_of_block (w:=w) (k.block X (World.block_lt_of_cell? w _ h.bx) h.kX)];exact h.bx,own_keep h.ro fun g hg=>k.block g (h.ro.lt g hg).2 (h.kR g hg),h.kX,h.kR⟩
theorem own_addr {w:World} {a:Option Addr} {n c:Nat} {l:List Tx} (h:w.ownsRow 0 9 1 (.slice a n c) n (strs l)) (hn:0<n):∃g,a=some ⟨g,0,none⟩:=by
 rcases h.2 with ⟨e,e2,_⟩ | ⟨g,cap,cur,e,_⟩
 ·injection e with e1 e2' e3
  omega
 ·injection e with e1
  exact ⟨g,e1⟩
theorem ownFrom_kn {β:Type} {B:Nat} {I:β→World→Prop} (h:∀s W W',I s W→Kn (fun g=>g<B) W W'→I s W'):OwnFrom B I:=fun s W W' row hs hg hr=>by
 obtain ⟨g1,g2,g3,g4,g5⟩:=hg
 exact h s W W' hs ⟨g1,g2,g3,g4,fun g hl hB=>g5 g hl (fun e=>by have hB':g<B:=hB;have:=(hr g e.symm).1;omega)⟩
theorem boxed_kn {No:Nat→Prop} {W W':World} {B:Nat} {t:TypeId} {v:Value} (h:Boxed W B t v) (k:Kn No W W') (hB:No B):Boxed W' B t v:=(k.block B h.lt hB).trans h
theorem knK_b {Ks:Nat→Prop} {w:World} (hk:∀g,Ks g→g<w.heap.size) (W:World) (l:Nat) (o o':Obj) (hl:w.heap.size≤l) (_:W.heap[l]?=some o) (_:o.isCells=false) (_:o.isWalk=false):Kn Ks W (W.putObj l o'):=
 ⟨rfl,rfl,rfl,by simp,fun g _ hg=>World.putObj_heap_other (fun e=>by have:=hk g hg;omega)⟩
set_option maxRecDepth 100000 in
set_option maxHeartbeats 2000000 in
theorem bwd_any (Ks:Nat→Prop) (y X:Nat) (l:List Tx) (a:Option Addr) (c:Nat) (hs:l.length≤140737488351232) (J Jx:List (Fin l.length)→World→Prop) (W:World)
 (hY:∀pre x W1,J pre W1→pre.length<140737488351233→YieldAt Fence.wide 4 Tryz.prog y (encLo l x) W1 fun e W'=>
  (e= .returned (.bool true)∧J (pre++[x]) W'∧Kn Ks W1 W')∨(e= .returned (.bool false)∧Jx (pre++[x]) W'))
 (hI:Ib W Ks X l a c) (h0:J [] W):
 CallsIn Fence.wide 5 Tryz.prog 159 #[.func (.yield y) #[] #[],.pointer (some ⟨X,0,none⟩)] W fun e W'=>(∃v,e= .returned v)∧
  ((∃ys:List (Fin l.length),(∀j,j∈ys)∧J ys W')∨(∃pre:List (Fin l.length),(∃q x,pre=q++[x]∧∀j:Fin l.length,x.1<j.1→j∈q)∧Jx pre W')):=by
 have c0:=hI.bx
 have wl:IntKind.i64.wrap ((l.length:Int) - 1)=(l.length:Int) - 1:=by rw[IntKind.wrap_i64];omega
 have HI:Hid (Ib W Ks X l a c):=hI
 have HJ:Hid (J [] W):=h0
 clear hI h0
 refine callsIn_of_wp Tryz.func159 rfl trivial ?_ rfl
 simp only[Tryz.ntmps159,List.size_toArray,List.length_cons,List.length_nil,Nat.reduceAdd,Nat.reduceSub,Array.replicate_succ,Array.replicate_zero,List.push_toArray,List.append_toArray,List.nil_append,List.cons_append]
 gi_wp2
 gi_loopw [3] (fun iv wr=>∃(i:Nat) (z:Int) (done:List (Fin l.length)),iv= .int .i64 z∧z=(i:Int) - 1∧i+done.length=l.length∧Hid (J done wr∧Kn Ks W wr∧∀j:Fin l.length,i≤j.1→j∈done)) (fun iv wr=>(intOf iv+1).toNat)
 case atStart=>exact ⟨l.length,_,[],rfl,rfl,by simp,HJ.out,Kn.refl _ _,fun j hj=>absurd j.2 (by omega)⟩
 case round=>
  obtain ⟨i,z,done,rfl,hz,hi,HR⟩:=hrel
  clear c0 wl
  have hIr:=HI.out.kept HR.out.2.1
  have c0:=hIr.bx
  cases i with
  | zero=>
    have h1:¬z≥0:=by omega
    have HE:Hid (∀j:Fin l.length,j∈done):=fun j=>HR.out.2.2 j (Nat.zero_le _)
    gi_wp2
    go_end0
    exact ⟨⟨_,rfl⟩,.inl ⟨_,HE.out,HR.out.1⟩⟩
  | succ k=>
    obtain rfl:z=(k:Int):=by omega
    clear hz
    have h1:(k:Int)≥0:=by omega
    have hk:k<l.length:=by omega
    have hk2:(k:Int)<(l.length:Int):=by omega
    have wk:IntKind.i64.wrap ((k:Int) - 1)=(k:Int) - 1:=by rw[IntKind.wrap_i64];omega
    obtain ⟨g,rfl⟩:=own_addr hIr.ro (by omega)
    obtain ⟨g2,e2,r2⟩:=own_at hIr.ro k (.string ⟨(l[k]).toArray⟩) (by unfold strs;rw[List.getElem?_map,List.getElem?_eq_getElem hk];rfl)
    obtain rfl:g=g2:=by simpa [Value.ownBlock] using e2
    obtain ⟨fn,tmps,assign,body,hy,hR⟩:=hY done ⟨k,hk⟩ wr HR.out.1 (by omega)
    dsimp only[encLo] at hy
    clear hIr
    gi_wp2
    refine hR.mono ?_
    rintro e W3 (⟨rfl,hJ5,hk5⟩ | ⟨rfl,hJx5⟩)
    ·have HJ5:Hid (J (done++[⟨k,hk⟩]) W3∧Kn Ks W W3∧∀j:Fin l.length,k≤j.1→j∈done++[⟨k,hk⟩]):=⟨hJ5,HR.out.2.1.trans hk5,fun j hj=>by
      by_cases e:j.1=k
      ·exact List.mem_append_right _ (by simp[Fin.ext_iff,e])
      ·exact List.mem_append_left _ (HR.out.2.2 j (by omega))⟩
     clear hJ5 hk5 hy hR
     gi_wp2
     go_roundw
     case rel=>exact ⟨k,_,_,rfl,rfl,by simp;omega,HJ5⟩
     case measure=>simp[intOf]
    ·have HX:Hid (Jx (done++[⟨k,hk⟩]) W3∧∀j:Fin l.length,k<j.1→j∈done):=⟨hJx5,fun j hj=>HR.out.2.2 j (by omega)⟩
     clear hJx5 hy hR
     gi_wp2
     refine bodyPost_ret (results_none rfl _ _ _) rfl ?_
     exact ⟨⟨_,rfl⟩,.inr ⟨_,⟨done,⟨k,hk⟩,rfl,HX.out.2⟩,HX.out.1⟩⟩
theorem bwd_stops (Ks:Nat→Prop) (X:Nat) (l:List Tx) (a:Option Addr) (c:Nat) (hs:l.length≤140737488351232) (w:World) (hI:Ib w Ks X l a c):
 SeqStopsK Fence.wide 5 Tryz.prog 159 #[.pointer (some ⟨X,0,none⟩)] (encLo l) (Kn Ks) (fun xs=>∀j,j∈xs) (fun pre=>∃q x,pre=q++[x]∧∀j:Fin l.length,x.1<j.1→j∈q) 140737488351233 w:=
 fun y J Jx W hW _ _ hY h0=>bwd_any Ks y X l a c hs J Jx W hY (hI.kept (.of_below hW)) h0
theorem backward_any (a:Option Addr) (n c:Nat) (W:World):Calls Tryz.prog 145 #[.slice a n c] W fun e w'=>e= .returned (.func (.func 159) #[] #[.pointer (some ⟨W.heap.size,0,none⟩)])∧w'=W.alloc (.cells #[.slice a n c] 23):=by
 go_enter Tryz.func145,Tryz.ntmps145
 go_wp2_with fail
 go_ret
 exact ⟨rfl,rfl⟩
set_option maxRecDepth 100000 in
set_option maxHeartbeats 4000000 in
theorem local_in (No:Nat→Prop) (b:Nat) (tx:Tx) (s:Gs) (t:Tx) (W:World) (h:Gk No b tx s W) (hl:s.lo.length≤140737488351232):
 CallsIn Fence.wide 6 Tryz.prog 130 #[.pointer (some ⟨b,0,none⟩),.string ⟨t.toArray⟩] W fun e w'=>e= .returned (.int .i64 (lst t 0 s.lo))∧Below W.heap.size W w':=by
 obtain ⟨x,hx⟩:=h
 obtain ⟨a,c,hv⟩:=row_form hx.lr
 have hlo:=hx.lr
 rw[hv] at hlo
 have c2:W.cell? ⟨b,2,none⟩=some (.slice a s.lo.length c):=by
  have q:W.cell? ⟨b,2,none⟩=some x.vL:=hx.mx.c 2 _ rfl
  rw[hv] at q
  exact q
 have hbl:=hx.lt
 clear hx hv
 refine callsIn_of_wp_marks Tryz.func130 rfl trivial ?_ rfl
 simp only[Tryz.ntmps130,List.size_toArray,List.length_cons,List.length_nil,Nat.reduceAdd,Nat.reduceSub,Array.replicate_succ,Array.replicate_zero,List.push_toArray,List.append_toArray,List.nil_append,List.cons_append]
 refine wpIn_wide.2 ?_
 have C:=backward_any a s.lo.length c
 go_wp2_with (go_at_call 145;refine (C _).mono ?_;rintro e w1 ⟨rfl,hw1⟩;subst w1)
 obtain ⟨WL,hWL⟩:∃WL,((W.alloc (.cells #[.string ⟨t.toArray⟩] 9)).alloc (.cells #[.int .i64 0] 3)).alloc (.cells #[.slice a s.lo.length c] 23)=WL:=⟨_,rfl⟩
 have hN:WL.heap.size=W.heap.size+3:=by rw[←hWL];simp
 have BL:Below W.heap.size W WL:=by rw[←hWL];exact bthen (bthen (b1 _ _) (by simp) (b1 _ _)) (by simp;omega) (b1 _ _)
 have b0:Boxed WL W.heap.size 9 (.string ⟨t.toArray⟩):=by rw[←hWL];exact ((Boxed.new W 9 (.string ⟨t.toArray⟩)).alloc _).alloc _
 have bb1:Boxed WL (W.heap.size+1) 3 (.int .i64 0):=by
  have q:=Boxed.new (W.alloc (.cells #[.string ⟨t.toArray⟩] 9)) 3 (.int .i64 0)
  rw[World.size_alloc] at q
  rw[←hWL];exact q.alloc _
 have b2:WL.cell? ⟨W.heap.size+1+1,0,none⟩=some (.slice a s.lo.length c):=by
  have q:=Boxed.new ((W.alloc (.cells #[.string ⟨t.toArray⟩] 9)).alloc (.cells #[.int .i64 0] 3)) 23 (.slice a s.lo.length c)
  rw[World.size_alloc,World.size_alloc] at q
  rw[←hWL];exact q.cell
 have IB:Ib WL (fun g=>g<W.heap.size+3∧g≠W.heap.size+1) (W.heap.size+1+1) s.lo a c:=⟨b2,own_keep hlo fun g hg=>BL.block g (hlo.lt g hg).2,⟨by omega,by omega⟩,fun g hg=>by have:=(hlo.lt g hg).2;exact ⟨by omega,by omega⟩⟩
 rw[hWL]
 clear b2 C hlo c2
 generalize hn:W.heap.size=n at *
 refine (wpIn_wide (n:=6)).1 ?_
 refine wpIn_rangeFunc_ownF (n:=6) rfl (by omega) (gf:=159) (lb:=#[.pointer (some ⟨n+1+1,0,none⟩)]) rfl trivial (enters_of Tryz.func159 (by kernel_rfl) rfl)
  (bwd_stops (fun g=>g<n+3∧g≠n+1) (n+1+1) s.lo a c hl WL IB) (fun h k=>h.trans k) (knK_b fun g q=>by rw[hN];exact q.1) (Below.refl _ _) (fun _=>rfl)
  (fun pre V=>(∀x∈pre,s.lo[x.1]≠t)∧Boxed V n 9 (.string ⟨t.toArray⟩)∧Boxed V (n+1) 3 (.int .i64 0)∧Kn (fun g=>g<n) WL V)
  (fun cd pre V=>cd= .ret∧∃q x,pre=q++[x]∧(s.lo[x.1]=t∧∀y∈q,s.lo[y.1]≠t)∧Boxed V (n+1) 3 (.int .i64 ((x.1:Nat)+1:Int))∧Kn (fun g=>g<n) WL V)
  (ownFrom_kn fun st V V' hst hk=>⟨hst.1,boxed_kn hst.2.1 hk (by rw[hN];omega),boxed_kn hst.2.2.1 hk (by rw[hN];omega),hst.2.2.2.trans (hk.mono fun g _ q=>by have q':g<n:=q;show g<WL.heap.size;omega)⟩)
  (fun cd=>ownFrom_kn fun st V V' hst hk=>by
   obtain ⟨h1,q,x,h2,h3,h4,h5⟩:=hst
   exact ⟨h1,q,x,h2,h3,boxed_kn h4 hk (by rw[hN];omega),h5.trans (hk.mono fun g _ q=>by have q':g<n:=q;show g<WL.heap.size;omega)⟩)
  ⟨by simp,b0,bb1,Kn.refl _ _⟩
  (fun x=>{tmps:=#[.pointer (some ⟨b,0,none⟩),.string ⟨t.toArray⟩,undef,.pointer (some ⟨n,0,none⟩),.pointer (some ⟨n+1,0,none⟩),.int .i64 (x.1:Nat),.string ⟨(s.lo[x.1]).toArray⟩,.pointer (some ⟨b,0,none⟩),.pointer (some ⟨b,0,none⟩),.pointer (some ⟨b,2,none⟩),.slice a s.lo.length c,.func (.func 159) #[] #[.pointer (some ⟨n+1+1,0,none⟩)],.int .i64 (x.1:Nat),.string ⟨(s.lo[x.1]).toArray⟩,undef,undef,undef,undef,undef],defers:=[]}) ?assign ?body ?done ?stop
 case assign=>
  intro y x V K hK
  unfold encLo
  gi_wp2
  exact hK
 case body=>
  rintro y pre x V ⟨hp,hb0,hb1,hkn⟩ _
  have c0:=hb0.cell
  have c1:=hb1.cell
  have f1:=hb1.frozen
  have wx:IntKind.i64.wrap ((x.1:Nat)+1:Int)=((x.1:Nat)+1:Int):=by rw[IntKind.wrap_i64];have:=x.2;omega
  by_cases e:s.lo[x.1]=t
  ·have e2:(s.lo[x.1]==t)=true:=by simpa using e
   have HX:Hid (KeepsOthers V (V.setCell ⟨n+1,0,none⟩ (.int .i64 ((x.1:Nat)+1:Int)))∧(Code.ret=Code.ret∧∃q x',pre++[x]=q++[x']∧(s.lo[x'.1]=t∧∀y∈q,s.lo[y.1]≠t)∧Boxed (V.setCell ⟨n+1,0,none⟩ (.int .i64 ((x.1:Nat)+1:Int))) (n+1) 3 (.int .i64 ((x'.1:Nat)+1:Int))∧Kn (fun g=>g<n) WL (V.setCell ⟨n+1,0,none⟩ (.int .i64 ((x.1:Nat)+1:Int))))):=
    ⟨KeepsOthers.setCell _ _ _,rfl,pre,x,rfl,⟨e,hp⟩,hb1.set _,hkn.setCell (by omega) _⟩
   clear hp hb0 hb1 hkn
   gi_wp2
   exact ⟨HX.out.1,rfl,HX.out.2.2⟩
  ·have e2:(s.lo[x.1]==t)=false:=by simpa using e
   have HX:Hid (KeepsOthers V V∧Kn (fun g=>g<n+3∧g≠n+1) V V∧((∀x'∈pre++[x],s.lo[x'.1]≠t)∧Boxed V n 9 (.string ⟨t.toArray⟩)∧Boxed V (n+1) 3 (.int .i64 0)∧Kn (fun g=>g<n) WL V)):=
    ⟨KeepsOthers.refl _,Kn.refl _ _,fun x' hx'=>(List.mem_append.1 hx').elim (hp x') (fun q=>by rw[List.mem_singleton.1 q];exact e),hb0,hb1,hkn⟩
   clear hp hb0 hb1 hkn
   gi_wp2
   exact HX.out
 case done=>
  rintro D xs V hD hxs ⟨hp,hb0,hb1,hkn⟩ hK
  have c1:=hb1.cell
  have f1:=hb1.frozen
  have e0:lst t 0 s.lo=0:=lst_none t s.lo 0 fun j e=>by
   obtain ⟨hj,e⟩:=List.getElem?_eq_some_iff.1 e
   exact hp ⟨j,hj⟩ (hxs _) e
  have HZ:Hid (lst t 0 s.lo=0∧Boxed (V.setCell ⟨n+1,0,none⟩ (.int .i64 0)) (n+1) 3 (.int .i64 0)∧Kn (fun g=>g<n) WL (V.setCell ⟨n+1,0,none⟩ (.int .i64 0))):=⟨e0,hb1.set _,hkn.setCell (by omega) _⟩
  clear e0 hp hb0 hb1 hkn hxs
  go_wp2
  have hK2:=(KeepsOthers.setCell V ⟨n+1,0,none⟩ (.int .i64 0)).same D _ hK rfl
  refine ⟨by simp,.inl ⟨_,_,rfl,run_takeDeferred hK2,?_⟩⟩
  obtain ⟨z1,z2,z3⟩:=HZ.out
  have kD:Kn (fun g=>g<n+3) (V.setCell ⟨n+1,0,none⟩ (.int .i64 0)) (World.putObj (V.setCell ⟨n+1,0,none⟩ (.int .i64 0)) D (.deferred none)):=knK_b (w:=WL) (fun g q=>by rw[hN];exact q) _ D _ _ hD hK2 rfl rfl
  have o1:=(boxed_kn z2 kD (by omega)).cell
  have k2:=z3.trans (kD.mono (No':=fun g=>g<n) fun g _ q=>by have q':g<n:=q;show g<n+3;omega)
  exact ⟨.int .i64 0,by simp[results,Tryz.results130,go_sem,o1],by rw[z1],hn▸BL.trans ⟨k2.os,k2.tape,k2.output,k2.size,fun g hg=>k2.block g (by omega) hg⟩⟩
 case stop=>
  rintro D cd pre V hD hpre ⟨rfl,q,x,h2,h3,h4,h5⟩ hK
  have e0:lst t 0 s.lo=(x.1:Nat)+1:=by
   obtain ⟨q',x',e1,e2⟩:=hpre
   rw[h2] at e1
   obtain ⟨rfl,e3⟩:=List.append_inj' e1 rfl
   obtain rfl:x=x':=by simpa using e3
   have q1:=lst_at t s.lo 0 x.1 (by rw[List.getElem?_eq_getElem x.2];exact congrArg some h3.1) fun j hj e=>by
    obtain ⟨hj2,e⟩:=List.getElem?_eq_some_iff.1 e
    exact h3.2 ⟨j,hj2⟩ (e2 ⟨j,hj2⟩ hj) e
   rw[q1];omega
  have HZ:Hid (lst t 0 s.lo=(x.1:Nat)+1∧Boxed V (n+1) 3 (.int .i64 ((x.1:Nat)+1:Int))∧Kn (fun g=>g<n) WL V):=⟨e0,h4,h5⟩
  clear e0 h4 h5 hpre h2 h3
  gi_wp2
  refine ⟨by simp,.inl ⟨_,_,rfl,run_takeDeferred hK,?_⟩⟩
  obtain ⟨z1,z2,z3⟩:=HZ.out
  have kD:Kn (fun g=>g<n+3) V (World.putObj V D (.deferred none)):=knK_b (w:=WL) (fun g q=>by rw[hN];exact q) _ D _ _ hD hK rfl rfl
  have o1:=(boxed_kn z2 kD (by omega)).cell
  have k2:=z3.trans (kD.mono (No':=fun g=>g<n) fun g _ q=>by have q':g<n:=q;show g<n+3;omega)
  exact ⟨.int .i64 ((x.1:Nat)+1:Int),by simp[results,Tryz.results130,go_sem,o1],by rw[z1],hn▸BL.trans ⟨k2.os,k2.tape,k2.output,k2.size,fun g hg=>k2.block g (by omega) hg⟩⟩
theorem g_local_any (No:Nat→Prop) (b:Nat) (tx:Tx) (s:Gs) (t:Tx) (W:World) (h:Gk No b tx s W) (hl:s.lo.length≤140737488351232):
 Calls Tryz.prog 130 #[.pointer (some ⟨b,0,none⟩),.string ⟨t.toArray⟩] W fun e w'=>e= .returned (.int .i64 (lst t 0 s.lo))∧Below W.heap.size W w':=callsIn_wide.1 (local_in No b tx s t W h hl)
end Go.Proofs.YtkjbgggghigapaaGreat


namespace Go.Proofs.YtkjbgggghigapaaGreat
open Go.RowKit
theorem lst_rng (t:Tx):∀(l:List Tx) (i:Nat),0≤lst t i l∧lst t i l≤(i:Int)+(l.length:Int)
 | [],i=>by simp[lst]
 | x::r,i=>by
   have:=lst_rng t r (i+1)
   unfold lst
   simp only[List.length_cons]
   split
   ·split<;>omega
   ·omega
theorem GK.seen {No:Nat→Prop} {b:Nat} {t:Tx} {x:Gx} {s:Gs} {w:World} (h:GK No b t x s w):w.cell? ⟨b,0,none⟩=some (.pointer (some ⟨x.S,0,none⟩))∧w.cell? ⟨b,1,none⟩=some (.pointer (some ⟨x.U,s.cu * 5,none⟩))∧w.cell? ⟨b,2,none⟩=some x.vL∧w.cell? ⟨b,3,none⟩=some x.vB:=⟨h.mx.c 0 _ rfl,h.mx.c 1 _ rfl,h.mx.c 2 _ rfl,h.mx.c 3 _ rfl⟩
theorem GK.src {No:Nat→Prop} {b:Nat} {t:Tx} {x:Gx} {s:Gs} {w:World} (h:GK No b t x s w):w.cell? ⟨x.S,0,none⟩=some (.string ⟨t.toArray⟩)∧w.cell? ⟨x.S,1,none⟩=some x.vU∧w.cell? ⟨x.S,2,none⟩=some (.int .i64 (s.be:Nat))∧w.cell? ⟨x.S,3,none⟩=some (.map (some x.m))∧w.cell? ⟨x.S,4,none⟩=some (.int .i64 s.pl)∧w.cell? ⟨x.S,5,none⟩=some (.int .i64 s.ln):=
 ⟨h.sx.c 0 _ rfl,h.sx.c 1 _ rfl,h.sx.c 2 _ rfl,h.sx.c 3 _ rfl,h.sx.c 4 _ rfl,h.sx.c 5 _ rfl⟩
theorem zero3 (w:World):(zeroValue 3).run Tryz.prog w= .ok (.int .i64 0) w:=by simp[go_sem]
set_option maxRecDepth 20000 in
set_option maxHeartbeats 8000000 in
theorem g_name_any (No:Nat→Prop) (b:Nat) (tx:Tx) (s:Gs) (t:Tx) (oa ob:Int) (W:World) (h:Gk No b tx s W) (ht:t.length≤20000) (hl:s.lo.length≤100000000) (hc:s.code.length≤100000000):
 Calls Tryz.prog 108 #[.pointer (some ⟨b,0,none⟩),.string ⟨t.toArray⟩,.int .i64 oa,.int .i64 ob] W (GP No b tx W (nmG t oa ob s)):=by
 have C:=g_local_any No b tx s t W h (by omega)
 obtain ⟨hr1,hr2⟩:=lst_rng t s.lo 0
 have H0:Hid (Gk No b tx s W):=h
 unfold nmG
 by_cases h0:0<lst t 0 s.lo
 ·rw[if_pos h0]
  generalize lst t 0 s.lo=n at *
  have h0':n>0:=h0
  clear h
  go_enter Tryz.func108,Tryz.ntmps108
  go_wp2_with fail
  refine C.mono ?_
  rintro e w1 ⟨rfl,hb⟩
  have C1:=(H0.out.below hb).add1 oa n hc
  have HB:Hid (Kn No W w1):=.of_below hb
  clear C
  go_wp2_with fail
  refine C1.mono ?_
  rintro e w2 ⟨rfl,hq1,hq2⟩
  have H5:Hid (Gk No b tx _ w2∧Kn No W w2):=⟨hq1,HB.out.trans hq2⟩
  clear C1
  go_wp2
  go_end0
  exact ⟨rfl,H5.out⟩
 ·rw[if_neg h0]
  have e0:lst t 0 s.lo=0:=by omega
  rw[e0] at C
  have hkey:keyOf Tryz.prog 9 (.string ⟨t.toArray⟩)=some (.string t):=by
   have:=WideMaps.keyOf_string_mk (P:=Tryz.prog) Tryz.underlying9 (s:=⟨t.toArray⟩) (by show t.toArray.size≤maxLen;simp;unfold maxLen;omega)
   simpa using this
  clear h e0 h0 hr1 hr2
  go_enter Tryz.func108,Tryz.ntmps108
  go_wp2_with fail
  refine C.mono ?_
  rintro e w1 ⟨rfl,hb⟩
  have D:=H0.out.below hb
  obtain ⟨x,hx⟩:=D
  obtain ⟨c0,-,-,-⟩:=hx.seen
  obtain ⟨-,-,-,d3,-,-⟩:=hx.src
  obtain ⟨D,n,hM,hD⟩:=hx.mp.ex
  have hDt:=hD t
  have C1:=fun c=>(show Gk No b tx s w1 from ⟨x,hx⟩).add1 ob c hc
  have HB:Hid (Kn No W w1∧D.atKey (.string t) (.lit (.int .i64 0))= .lit (.int .i64 (lst t 0 s.gl))):=⟨.of_below hb,hDt⟩
  clear C hx hD hDt H0
  go_wp2_with (first
   | (at_lookup;refine wpList_lookup_own_int _ rfl _ _ 69 rfl 9 3 .i64 law9 Tryz.underlying69 Tryz.underlying3 (zero3 _) x.m n D rfl hM _ _ rfl hkey ?_;intro c hat hwc;have hc:c=lst t 0 s.gl:=by {have q:=HB.out.2.symm.trans hat;injection q with q;injection q with _ q;exact q.symm};subst hc)
   | fail)
  refine (C1 _).mono ?_
  rintro e w2 ⟨rfl,hq1,hq2⟩
  have H5:Hid (Gk No b tx _ w2∧Kn No W w2):=⟨hq1,HB.out.1.trans hq2⟩
  clear C1
  go_wp2
  go_end0
  exact ⟨rfl,H5.out⟩
end Go.Proofs.YtkjbgggghigapaaGreat


namespace Go.Proofs.YtkjbgggghigapaaGreat.S
open Go.RowKit
def wd (s:ByteArray) (p:Nat):Nat:=(Utf8.decode s p).2
def rn (s:ByteArray) (p:Nat):Nat:=(Utf8.decode s p).1
theorem byte_lt (s:ByteArray) (i:Nat):(s.get! i).toNat<256:=(s.get! i).toNat_lt
theorem decodeN_shape (n b0 b1 b2 b3:Nat) (h0:b0<256) (h1:b1<256):
 ((Lib.decodeN n b0 b1 b2 b3).1<128→(Lib.decodeN n b0 b1 b2 b3).2=1)∧
 (128≤(Lib.decodeN n b0 b1 b2 b3).1→(Lib.decodeN n b0 b1 b2 b3).1<2048→(Lib.decodeN n b0 b1 b2 b3).2=2)∧
 (2048≤(Lib.decodeN n b0 b1 b2 b3).1→(Lib.decodeN n b0 b1 b2 b3).1<65536→(Lib.decodeN n b0 b1 b2 b3).1≠65533→(Lib.decodeN n b0 b1 b2 b3).2=3)∧
 (65536≤(Lib.decodeN n b0 b1 b2 b3).1→(Lib.decodeN n b0 b1 b2 b3).2=4)∧
 ((Lib.decodeN n b0 b1 b2 b3).1=65533→((Lib.decodeN n b0 b1 b2 b3).2=3∧3≤n∧b0=239∧b1=191∧b2=189)∨((Lib.decodeN n b0 b1 b2 b3).2=1∧¬(3≤n∧b0=239∧b1=191∧b2=189)))∧
 (Lib.decodeN n b0 b1 b2 b3).1≤1114111∧1≤(Lib.decodeN n b0 b1 b2 b3).2∧((Lib.decodeN n b0 b1 b2 b3).2≤n∨n=0):=by
 unfold Lib.decodeN
 repeat' split
 all_goals (refine ⟨?_,?_,?_,?_,?_,?_,?_,?_⟩<;>simp only<;>(try intros)<;>first | omega | trivial | (simp;omega))
theorem shape_at (s:ByteArray) (p:Nat):
 (rn s p<128→wd s p=1)∧(128≤rn s p→rn s p<2048→wd s p=2)∧(2048≤rn s p→rn s p<65536→rn s p≠65533→wd s p=3)∧(65536≤rn s p→wd s p=4)∧
 (rn s p=65533→(wd s p=3∧3≤s.size - p∧(s.get! p).toNat=239∧(s.get! (p+1)).toNat=191∧(s.get! (p+2)).toNat=189)∨
  (wd s p=1∧¬(3≤s.size - p∧(s.get! p).toNat=239∧(s.get! (p+1)).toNat=191∧(s.get! (p+2)).toNat=189)))∧
 rn s p≤1114111∧1≤wd s p∧(wd s p≤s.size - p∨s.size - p=0):=by
 unfold rn wd
 rw[Lib.decode_at]
 exact decodeN_shape _ _ _ _ _ (byte_lt s p) (byte_lt s (p+1))
theorem wd_pos (s:ByteArray) (p:Nat):1≤wd s p:=(shape_at s p).2.2.2.2.2.2.1
theorem wd_le (s:ByteArray) (p:Nat) (h:p<s.size):p+wd s p≤s.size:=by have:=(shape_at s p).2.2.2.2.2.2.2;omega
theorem rn_le (s:ByteArray) (p:Nat):rn s p≤1114111:=(shape_at s p).2.2.2.2.2.1
abbrev Rn:=Nat×Nat×Nat
def rest (s:ByteArray) (p:Nat):List Rn:=if _h:p<s.size then (p,wd s p,rn s p)::rest s (p+wd s p) else []
termination_by s.size - p
decreasing_by have:=wd_pos s p;omega
theorem rest_at (s:ByteArray) (p:Nat) (h:p<s.size):rest s p=(p,wd s p,rn s p)::rest s (p+wd s p):=by rw[rest];simp[h]
theorem rest_end (s:ByteArray) (p:Nat) (h:¬p<s.size):rest s p=[]:=by rw[rest];simp[h]
def runTo (go:List Rn→Bool):List Rn→List Rn→List Rn
 | done,[]=>done
 | done,r::l=>if go (done++[r]) then runTo go (done++[r]) l else done++[r]
theorem get_data (s:ByteArray) (i:Nat):s.get! i=s.data.toList.getD i 0:=by
 obtain ⟨⟨l⟩⟩:=s
 simp[ByteArray.get!,getElem!_def,List.getD]
 cases l[i]?<;>rfl
theorem prefix_iff (s:ByteArray) (p:Nat):([239,191,189]:List UInt8).isPrefixOf (s.data.toList.drop p)=true↔(3≤s.size - p∧(s.get! p).toNat=239∧(s.get! (p+1)).toNat=191∧(s.get! (p+2)).toNat=189):=by
 have hsz:s.size - p=(s.data.toList.drop p).length:=by simp
 have e0:s.get! p=(s.data.toList.drop p).getD 0 0:=by rw[get_data];simp[List.getD,List.getElem?_drop]
 have e1:s.get! (p+1)=(s.data.toList.drop p).getD 1 0:=by rw[get_data];simp[List.getD,List.getElem?_drop]
 have e2:s.get! (p+2)=(s.data.toList.drop p).getD 2 0:=by rw[get_data];simp[List.getD,List.getElem?_drop]
 rw[hsz,e0,e1,e2]
 generalize s.data.toList.drop p=l
 have inj:∀(x:UInt8) (n:Nat),n<256→(x.toNat=n↔UInt8.ofNat n=x):=fun x n hn=>⟨fun h=>by apply UInt8.toNat_inj.1;simp[h];omega,fun h=>by subst h;simp;omega⟩
 match l with
 | []=>simp
 | [a]=>simp
 | [a,b]=>simp
 | a::b::c::t=>
   simp only[List.isPrefixOf,Bool.and_true,Bool.and_eq_true,beq_iff_eq,List.length_cons,List.getD_cons_zero,List.getD_cons_succ]
   rw[inj a 239 (by omega),inj b 191 (by omega),inj c 189 (by omega)]
   constructor
   ·rintro ⟨h0,h1,h2⟩;exact ⟨by omega,h0,h1,h2⟩
   ·rintro ⟨_,h0,h1,h2⟩;exact ⟨h0,h1,h2⟩
theorem ret1 {a b:Int} (h:a=b):Ending.returned (.int .i64 a)= .returned (.int .i64 b):=by rw[h]
def encR (r:Rn):Value:=.agg #[.int .i64 r.1,.int .i64 r.2.1,.int .i64 r.2.2]
set_option maxHeartbeats 400000 in
theorem size_core (x:ByteArray) (r:Int) (d:Nat) (q:Bool) (w:World) (C:∀w,Calls Tryz.prog 82 #[.string x,.string {data:=#[239,191,189]}] w fun e w'=>e= .returned (.bool q)∧w'=w)
 (h1:r<128→d=1) (h2:128≤r→r<2048→d=2) (h3:2048≤r→r<65536→r≠65533→d=3) (h4:65536≤r→d=4) (h5:r=65533→(d=3∧q=true)∨(d=1∧q=false)):
 Calls Tryz.prog 129 #[.string x,.int .i32 r] w fun e w'=>e= .returned (.int .i64 d)∧w'=w:=by
 by_cases a1:r<128
 ·obtain rfl:=h1 a1
  clear C h1 h2 h3 h4 h5
  go_enter Tryz.func129,Tryz.ntmps129
  go_wp2
  go_ret
  exact ⟨rfl,rfl⟩
 ·by_cases a2:r<2048
  ·obtain rfl:=h2 (by omega) a2
   clear C h1 h2 h3 h4 h5
   go_enter Tryz.func129,Tryz.ntmps129
   go_wp2
   go_ret
   exact ⟨rfl,rfl⟩
  ·by_cases a3:r=65533
   ·obtain ⟨rfl,rfl⟩ | ⟨rfl,rfl⟩:=h5 a3
    all_goals
     subst a3
     clear h1 h2 h3 h4 h5
     go_enter Tryz.func129,Tryz.ntmps129
     go_wp2_with (go_at_call 82;refine (C _).mono ?_;rintro e w' ⟨rfl,rfl⟩)
     go_ret
     exact ⟨rfl,rfl⟩
   ·have a3':(r==65533)=false:=by simpa using a3
    by_cases a4:r<65536
    ·obtain rfl:=h3 (by omega) a4 a3
     clear C h1 h2 h3 h4 h5
     go_enter Tryz.func129,Tryz.ntmps129
     go_wp2
     go_ret
     exact ⟨rfl,rfl⟩
    ·obtain rfl:=h4 (by omega)
     clear C h1 h2 h3 h4 h5
     go_enter Tryz.func129,Tryz.ntmps129
     go_wp2
     go_ret
     exact ⟨rfl,rfl⟩
theorem size_any (s:ByteArray) (p:Nat) (w:World):Calls Tryz.prog 129 #[.string (s.extract p s.size),.int .i32 (rn s p)] w fun e w'=>e= .returned (.int .i64 (wd s p))∧w'=w:=by
 obtain ⟨h1,h2,h3,h4,h5,_⟩:=shape_at s p
 have hx:Lib.hasPrefix (s.extract p s.size).data.toList [239,191,189]=decide (3≤s.size - p∧(s.get! p).toNat=239∧(s.get! (p+1)).toNat=191∧(s.get! (p+2)).toNat=189):=by
  rw[Lib.extract_to_end]
  rw[Bool.eq_iff_iff,decide_eq_true_eq]
  exact prefix_iff s p
 refine size_core _ _ _ (decide (3≤s.size - p∧(s.get! p).toNat=239∧(s.get! (p+1)).toNat=191∧(s.get! (p+2)).toNat=189)) w (fun w=>?_) (fun h=>h1 (by omega)) (fun h h'=>h2 (by omega) (by omega)) (fun h h' h''=>h3 (by omega) (by omega) (by omega)) (fun h=>h4 (by omega)) (fun h=>?_)
 ·rw[←hx];exact Tryz.strings_HasPrefix _ _ w
 ·rcases h5 (by omega) with ⟨a,b⟩ | ⟨a,b⟩
  ·exact .inl ⟨a,decide_eq_true b⟩
  ·exact .inr ⟨a,decide_eq_false b⟩
set_option maxHeartbeats 2000000 in
theorem each_any (s:ByteArray) (g:Nat) (lb:Array Value) (eg:∀args w,(callFunc g args).run Tryz.prog w= .ok (.enter g args) w) (w:World) (_hs:s.size≤9223372036854775807)
 (go:List Rn→Bool) (I:List Rn→World→Prop)
 (h0:I [] (w.alloc (.stringIter s 0)))
 (hit:∀done W p p',I done W→W.heap[w.heap.size]?=some (.stringIter s p)→I done (W.iterAt w.heap.size s p'))
 (hstep:∀done r l W,rest s 0=done++r::l→(done=[]∨go done=true)→I done W→w.heap.size<W.heap.size→
  Calls Tryz.prog g (#[encR r]++lb) W fun e W'=>e= .returned (.bool (go (done++[r])))∧I (done++[r]) W'∧W'.heap[w.heap.size]?=W.heap[w.heap.size]?):
 Calls Tryz.prog 104 #[.string s,.func (.func g) #[] lb] w fun e w'=>e= .returned (.tuple #[])∧I (runTo go [] (rest s 0)) w':=by
 go_enter Tryz.func104,Tryz.ntmps104
 go_wp2
 go_loopg [] (s.size+1) (fun gf wx=>∃(pos:Nat) (done:List Rn),wx.heap[w.heap.size]?=some (.stringIter s pos)∧rest s 0=done++rest s pos∧I done wx∧Hid (runTo go done (rest s pos)=runTo go [] (rest s 0))∧Hid (done=[]∨go done=true)∧s.size<pos+gf)
 case atStart=>exact ⟨0,[],World.iter_heap w s 0,rfl,h0,rfl,.inl rfl,by omega⟩
 case round=>
  obtain ⟨pos,done,hi,hd,hI,hR,hG,hfu⟩:=hrel
  by_cases hps:pos<s.size
  ·obtain ⟨g',rfl⟩:∃g',gk=g'+1:=⟨gk - 1,by omega⟩
   have hnx:∀ty,(Instr.next (.pointer (some ⟨w.heap.size,0,none⟩)) true ty).run Tryz.prog wr= .ok (.tuple #[.bool true,.int .i64 pos,.int .i32 (rn s pos)]) (wr.iterAt w.heap.size s (pos+wd s pos)):=fun ty=>Lib.run_next_any_at wr w.heap.size s pos ty hi hps
   have hwp:=wd_pos s pos
   have hwl:=wd_le s pos hps
   have hrl:=rn_le s pos
   have hi2:=Lib.iterAt_heap wr w.heap.size s pos (pos+wd s pos) hi
   have hI2:=hit done wr pos (pos+wd s pos) hI hi
   have hre:=rest_at s pos hps
   rw[hre] at hd
   have hst:=hstep done _ _ (wr.iterAt w.heap.size s (pos+wd s pos)) hd hG.out hI2 (Array.getElem?_eq_some_iff.1 hi2).1
   have hsz:=size_any s pos
   obtain ⟨W,hW⟩:∃W,wr.iterAt w.heap.size s (pos+wd s pos)=W:=⟨_,rfl⟩
   rw[hW] at hnx hi2 hI2 hst
   have HR:Hid (runTo go done ((pos,wd s pos,rn s pos)::rest s (pos+wd s pos))=runTo go [] (rest s 0)):=by rw[←hre];exact hR.out
   have HD:Hid (rest s 0=done++[(pos,wd s pos,rn s pos)]++rest s (pos+wd s pos)):=by show _=_;rw[hd];simp
   clear hstep hit h0 hd hre hR hW hI hi hI2 hG
   unfold encR at hst
   cases hgo:go (done++[(pos,wd s pos,rn s pos)])
   ·have HR2:Hid (done++[(pos,wd s pos,rn s pos)]=runTo go [] (rest s 0)):=by have:=HR.out;rw[runTo,hgo] at this;exact this
    go_wp2_with (first
     | (go_at_call 129;refine (hsz _).mono ?_;rintro e w' ⟨rfl,rfl⟩)
     | (go_at_fn g;refine hst.mono ?_;rintro e W' ⟨rfl,hI3,hk3⟩))
    exact bodyPost_ret (v:=.tuple #[]) (by simp[results,Tryz.results104,go_sem]) rfl ⟨rfl,by rw[←HR2.out];assumption⟩
   ·have HR2:Hid (runTo go (done++[(pos,wd s pos,rn s pos)]) (rest s (pos+wd s pos))=runTo go [] (rest s 0)):=by have:=HR.out;rw[runTo,hgo] at this;exact this
    go_wp2_with (first
     | (go_at_call 129;refine (hsz _).mono ?_;rintro e w' ⟨rfl,rfl⟩)
     | (go_at_fn g;refine hst.mono ?_;rintro e W' ⟨rfl,hI3,hk3⟩))
    go_roundg g'
    case measure=>omega
    case rel=>exact ⟨pos+wd s pos,_,by rw[hk3];exact hi2,HD.out,by assumption,HR2,.inr hgo,by omega⟩
  ·have hnx:∀ty,(Instr.next (.pointer (some ⟨w.heap.size,0,none⟩)) true ty).run Tryz.prog wr= .ok (.tuple #[.bool false]) wr:=fun ty=>Lib.run_next_end_at wr w.heap.size s pos ty hi hps
   have hre:=rest_end s pos hps
   rw[hre] at hR
   have HR:Hid (done=runTo go [] (rest s 0)):=hR.out
   clear hstep hit h0 hd hre hR hG
   go_wp2
   go_end0
   exact ⟨rfl,by rw[←HR.out];assumption⟩
structure Own (B k:Nat) (w W:World) (cs:List (Nat×Nat×Value)):Prop where
 cell:∀c∈cs,W.cell? ⟨c.1,c.2.1,none⟩=some c.2.2
 free:∀c∈cs,W.frozen? ⟨c.1,c.2.1,none⟩=false
 low:∀c∈cs,B≤c.1∧c.1≠k∧c.1<W.heap.size
 below:Below B w W
 iter:B≤k∧k<W.heap.size
theorem Own.iterAt {B k:Nat} {w W:World} {cs:List (Nat×Nat×Value)} (h:Own B k w W cs) (s:ByteArray) (p:Nat):Own B k w (W.iterAt k s p) cs where
 cell c hc:=(World.cell?_of_block (Lib.iterAt_other W k c.1 s p (h.low c hc).2.1)).trans (h.cell c hc)
 free c hc:=(World.frozen?_of_block (Lib.iterAt_other W k c.1 s p (h.low c hc).2.1)).trans (h.free c hc)
 low c hc:=by rw[Lib.iterAt_size];exact h.low c hc
 below:=Lib.below_iterAt h.below h.iter.1 s p
 iter:=by rw[Lib.iterAt_size];exact h.iter
theorem Own.alloc {B k:Nat} {w W:World} {cs:List (Nat×Nat×Value)} (h:Own B k w W cs) (x:Obj):Own B k w (W.alloc x) cs where
 cell c hc:=(((Below.refl _ W).alloc (Nat.le_refl _) x).cell (h.low c hc).2.2).trans (h.cell c hc)
 free c hc:=(((Below.refl _ W).alloc (Nat.le_refl _) x).frozen (h.low c hc).2.2).trans (h.free c hc)
 low c hc:=by have:=h.low c hc;simp;omega
 below:=h.below.alloc (by have:=h.iter;omega) x
 iter:=by have:=h.iter;simp;omega
theorem Own.set {B k:Nat} {w W:World} {cs:List (Nat×Nat×Value)} (h:Own B k w W cs) (b o:Nat) {v:Value} (hm:(b,o,v)∈cs) (v':Value):
 Own B k w (W.setCell ⟨b,o,none⟩ v') (cs.map fun c=>if c.1=b∧c.2.1=o then (c.1,c.2.1,v') else c) where
 cell c hc:=by
  obtain ⟨d,hd,rfl⟩:=List.mem_map.1 hc
  by_cases e:d.1=b∧d.2.1=o
  ·rw[if_pos e]
   have:=h.cell _ hm
   simp only[e.1,e.2]
   exact World.cell?_setCell_same _ _ _ this
  ·rw[if_neg e]
   rw[World.cell?_setCell_other _ _ _ _ (fun q=>e (by injection q with q1 q2;exact ⟨q1.symm,q2.symm⟩))]
   exact h.cell d hd
 free c hc:=by
  obtain ⟨d,hd,rfl⟩:=List.mem_map.1 hc
  rw[World.frozen?_setCell]
  by_cases e:d.1=b∧d.2.1=o
  ·rw[if_pos e];exact h.free d hd
  ·rw[if_neg e];exact h.free d hd
 low c hc:=by
  obtain ⟨d,hd,rfl⟩:=List.mem_map.1 hc
  have hz:(W.setCell ⟨b,o,none⟩ v').heap.size=W.heap.size:=by simp[World.setCell]
  rw[hz]
  by_cases e:d.1=b∧d.2.1=o
  ·rw[if_pos e];exact h.low d hd
  ·rw[if_neg e];exact h.low d hd
 below:=h.below.setCell (h.low _ hm).1 v'
 iter:=by
  have hz:(W.setCell ⟨b,o,none⟩ v').heap.size=W.heap.size:=by simp[World.setCell]
  rw[hz];exact h.iter
theorem iter_set {W:World} {b o k:Nat} (h:b≠k) (v:Value):(W.setCell ⟨b,o,none⟩ v).heap[k]?=W.heap[k]?:=Below.heap_setCell W _ v k (fun e=>h e.symm)
theorem iter_alloc {W:World} {k:Nat} (h:k<W.heap.size) (x:Obj):(W.alloc x).heap[k]?=W.heap[k]?:=Below.heap_alloc W x k h
theorem size_set (W:World) (a:Addr) (v:Value):(W.setCell a v).heap.size=W.heap.size:=by simp[World.setCell]
theorem new_cell (W:World) (l:List Value) (t:TypeId) (o:Nat) (v:Value) (h:l[o]?=some v):(W.alloc (.cells l.toArray t)).cell? ⟨W.heap.size,o,none⟩=some v∧(W.alloc (.cells l.toArray t)).frozen? ⟨W.heap.size,o,none⟩=false:=by
 have hh:(W.alloc (.cells l.toArray t)).heap[W.heap.size]?=some (.cells l.toArray t):=by
  show (W.heap.push _)[W.heap.size]?=_
  simp
 constructor
 ·unfold World.cell?;rw[hh];simp[h]
 ·unfold World.frozen?;rw[hh];simp
theorem rest_len (s:ByteArray) (p:Nat):(rest s p).length≤s.size - p:=by
 by_cases h:p<s.size
 ·rw[rest_at s p h]
  have h1:=wd_pos s p
  have h2:=rest_len s (p+wd s p)
  have h3:=wd_le s p h
  simp only[List.length_cons]
  omega
 ·rw[rest_end s p h];simp
termination_by s.size - p
decreasing_by have:=wd_pos s p;omega
theorem alloc_cell {W:World} {b:Nat} (h:b<W.heap.size) {o:Nat} {v:Option Value} (hc:W.cell? ⟨b,o,none⟩=v):∀x,(W.alloc x).cell? ⟨b,o,none⟩=v:=fun x=>(((Below.refl _ W).alloc (Nat.le_refl _) x).cell h).trans hc
theorem alloc_frozen {W:World} {b:Nat} (h:b<W.heap.size) {o:Nat} {v:Bool} (hc:W.frozen? ⟨b,o,none⟩=v):∀x,(W.alloc x).frozen? ⟨b,o,none⟩=v:=fun x=>(((Below.refl _ W).alloc (Nat.le_refl _) x).frozen h).trans hc
theorem Own.start {B:Nat} {w W:World} {cs:List (Nat×Nat×Value)} (hc:∀c∈cs,W.cell? ⟨c.1,c.2.1,none⟩=some c.2.2∧W.frozen? ⟨c.1,c.2.1,none⟩=false∧B≤c.1∧c.1<W.heap.size)
 (hb:Below B w W) (hB:B≤W.heap.size) (s:ByteArray):Own B W.heap.size w (W.alloc (.stringIter s 0)) cs where
 cell c h:=alloc_cell (hc c h).2.2.2 (hc c h).1 _
 free c h:=alloc_frozen (hc c h).2.2.2 (hc c h).2.1 _
 low c h:=by have:=hc c h;simp;omega
 below:=hb.alloc hB _
 iter:=by simp;omega
def lcS (p:Nat) (x:Nat×Nat) (r:Rn):Nat×Nat:=if r.1<p then (if r.2.2=10 then (x.1+1,1) else (x.1,x.2+1)) else x
def lcA (p:Nat) (l:List Rn):Nat×Nat:=l.foldl (lcS p) (1,1)
theorem lcA_snoc (p:Nat) (l:List Rn) (r:Rn):lcA p (l++[r])=lcS p (lcA p l) r:=by simp[lcA]
theorem lcA_le (p:Nat) (l:List Rn):1≤(lcA p l).1∧(lcA p l).1≤l.length+1∧1≤(lcA p l).2∧(lcA p l).2≤l.length+1:=by
 unfold lcA
 have key:∀(l:List Rn) (x:Nat×Nat) (n:Nat),1≤x.1→x.1≤n+1→1≤x.2→x.2≤n+1→1≤(l.foldl (lcS p) x).1∧(l.foldl (lcS p) x).1≤n+l.length+1∧1≤(l.foldl (lcS p) x).2∧(l.foldl (lcS p) x).2≤n+l.length+1:=by
  intro l
  induction l with
  | nil=>intro x n a b c d;exact ⟨a,b,c,d⟩
  | cons r l ih=>
    intro x n a b c d
    simp only[List.foldl_cons,List.length_cons]
    have h:1≤(lcS p x r).1∧(lcS p x r).1≤n+1+1∧1≤(lcS p x r).2∧(lcS p x r).2≤n+1+1:=by
     unfold lcS;repeat' split
     all_goals first | omega | (simp only;omega)
    have:=ih (lcS p x r) (n+1) h.1 h.2.1 h.2.2.1 h.2.2.2
    omega
 have:=key l (1,1) 0 (by simp) (by simp) (by simp) (by simp)
 omega
theorem rest_ge (s:ByteArray) (p:Nat):∀r∈rest s p,p≤r.1∧r.1<s.size:=by
 by_cases h:p<s.size
 ·rw[rest_at s p h]
  have h1:=wd_pos s p
  have ih:=rest_ge s (p+wd s p)
  intro r hr
  rcases List.mem_cons.1 hr with rfl | hr
  ·exact ⟨Nat.le_refl _,h⟩
  ·have:=ih r hr;omega
 ·rw[rest_end s p h];intro r hr;cases hr
termination_by s.size - p
decreasing_by have:=wd_pos s p;omega
theorem rest_sorted (s:ByteArray) (p:Nat):(rest s p).Pairwise (fun a b=>a.1<b.1):=by
 by_cases h:p<s.size
 ·rw[rest_at s p h]
  have h1:=wd_pos s p
  have ih:=rest_sorted s (p+wd s p)
  refine List.pairwise_cons.2 ⟨fun r hr=>?_,ih⟩
  have:=rest_ge s (p+wd s p) r hr
  simp only;omega
 ·rw[rest_end s p h];exact List.Pairwise.nil
termination_by s.size - p
decreasing_by have:=wd_pos s p;omega
theorem lc_same (p:Nat) (l:List Rn) (h:∀r∈l,p≤r.1):∀x,l.foldl (lcS p) x=x:=by
 induction l with
 | nil=>intro x;rfl
 | cons r l ih=>
   intro x
   have h1:=h r (by simp)
   simp only[List.foldl_cons]
   have :lcS p x r=x:=by unfold lcS;rw[if_neg (by omega)]
   rw[this]
   exact ih (fun q hq=>h q (by simp[hq])) x
def goP (p:Nat) (l:List Rn):Bool:=match l.getLast? with | some r=>decide (r.1<p) | none=>true
theorem lc_runTo (p:Nat) (l:List Rn):∀done,(done++l).Pairwise (fun a b=>a.1<b.1)→lcA p (runTo (goP p) done l)=lcA p (done++l):=by
 induction l with
 | nil=>intro done _;simp[runTo]
 | cons r l ih=>
   intro done hs
   have hg:goP p (done++[r])=decide (r.1<p):=by simp[goP]
   by_cases hr:r.1<p
   ·simp only[runTo,hg,hr,decide_true,if_true]
    rw[ih _ (by simpa using hs)];simp
   ·simp only[runTo,hg,hr,decide_false,Bool.false_eq_true,if_false]
    have hl:∀q∈l,p≤q.1:=by
     intro q hq
     have h2:=(List.pairwise_append.1 hs).2.1
     have:=(List.pairwise_cons.1 h2).1 q hq
     omega
    have :done++r::l=(done++[r])++l:=by simp
    rw[this]
    unfold lcA
    rw[List.foldl_append (l':=l)]
    exact (lc_same p l hl _).symm
theorem enters105:∀args w,(callFunc 105 args).run Tryz.prog w= .ok (.enter 105 args) w:=enters_of Tryz.func105 (by kernel_rfl) rfl
set_option maxHeartbeats 400000 in
theorem place_no (a c l:Nat) (W:World) (p x y z:Int) (ha:a<W.heap.size) (hc:W.cell? ⟨a,0,none⟩=some (.int .i64 p)) (h:p≤x):
 Calls Tryz.prog 105 #[.agg #[.int .i64 x,.int .i64 y,.int .i64 z],.pointer (some ⟨a,0,none⟩),.pointer (some ⟨c,0,none⟩),.pointer (some ⟨l,0,none⟩)] W fun e W'=>e= .returned (.bool false)∧∃o,W'=W.alloc o:=by
 have hc1:=alloc_cell ha hc
 go_enter Tryz.func105,Tryz.ntmps105
 go_wp2
 go_ret
 exact ⟨rfl,_,rfl⟩
set_option maxHeartbeats 400000 in
theorem place_col (a c l:Nat) (W:World) (p x y z n:Int) (ha:a<W.heap.size) (hcl:c<W.heap.size) (hc:W.cell? ⟨a,0,none⟩=some (.int .i64 p)) (hn:W.cell? ⟨c,0,none⟩=some (.int .i64 n)) (hf:W.frozen? ⟨c,0,none⟩=false)
 (h:x<p) (hz:z≠10) (h0:0≤n) (h1:n<9223372036854775807):
 Calls Tryz.prog 105 #[.agg #[.int .i64 x,.int .i64 y,.int .i64 z],.pointer (some ⟨a,0,none⟩),.pointer (some ⟨c,0,none⟩),.pointer (some ⟨l,0,none⟩)] W fun e W'=>e= .returned (.bool true)∧∃o,W'=(W.setCell ⟨c,0,none⟩ (.int .i64 (n+1))).alloc o:=by
 have hc1:=alloc_cell ha hc
 have hn1:=alloc_cell hcl hn
 have hf1:=alloc_frozen hcl hf
 have hz':(z==10)=false:=by simpa using hz
 go_enter Tryz.func105,Tryz.ntmps105
 go_wp2
 go_ret
 exact ⟨rfl,_,rfl⟩
set_option maxHeartbeats 400000 in
theorem place_line (a c l:Nat) (W:World) (p x y n m:Int) (ha:a<W.heap.size) (hcl:c<W.heap.size) (hll:l<W.heap.size) (hne:c≠l) (hc:W.cell? ⟨a,0,none⟩=some (.int .i64 p)) (hn:W.cell? ⟨c,0,none⟩=some (.int .i64 n)) (hf:W.frozen? ⟨c,0,none⟩=false)
 (hm:W.cell? ⟨l,0,none⟩=some (.int .i64 m)) (hg:W.frozen? ⟨l,0,none⟩=false) (h:x<p) (h0:0≤n) (h1:n<9223372036854775807) (h2:0≤m) (h3:m<9223372036854775807):
 Calls Tryz.prog 105 #[.agg #[.int .i64 x,.int .i64 y,.int .i64 10],.pointer (some ⟨a,0,none⟩),.pointer (some ⟨c,0,none⟩),.pointer (some ⟨l,0,none⟩)] W fun e W'=>e= .returned (.bool true)∧∃o,W'=(((W.setCell ⟨c,0,none⟩ (.int .i64 (n+1))).setCell ⟨l,0,none⟩ (.int .i64 (m+1))).setCell ⟨c,0,none⟩ (.int .i64 1)).alloc o:=by
 have hc1:=alloc_cell ha hc
 have hn1:=alloc_cell hcl hn
 have hf1:=alloc_frozen hcl hf
 have hm1:=alloc_cell hll hm
 have hg1:=alloc_frozen hll hg
 go_enter Tryz.func105,Tryz.ntmps105
 go_wp2
 go_ret
 exact ⟨rfl,_,rfl⟩
def plW (w:World) (p:Int):World:=((w.alloc (.cells #[.int .i64 p] 3)).alloc (.cells #[.int .i64 1] 3)).alloc (.cells #[.int .i64 1] 3)
theorem plW_size (w:World) (p:Int):(plW w p).heap.size=w.heap.size+3:=by simp[plW]
def plCells (B p:Nat) (x:Nat×Nat):List (Nat×Nat×Value):=[(B,0,.int .i64 p),(B+1,0,.int .i64 x.1),(B+2,0,.int .i64 x.2)]
theorem plW_own (w:World) (p:Nat) (s:ByteArray):Own w.heap.size (w.heap.size+3) w ((plW w p).alloc (.stringIter s 0)) (plCells w.heap.size p (1,1)):=by
 have key:∀c∈plCells w.heap.size p (1,1),(plW w p).cell? ⟨c.1,c.2.1,none⟩=some c.2.2∧(plW w p).frozen? ⟨c.1,c.2.1,none⟩=false∧w.heap.size≤c.1∧c.1<(plW w p).heap.size:=by
  intro c hc
  rw[plW_size]
  have n0:=new_cell w [.int .i64 p] 3 0 _ rfl
  have e1:(w.alloc (.cells #[.int .i64 p] 3)).heap.size=w.heap.size+1:=by simp
  have n1:=new_cell (w.alloc (.cells #[.int .i64 p] 3)) [.int .i64 1] 3 0 _ rfl
  rw[e1] at n1
  have e2:((w.alloc (.cells #[.int .i64 p] 3)).alloc (.cells #[.int .i64 1] 3)).heap.size=w.heap.size+2:=by simp
  have n2:=new_cell ((w.alloc (.cells #[.int .i64 p] 3)).alloc (.cells #[.int .i64 1] 3)) [.int .i64 1] 3 0 _ rfl
  rw[e2] at n2
  simp only[plCells,List.mem_cons,List.not_mem_nil,or_false] at hc
  rcases hc with rfl | rfl | rfl
  ·exact ⟨alloc_cell (by simp<;>omega) (alloc_cell (by simp<;>omega) n0.1 _) _,alloc_frozen (by simp<;>omega) (alloc_frozen (by simp<;>omega) n0.2 _) _,by simp<;>omega⟩
  ·exact ⟨alloc_cell (by simp<;>omega) n1.1 _,alloc_frozen (by simp<;>omega) n1.2 _,by simp<;>omega⟩
  ·exact ⟨n2.1,n2.2,by simp<;>omega⟩
 have h:=Own.start key ((((Below.refl _ w).alloc (Nat.le_refl _) _).alloc (by simp<;>omega) _).alloc (by simp<;>omega) _) (by rw[plW_size];omega) s
 rw[plW_size] at h
 exact h
set_option maxHeartbeats 1000000 in
theorem place_each (s:ByteArray) (p:Nat) (w:World) (hs:s.size≤1048576):
 Calls Tryz.prog 104 #[.string s,.func (.func 105) #[] #[.pointer (some ⟨w.heap.size,0,none⟩),.pointer (some ⟨w.heap.size+2,0,none⟩),.pointer (some ⟨w.heap.size+1,0,none⟩)]] (plW w p) fun e w'=>e= .returned (.tuple #[])∧
  Own w.heap.size (w.heap.size+3) w w' (plCells w.heap.size p (lcA p (rest s 0))):=by
 have HE:=each_any s 105 #[.pointer (some ⟨w.heap.size,0,none⟩),.pointer (some ⟨w.heap.size+2,0,none⟩),.pointer (some ⟨w.heap.size+1,0,none⟩)] enters105 (plW w p) (by omega) (goP p)
  (fun done W=>Own w.heap.size (w.heap.size+3) w W (plCells w.heap.size p (lcA p done)))
  (plW_own w p s)
  (fun done W q p' h _=>by have:=h.iterAt s p';rw[plW_size];exact this)
  (fun done r l W he hg h _=>by
   have hlen:=congrArg List.length he
   have hrl:=rest_len s 0
   simp only[List.length_append,List.length_cons] at hlen
   obtain ⟨b1,b2,b3,b4⟩:=lcA_le p done
   have i0:(w.heap.size,0,Value.int .i64 p)∈plCells w.heap.size p (lcA p done):=by simp[plCells]
   have i1:(w.heap.size+1,0,Value.int .i64 (lcA p done).1)∈plCells w.heap.size p (lcA p done):=by simp[plCells]
   have i2:(w.heap.size+2,0,Value.int .i64 (lcA p done).2)∈plCells w.heap.size p (lcA p done):=by simp[plCells]
   have hit:=h.iter.2
   have hgo:goP p (done++[r])=decide (r.1<p):=by simp[goP]
   have hsn:=lcA_snoc p done r
   obtain ⟨x,y,z⟩:=r
   by_cases hx:x<p
   ·by_cases hz:z=10
    ·subst hz
     refine (place_line w.heap.size (w.heap.size+2) (w.heap.size+1) W p x y (lcA p done).2 (lcA p done).1 (h.low _ i0).2.2 (h.low _ i2).2.2 (h.low _ i1).2.2 (by omega) (h.cell _ i0) (h.cell _ i2) (h.free _ i2) (h.cell _ i1) (h.free _ i1) (by omega) (by omega) (by omega) (by omega) (by omega)).mono fun e W' ⟨he,o,hW⟩=>?_
     subst hW
     refine ⟨by rw[he,hgo];simp[hx],?_,?_⟩
     ·have s1:=h.set (w.heap.size+2) 0 i2 (.int .i64 ((lcA p done).2+1))
      have s2:=s1.set (w.heap.size+1) 0 (v:=.int .i64 (lcA p done).1) (by simp[plCells]) (.int .i64 ((lcA p done).1+1))
      have s3:=(s2.set (w.heap.size+2) 0 (v:=.int .i64 ((lcA p done).2+1)) (by simp[plCells]) (.int .i64 1)).alloc o
      rw[hsn]
      simpa [plCells,lcS,hx] using s3
     ·rw[plW_size,iter_alloc (by simp;omega),iter_set (by omega),iter_set (by omega),iter_set (by omega)]
    ·refine (place_col w.heap.size (w.heap.size+2) (w.heap.size+1) W p x y z (lcA p done).2 (h.low _ i0).2.2 (h.low _ i2).2.2 (h.cell _ i0) (h.cell _ i2) (h.free _ i2) (by omega) (by omega) (by omega) (by omega)).mono fun e W' ⟨he,o,hW⟩=>?_
     subst hW
     refine ⟨by rw[he,hgo];simp[hx],?_,?_⟩
     ·have s1:=(h.set (w.heap.size+2) 0 i2 (.int .i64 ((lcA p done).2+1))).alloc o
      rw[hsn]
      simpa [plCells,lcS,hx,hz] using s1
     ·rw[plW_size,iter_alloc (by simp;omega),iter_set (by omega)]
   ·refine (place_no w.heap.size (w.heap.size+2) (w.heap.size+1) W p x y z (h.low _ i0).2.2 (h.cell _ i0) (by omega)).mono fun e W' ⟨he,o,hW⟩=>?_
    subst hW
    refine ⟨by rw[he,hgo];simp[hx],?_,?_⟩
    ·have s1:=h.alloc o
     rw[hsn]
     simpa [plCells,lcS,hx] using s1
    ·rw[plW_size,iter_alloc (by omega)])
 have hb0:=lc_runTo p (rest s 0) [] (by simpa using rest_sorted s 0)
 rw[List.nil_append] at hb0
 simp only[hb0] at HE
 exact HE
set_option maxHeartbeats 1000000 in
theorem place_yes (s:ByteArray) (p:Nat) (w:World) (hs:s.size≤1048576) (h:p≤s.size):Calls Tryz.prog 69 #[.string s,.int .i64 p] w fun e w'=>e= .returned (.tuple #[.int .i64 (lcA p (rest s 0)).1,.int .i64 (lcA p (rest s 0)).2,.int .i64 0])∧Below w.heap.size w w':=by
 have HE:=place_each s p w hs
 unfold plW at HE
 have h1:¬(s.size:Int)<(p:Int):=by omega
 go_enter Tryz.func69,Tryz.ntmps69
 go_wp2_with (go_at_call 104;refine HE.mono ?_;rintro e W ⟨rfl,hO⟩;have g1:=hO.cell _ (show (w.heap.size+1,0,Value.int .i64 (lcA p (rest s 0)).1)∈_ by simp[plCells]);have g2:=hO.cell _ (show (w.heap.size+2,0,Value.int .i64 (lcA p (rest s 0)).2)∈_ by simp[plCells]))
 go_quiet (fail)
 go_wp2
 go_ret3
 exact ⟨rfl,below_drewN hO.below _⟩
set_option maxHeartbeats 1000000 in
theorem place_err (s:ByteArray) (p:Int) (w:World) (h:p<0∨(s.size:Int)<p):Calls Tryz.prog 69 #[.string s,.int .i64 p] w fun e w'=>e= .returned (.tuple #[.int .i64 0,.int .i64 0,.int .i64 1])∧Below w.heap.size w w':=by
 rcases h with h | h
 ·go_enter Tryz.func69,Tryz.ntmps69
  go_wp2
  go_ret3
  exact ⟨rfl,(Below.refl _ _).alloc (Nat.le_refl _) _⟩
 ·have h0:¬p<0:=by omega
  go_enter Tryz.func69,Tryz.ntmps69
  go_wp2
  go_ret3
  exact ⟨rfl,(Below.refl _ _).alloc (Nat.le_refl _) _⟩
end Go.Proofs.YtkjbgggghigapaaGreat.S


namespace Go.Proofs.YtkjbgggghigapaaGreat
open Go.RowKit
theorem Gk.inNo {No:Nat→Prop} {b:Nat} {t:Tx} {s:Gs} {w w':World} (h:Gk No b t s w) (hs:w.heap.size≤w'.heap.size) (hk:∀g,g<w.heap.size→¬No g→w'.heap[g]?=w.heap[g]?):Gk No b t s w':=by
 obtain ⟨x,h⟩:=h
 have k:Tg x (fun l=>l=0) w w':=⟨hs,fun g hg hT=>hk g hg fun e=>hT (h.no g e).2⟩
 exact ⟨x,h.sx' k (by decide),h.mx' k (by decide),h.ur' k (by decide),h.lr' k (by decide),h.br' k (by decide),h.mp' k (by decide),fun i _ _ hu hv=>h.cr' k (by decide) hu hv,fun i _ _ hu hv=>h.kr' k (by omega) hu hv,h.cl,h.kl,h.ub,h.lS,h.lb,h.lU,h.lm,h.lL,h.lB,h.lc,h.lk,h.no' k.size,h.cu,h.gh⟩
theorem Gk.grow {No:Nat→Prop} {b:Nat} {t:Tx} {s:Gs} {w w':World} (h:Gk No b t s w) (k:Below w.heap.size w w'):Gk (fun g=>No g∨(w.heap.size≤g∧g<w'.heap.size)) b t s w':=by
 obtain ⟨x,h⟩:=h
 have h1:=(h.relab (fun g=>if w.heap.size≤g then 0 else x.lab g) fun g hg=>if_neg (by omega)).below k
 exact ⟨_,h1.sx,h1.mx,h1.ur,h1.lr,h1.br,h1.mp,h1.cr,h1.kr,h1.cl,h1.kl,h1.ub,h1.lS,h1.lb,h1.lU,h1.lm,h1.lL,h1.lB,h1.lc,h1.lk,fun g hg=>hg.elim (fun hg=>h1.no g hg) (fun hg=>⟨hg.2,if_pos hg.1⟩),h1.cu,h1.gh⟩
theorem Gk.less {No No':Nat→Prop} {b:Nat} {t:Tx} {s:Gs} {w:World} (h:Gk No b t s w) (hs:∀g,No' g→No g):Gk No' b t s w:=by obtain ⟨x,h⟩:=h;exact ⟨x,h.less hs⟩
theorem Gk.old {No:Nat→Prop} {b:Nat} {t:Tx} {s:Gs} {w:World} (h:Gk No b t s w) (g:Nat) (hg:No g):g<w.heap.size:=by obtain ⟨x,h⟩:=h;exact (h.no g hg).1
structure Tw (No:Nat→Prop) (b:Nat) (t:Tx) (N B:Nat) (cur:Array Value) (wv kv:Int) (s:Gs) (W w:World):Prop where
 gk:Gk (fun g=>No g∨(g=N∨g=N+1∨g=B∨g=B+1)) b t s w
 bm:Bx N 119 #[.pointer (some ⟨b,0,none⟩)] w
 bn:Bx (N+1) 54 cur w
 bw:Bx B 3 #[.int .i64 wv] w
 bk:Bx (B+1) 3 #[.int .i64 kv] w
 kn:Kn No W w
 lt:W.heap.size≤N∧N+1<B
section
variable {No:Nat→Prop} {b:Nat} {t:Tx} {N B:Nat} {cur:Array Value} {wv kv:Int} {s s':Gs} {W w w':World}
theorem Tw.to (h:Tw No b t N B cur wv kv s W w) (hc:Gk (fun g=>No g∨(g=N∨g=N+1∨g=B∨g=B+1)) b t s' w') (hk:Kn (fun g=>No g∨(g=N∨g=N+1∨g=B∨g=B+1)) w w'):Tw No b t N B cur wv kv s' W w':=
 ⟨hc,h.bm.kn hk (.inr (.inl rfl)),h.bn.kn hk (.inr (.inr (.inl rfl))),h.bw.kn hk (.inr (.inr (.inr (.inl rfl)))),h.bk.kn hk (.inr (.inr (.inr (.inr rfl)))),h.kn.trans (hk.mono fun _ _ e=>.inl e),h.lt⟩
theorem Tw.below (h:Tw No b t N B cur wv kv s W w) (k:Below w.heap.size w w'):Tw No b t N B cur wv kv s W w':=h.to (h.gk.below k) (.of_below k)
theorem Tw.alloc (h:Tw No b t N B cur wv kv s W w) (o:Obj):Tw No b t N B cur wv kv s W (w.alloc o):=h.below ((Below.refl _ w).alloc (Nat.le_refl _) o)
theorem Tw.drew (h:Tw No b t N B cur wv kv s W w):Tw No b t N B cur wv kv s W w.drew:=h.below ⟨rfl,rfl,rfl,Nat.le_refl _,fun _ _=>rfl⟩
theorem Tw.old (h:Tw No b t N B cur wv kv s W w) (hN:∀g,No g→g<W.heap.size) {X o:Nat} (hX:X=B∨X=B+1) (u:Value):Kn No W (w.setCell ⟨X,o,none⟩ u):=h.kn.setCell (fun q=>by have:=hN _ q;have:=h.lt;omega) u
theorem Tw.setW (h:Tw No b t N B cur wv kv s W w) (hN:∀g,No g→g<W.heap.size) (u:Int):Tw No b t N B cur u kv s W (w.setCell ⟨B,0,none⟩ (.int .i64 u)):=
 ⟨h.gk.inNo (by simp) fun g _ hg=>Below.heap_setCell w _ _ g fun e=>hg (.inr (.inr (.inr (.inl e)))),h.bm.set (by have:=h.lt;omega) _,h.bn.set (by have:=h.lt;omega) _,h.bw.put (j:=0) _,h.bk.set (by omega) _,h.old hN (.inl rfl) _,h.lt⟩
theorem Tw.setK (h:Tw No b t N B cur wv kv s W w) (hN:∀g,No g→g<W.heap.size) (u:Int):Tw No b t N B cur wv u s W (w.setCell ⟨B+1,0,none⟩ (.int .i64 u)):=
 ⟨h.gk.inNo (by simp) fun g _ hg=>Below.heap_setCell w _ _ g fun e=>hg (.inr (.inr (.inr (.inr e)))),h.bm.set (by have:=h.lt;omega) _,h.bn.set (by have:=h.lt;omega) _,h.bw.set (by omega) _,h.bk.put (j:=0) _,h.old hN (.inr rfl) _,h.lt⟩
theorem Tw.seen (h:Tw No b t N B cur wv kv s W w):w.cell? ⟨N,0,none⟩=some (.pointer (some ⟨b,0,none⟩))∧w.cell? ⟨B,0,none⟩=some (.int .i64 wv)∧w.cell? ⟨B+1,0,none⟩=some (.int .i64 kv)∧w.frozen? ⟨B,0,none⟩=false∧w.frozen? ⟨B+1,0,none⟩=false:=
 ⟨h.bm.c 0 _ rfl,h.bw.c 0 _ rfl,h.bk.c 0 _ rfl,h.bw.f 0,h.bk.f 0⟩
end
set_option maxRecDepth 20000 in
set_option maxHeartbeats 8000000 in
theorem store_any {No:Nat→Prop} {b:Nat} {t:Tx} {N B:Nat} {cur:Array Value} {wv kv:Int} {s:Gs} {W w:World} (h:Tw No b t N B cur wv kv s W w) (hN:∀g,No g→g<W.heap.size) (hw:0≤wv∧wv≤100) (hk:0≤kv∧kv≤1000000000) (hL:s.code.length≤100000000):
 Calls Tryz.prog 151 #[.pointer (some ⟨B,0,none⟩),.pointer (some ⟨N,0,none⟩),.pointer (some ⟨B+1,0,none⟩)] w fun e w'=>e= .returned (.tuple #[])∧Tw No b t N B cur 0 (kv+wv) (if 0<wv then gad 28 wv kv 0 s else s) W w'∧Kn No w w':=by
 have nB:¬No B∧¬No (B+1):=⟨fun q=>by have:=hN _ q;have:=h.lt;omega,fun q=>by have:=hN _ q;have:=h.lt;omega⟩
 have wk:IntKind.i64.wrap (kv+wv)=kv+wv:=by rw[IntKind.wrap_i64];omega
 by_cases h0:0<wv
 ·rw[if_pos h0]
  have h0':wv>0:=h0
  obtain ⟨c0,c1,c2,f1,f2⟩:=h.seen
  have C:=h.gk.add2 28 wv kv hL
  have HT:Hid (Tw No b t N B cur wv kv s W w):=h
  clear h h0
  go_enter Tryz.func151,Tryz.ntmps151
  go_wp2_with fail
  refine C.mono ?_
  rintro e w2 ⟨rfl,hq1,hq2⟩
  have D:=HT.out.to hq1 hq2
  obtain ⟨c0,c1,c2,f1,f2⟩:=D.seen
  have E:=(D.setW hN 0).setK hN (kv+wv)
  have HE:Hid (Tw No b t N B cur 0 (kv+wv) (gad 28 wv kv 0 s) W ((w2.setCell ⟨B,0,none⟩ (.int .i64 0)).setCell ⟨B+1,0,none⟩ (.int .i64 (kv+wv)))∧Kn No w ((w2.setCell ⟨B,0,none⟩ (.int .i64 0)).setCell ⟨B+1,0,none⟩ (.int .i64 (kv+wv)))):=⟨E,((hq2.mono fun _ _ e=>.inl e).setCell nB.1 _).setCell nB.2 _⟩
  clear D E C hq1 hq2 HT
  have hB:(⟨B,0,none⟩:Addr)≠⟨B+1,0,none⟩:=fun e=>by injection e with e;omega
  go_wp2_with fail
  go_region
  go_end0
  exact ⟨rfl,HE.out.1.drew,HE.out.2.drew⟩
 ·rw[if_neg h0]
  obtain rfl:wv=0:=by omega
  obtain ⟨c0,c1,c2,f1,f2⟩:=h.seen
  have E:=(h.setW hN 0).setK hN (kv+0)
  have HE:Hid (Tw No b t N B cur 0 (kv+0) s W ((w.setCell ⟨B,0,none⟩ (.int .i64 0)).setCell ⟨B+1,0,none⟩ (.int .i64 (kv+0)))∧Kn No w ((w.setCell ⟨B,0,none⟩ (.int .i64 0)).setCell ⟨B+1,0,none⟩ (.int .i64 (kv+0)))):=⟨E,((Kn.refl No w).setCell nB.1 _).setCell nB.2 _⟩
  clear h E
  rw[Int.add_zero] at wk HE⊢
  have hB:(⟨B,0,none⟩:Addr)≠⟨B+1,0,none⟩:=fun e=>by injection e with e;omega
  go_enter Tryz.func151,Tryz.ntmps151
  go_wp2_with fail
  go_region
  go_end0
  exact ⟨rfl,HE.out.1.drew,HE.out.2.drew⟩
end Go.Proofs.YtkjbgggghigapaaGreat
