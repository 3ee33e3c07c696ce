import Derived.Test.YtkjbgggghigapaaGreatCg01
import Derived.Deep.AppendLies
namespace Go.Proofs.YtkjbgggghigapaaGreat
open Go.RowKit
structure Ky (S:Nat→Prop) (W W':World):Prop where
 os:W'.os=W.os
 tape:W'.tape=W.tape
 output:W'.output=W.output
 size:W.heap.size≤W'.heap.size
 block:∀k,k<W.heap.size→¬S k→W'.heap[k]?=W.heap[k]?
theorem Ky.refl (S:Nat→Prop) (W:World):Ky S W W:=⟨rfl,rfl,rfl,Nat.le_refl _,fun _ _ _=>rfl⟩
theorem Ky.trans {S:Nat→Prop} {x y z:World} (h:Ky S x y) (k:Ky S y z):Ky S x z:=
 ⟨k.os.trans h.os,k.tape.trans h.tape,k.output.trans h.output,Nat.le_trans h.size k.size,fun i hi hn=>(k.block i (Nat.lt_of_lt_of_le hi h.size) hn).trans (h.block i hi hn)⟩
theorem Ky.mono {S S':Nat→Prop} {x y:World} (h:Ky S x y) (hs:∀k,k<x.heap.size→S k→S' k):Ky S' x y:=⟨h.os,h.tape,h.output,h.size,fun k hk hn=>h.block k hk fun e=>hn (hs k hk e)⟩
theorem Ky.of_below {S:Nat→Prop} {x y:World} (h:Below x.heap.size x y):Ky S x y:=⟨h.os,h.tape,h.output,h.size,fun k hk _=>h.block k hk⟩
theorem Ky.alloc {S:Nat→Prop} {a w:World} (h:Ky S a w) (o:Obj):Ky S a (w.alloc o):=h.trans (.of_below ((Below.refl _ w).alloc (Nat.le_refl _) o))
theorem Ky.drew {S:Nat→Prop} {a w:World} (h:Ky S a w):Ky S a w.drew:=⟨h.os,h.tape,h.output,h.size,h.block⟩
theorem Ky.setCell {S:Nat→Prop} {b o:Nat} {a w:World} (h:Ky S a w) (hb:S b) (u:Value):Ky S a (w.setCell ⟨b,o,none⟩ u):=
 h.trans ⟨rfl,rfl,rfl,by simp,fun k _ hk=>Below.heap_setCell w _ u k (fun e=>hk (e▸hb))⟩
theorem Ky.setP {b o:Nat} {a w:World} (h:Ky (fun k=>k=b) a w) (u:Value):Ky (fun k=>k=b) a (w.setCell ⟨b,o,none⟩ u):=Ky.setCell (S:=fun k=>k=b) h rfl u
structure Bx (X:Nat) (e:TypeId) (cur:Array Value) (w:World):Prop where
 blk:w.heap[X]?=some (.cells cur e (0,0))
theorem Bx.lt {X:Nat} {e:TypeId} {cur:Array Value} {w:World} (h:Bx X e cur w):X<w.heap.size:=(Array.getElem?_eq_some_iff.1 h.blk).1
theorem Bx.new (w:World) (e:TypeId) (cur:Array Value):Bx w.heap.size e cur (w.alloc (.cells cur e)):=⟨Go.heap_alloc_new w _⟩
theorem Bx.ky {X:Nat} {e:TypeId} {cur:Array Value} {w w':World} {S:Nat→Prop} (h:Bx X e cur w) (k:Ky S w w') (hS:¬S X):Bx X e cur w':=⟨(k.block X h.lt hS).trans h.blk⟩
theorem Bx.below {X:Nat} {e:TypeId} {cur:Array Value} {w w':World} (h:Bx X e cur w) (k:Below w.heap.size w w'):Bx X e cur w':=⟨(k.block X h.lt).trans h.blk⟩
theorem Bx.alloc {X:Nat} {e:TypeId} {cur:Array Value} {w:World} (h:Bx X e cur w) (o:Obj):Bx X e cur (w.alloc o):=h.below ((Below.refl _ w).alloc (Nat.le_refl _) o)
theorem Bx.drew {X:Nat} {e:TypeId} {cur:Array Value} {w:World} (h:Bx X e cur w):Bx X e cur w.drew:=⟨h.blk⟩
theorem Bx.set {X b o:Nat} {e:TypeId} {cur:Array Value} {w:World} (h:Bx X e cur w) (hb:X≠b) (u:Value):Bx X e cur (w.setCell ⟨b,o,none⟩ u):=⟨(Below.heap_setCell w _ u X hb).trans h.blk⟩
theorem Bx.c {X:Nat} {e:TypeId} {cur:Array Value} {w:World} (h:Bx X e cur w) (j:Nat) (u:Value) (hu:cur[j]?=some u):w.cell? ⟨X,j,none⟩=some u:=by rw[cell_of_row w X j cur e (0,0) h.blk];exact hu
theorem Bx.f {X:Nat} {e:TypeId} {cur:Array Value} {w:World} (h:Bx X e cur w) (j:Nat):w.frozen? ⟨X,j,none⟩=false:=by unfold World.frozen?;rw[h.blk];simp
theorem Bx.four {X:Nat} {e:TypeId} {a b c d:Value} {w:World} (h:Bx X e #[a,b,c,d] w):w.cell? ⟨X,0,none⟩=some a∧w.cell? ⟨X,1,none⟩=some b∧w.cell? ⟨X,2,none⟩=some c∧w.cell? ⟨X,3,none⟩=some d:=⟨h.c 0 _ rfl,h.c 1 _ rfl,h.c 2 _ rfl,h.c 3 _ rfl⟩
theorem Bx.five {X:Nat} {e:TypeId} {a b c d f:Value} {w:World} (h:Bx X e #[a,b,c,d,f] w):w.cell? ⟨X,0,none⟩=some a∧w.cell? ⟨X,1,none⟩=some b∧w.cell? ⟨X,2,none⟩=some c∧w.cell? ⟨X,3,none⟩=some d∧w.cell? ⟨X,4,none⟩=some f:=⟨h.c 0 _ rfl,h.c 1 _ rfl,h.c 2 _ rfl,h.c 3 _ rfl,h.c 4 _ rfl⟩
theorem Bx.fiveA {X:Nat} {e:TypeId} {a b c d f:Value} {w:World} (h:Bx X e #[a,b,c,d,f] w):(∀o,(w.alloc o).cell? ⟨X,0,none⟩=some a)∧(∀o,(w.alloc o).cell? ⟨X,1,none⟩=some b)∧(∀o,(w.alloc o).cell? ⟨X,2,none⟩=some c)∧(∀o,(w.alloc o).cell? ⟨X,3,none⟩=some d)∧(∀o,(w.alloc o).cell? ⟨X,4,none⟩=some f):=
 ⟨fun o=>(h.alloc o).c 0 _ rfl,fun o=>(h.alloc o).c 1 _ rfl,fun o=>(h.alloc o).c 2 _ rfl,fun o=>(h.alloc o).c 3 _ rfl,fun o=>(h.alloc o).c 4 _ rfl⟩
theorem Bx.frozen5 {X:Nat} {e:TypeId} {cur:Array Value} {w:World} (h:Bx X e cur w):w.frozen? ⟨X,0,none⟩=false∧w.frozen? ⟨X,1,none⟩=false∧w.frozen? ⟨X,2,none⟩=false∧w.frozen? ⟨X,3,none⟩=false∧w.frozen? ⟨X,4,none⟩=false:=⟨h.f 0,h.f 1,h.f 2,h.f 3,h.f 4⟩
theorem Bx.frozen5A {X:Nat} {e:TypeId} {cur:Array Value} {w:World} (h:Bx X e cur w):(∀o,(w.alloc o).frozen? ⟨X,0,none⟩=false)∧(∀o,(w.alloc o).frozen? ⟨X,1,none⟩=false)∧(∀o,(w.alloc o).frozen? ⟨X,2,none⟩=false)∧(∀o,(w.alloc o).frozen? ⟨X,3,none⟩=false)∧(∀o,(w.alloc o).frozen? ⟨X,4,none⟩=false):=
 ⟨fun o=>(h.alloc o).f 0,fun o=>(h.alloc o).f 1,fun o=>(h.alloc o).f 2,fun o=>(h.alloc o).f 3,fun o=>(h.alloc o).f 4⟩
def Ends (l:List Tok):Prop:=∃pre e,l=pre++[e]∧e.k=6
theorem Ends.ne {l:List Tok} (h:Ends l):l≠[]:=by obtain ⟨p,e,rfl,_⟩:=h;simp
theorem Ends.tail {t:Tok} {l:List Tok} (h:Ends (t::l)) (ht:cls t≠56):Ends l:=by
 obtain ⟨p,e,h1,h2⟩:=h
 cases p with
 | nil=>
   simp at h1
   obtain ⟨rfl,rfl⟩:=h1
   exact absurd (cls_of_kind t 6 h2 (by simp)) ht
 | cons a p=>simp at h1;exact ⟨p,e,h1.2,h2⟩
structure PS (b m:Nat) (T l:List Tok) (W:World):Prop where
 tok:∃g cap,W.cell? ⟨b,0,none⟩=some (.slice (some ⟨g,0,none⟩) T.length cap)∧g<m∧g≠b∧∀j u,(cellsT T)[j]?=some u→W.cell? ⟨g,j,none⟩=some u
 plc:∃i:Nat,W.cell? ⟨b,1,none⟩=some (.int .i64 i)∧T.drop i=l∧T.length=i+l.length
 fz:W.frozen? ⟨b,1,none⟩=false
 lt:b<m∧m≤W.heap.size
 ends:Ends l
 small:T.length≤20001
theorem PS.ky {b m:Nat} {T l:List Tok} {W W':World} {S:Nat→Prop} (h:PS b m T l W) (k:Ky S W W') (hS:∀x,x<m→¬S x):PS b m T l W':=by
 have hlt:=h.lt
 have hb:W'.heap[b]?=W.heap[b]?:=k.block b (by omega) (hS b (by omega))
 obtain ⟨g,cap,h1,h2,h3,h4⟩:=h.tok
 obtain ⟨i,h5,h6,h7⟩:=h.plc
 have hg:W'.heap[g]?=W.heap[g]?:=k.block g (by omega) (hS g (by omega))
 exact ⟨⟨g,cap,(World.cell?_of_block hb).trans h1,h2,h3,fun j u hu=>(World.cell?_of_block hg).trans (h4 j u hu)⟩,⟨i,(World.cell?_of_block hb).trans h5,h6,h7⟩,(World.frozen?_of_block hb).trans h.fz,⟨hlt.1,Nat.le_trans hlt.2 k.size⟩,h.ends,h.small⟩
theorem PS.alloc {b m:Nat} {T l:List Tok} {W:World} (h:PS b m T l W) (o:Obj):PS b m T l (W.alloc o):=h.ky (S:=fun _=>False) ((Ky.refl _ _).alloc o) (fun _ _=>id)
theorem PS.drew {b m:Nat} {T l:List Tok} {W:World} (h:PS b m T l W):PS b m T l W.drew:=⟨h.tok,h.plc,h.fz,h.lt,h.ends,h.small⟩
theorem PS.cons {b m:Nat} {T l:List Tok} {W:World} (h:PS b m T l W):∃t l',l=t::l':=by
 cases l with
 | nil=>exact absurd rfl h.ends.ne
 | cons t l=>exact ⟨t,l,rfl⟩
theorem cellsT_at:∀(ts:List Tok) (k j:Nat) (t:Tok),ts[k]?=some t→j<4→(cellsT ts)[k * 4+j]?=(cellT t)[j]?
 | [],k,j,t,h,_=>by simp at h
 | a::ts,0,j,t,h,hj=>by
   simp at h
   subst h
   show (cellT a++cellsT ts)[0 * 4+j]?=_
   rw[List.getElem?_append_left (by simp[cellT];omega)];simp
 | a::ts,k+1,j,t,h,hj=>by
   simp at h
   show (cellT a++cellsT ts)[(k+1) * 4+j]?=_
   rw[List.getElem?_append_right (by simp[cellT];omega)]
   have :(k+1) * 4+j - (cellT a).length=k * 4+j:=by simp[cellT];omega
   rw[this]
   exact cellsT_at ts k j t h hj
theorem PS.reads {b m:Nat} {T l:List Tok} {t:Tok} {W:World} (h:PS b m T (t::l) W):∃g cap i:Nat,W.cell? ⟨b,0,none⟩=some (.slice (some ⟨g,0,none⟩) T.length cap)∧W.cell? ⟨b,1,none⟩=some (.int .i64 i)∧i<T.length∧i+1≤20001∧
 W.cell? ⟨g,i * 4,none⟩=some (.int .i64 t.k)∧W.cell? ⟨g,i * 4+1,none⟩=some (.string ⟨t.t.toArray⟩)∧W.cell? ⟨g,i * 4+2,none⟩=some (.int .i64 t.v)∧W.cell? ⟨g,i * 4+3,none⟩=some (.int .i64 t.p):=by
 obtain ⟨g,cap,h1,h2,h3,h4⟩:=h.tok
 obtain ⟨i,h5,h6,h7⟩:=h.plc
 have hs:=h.small
 have hi:T[i]?=some t:=by
  have :(T.drop i)[0]?=some t:=by rw[h6];rfl
  simpa using this
 simp at h7
 have hc:=fun j hj=>cellsT_at T i j t hi hj
 refine ⟨g,cap,i,h1,h5,by omega,by omega,h4 _ _ (hc 0 (by omega)),h4 _ _ (hc 1 (by omega)),h4 _ _ (hc 2 (by omega)),h4 _ _ (hc 3 (by omega))⟩
theorem PS.next {b m:Nat} {T l:List Tok} {t:Tok} {W:World} {i:Nat} (h:PS b m T (t::l) W) (ht:cls t≠56) (hi:W.cell? ⟨b,1,none⟩=some (.int .i64 i)):PS b m T l (W.setCell ⟨b,1,none⟩ (.int .i64 ((i:Int)+1))):=by
 obtain ⟨g,cap,h1,h2,h3,h4⟩:=h.tok
 obtain ⟨i',h5,h6,h7⟩:=h.plc
 obtain rfl:i'=i:=by rw[h5] at hi;simp at hi;omega
 have hb:∀j u,(W.setCell ⟨b,1,none⟩ u).cell? ⟨g,j,none⟩=W.cell? ⟨g,j,none⟩:=fun j u=>World.cell?_setCell_other _ _ _ _ (fun e=>h3 (by injection e with e1;exact e1.symm))
 refine ⟨⟨g,cap,?_,h2,h3,fun j u hu=>(hb j _).trans (h4 j u hu)⟩,⟨i'+1,World.cell?_setCell_same _ _ _ hi,?_,by simp at h7;omega⟩,by simpa using h.fz,by rw[size_set];exact h.lt,h.ends.tail ht,h.small⟩
 ·rw[World.cell?_setCell_other _ _ _ _ (fun e=>by injection e with e1 e2;cases e2)];exact h1
 ·have :T.drop (i'+1)=(T.drop i').drop 1:=by simp
  rw[this,h6];rfl
@[go_sem] theorem tf0 (k v p:Int) (s:ByteArray) (W:World):(Instr.field 114 (.agg #[.int .i64 k,.string s,.int .i64 v,.int .i64 p]) 0).run Tryz.prog W= .ok (.int .i64 k) W:=by kernel_rfl
@[go_sem] theorem tf3 (k v p:Int) (s:ByteArray) (W:World):(Instr.field 114 (.agg #[.int .i64 k,.string s,.int .i64 v,.int .i64 p]) 3).run Tryz.prog W= .ok (.int .i64 p) W:=by kernel_rfl
@[go_sem] theorem nf1 (k n p:Int) (s:ByteArray) (v:Value) (W:World):(Instr.field 54 (.agg #[.int .i64 k,.string s,.int .i64 n,.int .i64 p,v]) 1).run Tryz.prog W= .ok (.string s) W:=by kernel_rfl
theorem Ky.new {S:Nat→Prop} {X o:Nat} {a w:World} (h:Ky S a w) (hX:a.heap.size≤X) (u:Value):Ky S a (w.setCell ⟨X,o,none⟩ u):=
 ⟨h.os,h.tape,h.output,by simpa using h.size,fun k hk hn=>(Below.heap_setCell w _ u k (by show k≠X;omega)).trans (h.block k hk hn)⟩
theorem PS.set {b m X o:Nat} {T l:List Tok} {w:World} (h:PS b m T l w) (hX:m≤X) (u:Value):PS b m T l (w.setCell ⟨X,o,none⟩ u):=
 h.ky (S:=fun k=>k=X) (Ky.setP (Ky.refl _ _) u) (fun x hx e=>by omega)
structure Tk (b m:Nat) (T l:List Tok) (W W':World):Prop where
 ps:PS b m T l W'
 ky:Ky (fun k=>k=b) W W'
theorem Tk.new {b m X o:Nat} {T l:List Tok} {W w:World} (h:Tk b m T l W w) (hX:W.heap.size≤X) (hm:m≤W.heap.size) (u:Value):Tk b m T l W (w.setCell ⟨X,o,none⟩ u):=⟨h.ps.set (by omega) u,h.ky.new hX u⟩
theorem Tk.alloc {b m:Nat} {T l:List Tok} {W w:World} (h:Tk b m T l W w) (o:Obj):Tk b m T l W (w.alloc o):=⟨h.ps.alloc o,h.ky.alloc o⟩
theorem Tk.trans {b m:Nat} {T l l':List Tok} {x y z:World} (h:Tk b m T l x y) (k:Tk b m T l' y z):Tk b m T l' x z:=⟨k.ps,h.ky.trans k.ky⟩
theorem Tk.below {b m:Nat} {T l:List Tok} {x y z:World} (h:Tk b m T l x y) (k:Below y.heap.size y z):Tk b m T l x z:=⟨h.ps.ky (S:=fun _=>False) (.of_below k) (fun _ _=>id),h.ky.trans (.of_below k)⟩
theorem Tk.drew {b m:Nat} {T l:List Tok} {x y:World} (h:Tk b m T l x y):Tk b m T l x y.drew:=⟨h.ps.drew,h.ky.drew⟩
theorem PS.tk {b m:Nat} {T l:List Tok} {W:World} (h:PS b m T l W):Tk b m T l W W:=⟨h,Ky.refl _ _⟩
theorem Tk.five {b m X:Nat} {T l:List Tok} {W w:World} (h:Tk b m T l W w) (hX:W.heap.size≤X) (hm:m≤W.heap.size) (u0 u1 u2 u3 u4:Value):Tk b m T l W (((((w.setCell ⟨X,0,none⟩ u0).setCell ⟨X,1,none⟩ u1).setCell ⟨X,2,none⟩ u2).setCell ⟨X,3,none⟩ u3).setCell ⟨X,4,none⟩ u4):=
 ((((h.new hX hm u0).new hX hm u1).new hX hm u2).new hX hm u3).new hX hm u4
def refp (a:Int):Ending:=.panicked [{v:=.iface 91 (.agg #[.int .i64 4,.int .i64 a]),recovered:=false}]
theorem PS.readsA {b m:Nat} {T l:List Tok} {t:Tok} {W:World} (h:PS b m T (t::l) W):∃g cap i:Nat,(∀o,(W.alloc o).cell? ⟨b,0,none⟩=some (.slice (some ⟨g,0,none⟩) T.length cap))∧(∀o,(W.alloc o).cell? ⟨b,1,none⟩=some (.int .i64 i))∧i<T.length∧i+1≤20001∧
 (∀o,(W.alloc o).cell? ⟨g,i * 4,none⟩=some (.int .i64 t.k))∧(∀o,(W.alloc o).cell? ⟨g,i * 4+1,none⟩=some (.string ⟨t.t.toArray⟩))∧(∀o,(W.alloc o).cell? ⟨g,i * 4+2,none⟩=some (.int .i64 t.v))∧(∀o,(W.alloc o).cell? ⟨g,i * 4+3,none⟩=some (.int .i64 t.p)):=by
 have hlt:=h.lt
 obtain ⟨g,cap,i,h1,h2,h3,h4,c0,c1,c2,c3⟩:=h.reads
 have hb:b<W.heap.size:=by omega
 have hg:g<W.heap.size:=World.block_lt_of_cell? W ⟨g,i * 4,none⟩ c0
 exact ⟨g,cap,i,fun o=>alloc_cell hb h1 o,fun o=>alloc_cell hb h2 o,h3,h4,fun o=>alloc_cell hg c0 o,fun o=>alloc_cell hg c1 o,fun o=>alloc_cell hg c2 o,fun o=>alloc_cell hg c3 o⟩
set_option maxHeartbeats 1000000 in
theorem token_any (b m:Nat) (T l:List Tok) (t:Tok) (W:World) (h:PS b m T (t::l) W):Calls Tryz.prog 43 #[.pointer (some ⟨b,0,none⟩)] W fun e w'=>e= .returned (.agg #[.int .i64 t.k,.string ⟨t.t.toArray⟩,.int .i64 t.v,.int .i64 t.p])∧Below W.heap.size W w':=by
 obtain ⟨g,cap,i,h1,h2,h3,h4,c0,c1,c2,c3⟩:=h.readsA
 go_enter Tryz.func43,Tryz.ntmps43
 go_wp2
 go_region
 all_goals
  go_wp2
  refine bodyPost_ret (v:=(.agg #[.int .i64 t.k,.string ⟨t.t.toArray⟩,.int .i64 t.v,.int .i64 t.p])) (by simp[results,Tryz.results43,go_sem]) rfl ?_
  exact ⟨rfl,((Below.refl _ _).alloc (Nat.le_refl _) _).drew⟩
end Go.Proofs.YtkjbgggghigapaaGreat


namespace Go.Proofs.YtkjbgggghigapaaGreat
open Go.RowKit
set_option maxRecDepth 20000
set_option maxHeartbeats 1000000 in
theorem at_any (b m:Nat) (T l:List Tok) (t:Tok) (W:World) (h:PS b m T (t::l) W):Calls Tryz.prog 45 #[.pointer (some ⟨b,0,none⟩)] W fun e w'=>e= .returned (.int .i64 t.p)∧Below W.heap.size W w':=by
 go_enter Tryz.func45,Tryz.ntmps45
 go_wp2_with (go_at_call 43;refine (token_any b m T l t _ h).mono ?_;rintro e w1 ⟨rfl,hb⟩)
 go_ret
 exact ⟨rfl,hb⟩
theorem ba_eq (a w:List UInt8):((⟨a.toArray⟩:ByteArray)=⟨w.toArray⟩)↔a=w:=by
 constructor
 ·intro h;injection h with h;injection h
 ·rintro rfl;rfl
set_option maxHeartbeats 1000000 in
theorem reads_any (t:Tok) (w:List UInt8) (W:World):Calls Tryz.prog 92 #[(.agg #[.int .i64 t.k,.string ⟨t.t.toArray⟩,.int .i64 t.v,.int .i64 t.p]),.string ⟨w.toArray⟩] W fun e w'=>e= .returned (.bool (rd t w))∧Below W.heap.size W w':=by
 unfold rd
 by_cases hk2:t.k=2
 ·by_cases ht:t.t=w
  ·have e1:((t.k==2 || t.k==5) && t.t==w)=true:=by simp[hk2,ht]
   rw[e1]
   go_enter Tryz.func92,Tryz.ntmps92
   go_wp2
   go_ret
   exact ⟨rfl,(Below.refl _ _).alloc (Nat.le_refl _) _⟩
  ·have e1:((t.k==2 || t.k==5) && t.t==w)=false:=by simp[ht]
   rw[e1]
   have ht':¬((⟨t.t.toArray⟩:ByteArray)=⟨w.toArray⟩):=fun e=>ht ((ba_eq _ _).1 e)
   go_enter Tryz.func92,Tryz.ntmps92
   go_wp2
   go_ret
   exact ⟨by simp[ht],(Below.refl _ _).alloc (Nat.le_refl _) _⟩
 ·by_cases hk5:t.k=5
  ·by_cases ht:t.t=w
   ·have e1:((t.k==2 || t.k==5) && t.t==w)=true:=by simp[hk5,ht]
    rw[e1]
    go_enter Tryz.func92,Tryz.ntmps92
    go_wp2
    go_ret
    exact ⟨rfl,(Below.refl _ _).alloc (Nat.le_refl _) _⟩
   ·have e1:((t.k==2 || t.k==5) && t.t==w)=false:=by simp[ht]
    rw[e1]
    have ht':¬((⟨t.t.toArray⟩:ByteArray)=⟨w.toArray⟩):=fun e=>ht ((ba_eq _ _).1 e)
    go_enter Tryz.func92,Tryz.ntmps92
    go_wp2
    go_ret
    exact ⟨by simp[ht],(Below.refl _ _).alloc (Nat.le_refl _) _⟩
  ·have e1:((t.k==2 || t.k==5) && t.t==w)=false:=by simp[hk2,hk5]
   rw[e1]
   go_enter Tryz.func92,Tryz.ntmps92
   go_wp2
   go_ret
   exact ⟨rfl,(Below.refl _ _).alloc (Nat.le_refl _) _⟩
set_option maxHeartbeats 1000000 in
theorem is_any (b m:Nat) (T l:List Tok) (t:Tok) (w:List UInt8) (W:World) (h:PS b m T (t::l) W):Calls Tryz.prog 64 #[.pointer (some ⟨b,0,none⟩),.string ⟨w.toArray⟩] W fun e w'=>e= .returned (.bool (rd t w))∧Below W.heap.size W w':=by
 go_enter Tryz.func64,Tryz.ntmps64
 go_wp2_with (first | (go_at_call 43;refine (token_any b m T l t _ h).mono ?_;rintro e w1 ⟨rfl,hb⟩) | (go_at_call 92;refine (reads_any t w _).mono ?_;rintro e w2 ⟨rfl,hb2⟩))
 go_ret
 exact ⟨rfl,hb.trans (hb2.mono hb.size)⟩
theorem PS.below {b m:Nat} {T l:List Tok} {W W':World} (h:PS b m T l W) (hb:Below W.heap.size W W'):PS b m T l W':=h.ky (S:=fun _=>False) (.of_below hb) (fun _ _=>id)
theorem cls_rd {t:Tok} {c:Nat} (h:cls t=c) (h1:1≤c) (h2:c≤42):rd t (wds c)=true:=by rw[rd_cls t c h1 h2,h];simp
theorem cls_nrd {t:Tok} {c:Nat} (h:cls t≠c) (h1:1≤c) (h2:c≤42):rd t (wds c)=false:=by rw[rd_cls t c h1 h2];simpa using h
theorem refuse_p (a:Int) (w:World):Calls Tryz.prog 44 #[.int .i64 a] w fun e w'=>e=refp a∧Below w.heap.size w w':=by
 go_enter Tryz.func44,Tryz.ntmps44
 go_wp2
 exact ⟨rfl,rfl,Below.refl _ _⟩
set_option maxHeartbeats 1000000 in
theorem take_p (b m:Nat) (T l:List Tok) (t:Tok) (W:World) (h:PS b m T (t::l) W) (hc:cls t≠56):Calls Tryz.prog 93 #[.pointer (some ⟨b,0,none⟩)] W fun e w'=>e= .returned (.agg #[.int .i64 t.k,.string ⟨t.t.toArray⟩,.int .i64 t.v,.int .i64 t.p])∧Tk b m T l W w':=by
 have hlt:=h.lt
 have hbW:W.heap.size≠b:=by omega
 go_enter Tryz.func93,Tryz.ntmps93
 go_wp2_with (go_at_call 43;refine (token_any b m T l t _ (h.alloc _)).mono ?_;rintro e w1 ⟨rfl,hb⟩;have hp1:=((h.alloc _).below hb).alloc (.cells #[.int .i64 t.k,.string ⟨t.t.toArray⟩,.int .i64 t.v,.int .i64 t.p] 114);obtain ⟨g,cap,i,r1,r2,r3,r4,-⟩:=hp1.reads;have r5:=hp1.fz;have hn:=hp1.next hc r2;have R0:=(((Bx.new W 114 _).below hb).alloc (.cells #[.int .i64 t.k,.string ⟨t.t.toArray⟩,.int .i64 t.v,.int .i64 t.p] 114)).set (o:=1) hbW (.int .i64 ((i:Int)+1));have L0:=(Bx.new w1 114 #[.int .i64 t.k,.string ⟨t.t.toArray⟩,.int .i64 t.v,.int .i64 t.p]).set (b:=b) (o:=1) (by have:=hb.size;simp at this;omega) (.int .i64 ((i:Int)+1));have K0:Ky (fun k=>k=b) W ((w1.alloc (.cells #[.int .i64 t.k,.string ⟨t.t.toArray⟩,.int .i64 t.v,.int .i64 t.p] 114)).setCell ⟨b,1,none⟩ (.int .i64 ((i:Int)+1))):=((((Ky.refl _ W).alloc _).trans (Ky.of_below hb)).alloc _).setP _;obtain ⟨w2,hw2⟩:∃w2,(w1.alloc (.cells #[.int .i64 t.k,.string ⟨t.t.toArray⟩,.int .i64 t.v,.int .i64 t.p] 114)).setCell ⟨b,1,none⟩ (.int .i64 ((i:Int)+1))=w2:=⟨_,rfl⟩;rw[hw2] at hn R0 L0 K0;obtain ⟨l0,l1,l2,l3⟩:=L0.four;obtain ⟨q0,q1,q2,q3⟩:=R0.four;have f0:=R0.f 0;have f1:=R0.f 1;have f2:=R0.f 2;have f3:=R0.f 3)
 refine bodyPost_ret (v:=(.agg #[.int .i64 t.k,.string ⟨t.t.toArray⟩,.int .i64 t.v,.int .i64 t.p])) (by simp[results,Tryz.results93,go_sem,q0,q1,q2,q3]) rfl ?_
 exact ⟨rfl,((((Tk.mk hn K0).new (Nat.le_refl _) hlt.2 _).new (Nat.le_refl _) hlt.2 _).new (Nat.le_refl _) hlt.2 _).new (Nat.le_refl _) hlt.2 _⟩
set_option maxHeartbeats 1000000 in
theorem name_yes (b m:Nat) (T l:List Tok) (t:Tok) (W:World) (h:PS b m T (t::l) W) (hc:cls t=51):Calls Tryz.prog 95 #[.pointer (some ⟨b,0,none⟩)] W fun e w'=>e= .returned (.agg #[.int .i64 (6),.string ⟨(t.t).toArray⟩,.int .i64 (0),.int .i64 (t.p),.slice none 0 0])∧Tk b m T l W w':=by
 have hk:t.k=1:=cls_kind t 51 hc (by omega)
 have hlt:=h.lt
 have hbW:W.heap.size≠b:=by omega
 go_enter Tryz.func95,Tryz.ntmps95
 go_wp2_with (first | (go_at_call 43;refine (token_any b m T l t _ (h.alloc _)).mono ?_;rintro e w1 ⟨rfl,hb⟩;have h1:=(h.alloc _).below hb;have R1:=(Bx.new W 54 _).below hb;have K1:=((Ky.refl (fun k=>k=b) W).alloc _).trans (Ky.of_below hb)) | (go_at_call 93;refine (take_p b m T l t _ h1 (by omega)).mono ?_;rintro e w2 ⟨rfl,hT⟩;have R2:=R1.ky hT.ky hbW;obtain ⟨q0,q1,q2,q3,q4⟩:=R2.fiveA;obtain ⟨f0,f1,f2,f3,f4⟩:=R2.frozen5A))
 refine bodyPost_ret (v:=(.agg #[.int .i64 (6),.string ⟨(t.t).toArray⟩,.int .i64 (0),.int .i64 (t.p),.slice none 0 0])) (by simp[results,Tryz.results95,go_sem,q0,q1,q2,q3,q4]) rfl ?_
 exact ⟨rfl,((Tk.mk hT.ps (K1.trans hT.ky)).alloc _).five (Nat.le_refl _) hlt.2 _ _ _ _ _⟩
set_option maxHeartbeats 1000000 in
theorem name_no (b m:Nat) (T l:List Tok) (t:Tok) (W:World) (h:PS b m T (t::l) W) (hc:cls t≠51):Calls Tryz.prog 95 #[.pointer (some ⟨b,0,none⟩)] W fun e w'=>e=refp t.p∧Below W.heap.size W w':=by
 have hk:¬t.k=1:=fun e=>hc (cls_of_kind t 1 e (by simp))
 go_enter Tryz.func95,Tryz.ntmps95
 go_wp2_with (first | (go_at_call 43;refine (token_any b m T l t _ (h.alloc _)).mono ?_;rintro e w1 ⟨rfl,hb⟩;have h1:=(h.alloc _).below hb;have B1:=((Below.refl _ W).alloc (Nat.le_refl _) _).trans (hb.mono (by simp))) | (go_at_call 45;refine (at_any b m T l t _ h1).mono ?_;rintro e w2 ⟨rfl,hb2⟩) | (go_at_call 44;refine (refuse_p _ _).mono ?_;rintro e w3 ⟨he,hb3⟩;unfold refp at he;subst he))
 exact ⟨rfl,rfl,(B1.trans (hb2.mono B1.size)).trans (hb3.mono (Nat.le_trans B1.size hb2.size))⟩
set_option maxHeartbeats 1000000 in
theorem nameText_yes (b m:Nat) (T l:List Tok) (t:Tok) (W:World) (h:PS b m T (t::l) W) (hc:cls t=51):Calls Tryz.prog 143 #[.pointer (some ⟨b,0,none⟩)] W fun e w'=>e= .returned (.agg #[.int .i64 (5),.string ⟨(t.t).toArray⟩,.int .i64 (0),.int .i64 (t.p),.slice none 0 0])∧Tk b m T l W w':=by
 have hlt:=h.lt
 have hbW:W.heap.size≠b:=by omega
 go_enter Tryz.func143,Tryz.ntmps143
 go_wp2_with (go_at_call 95;refine (name_yes b m T l t _ (h.alloc _) hc).mono ?_;rintro e w2 ⟨rfl,hT⟩;have R2:=(Bx.new W 54 _).ky hT.ky hbW;obtain ⟨q0,q1,q2,q3,q4⟩:=R2.fiveA;obtain ⟨f0,f1,f2,f3,f4⟩:=R2.frozen5A)
 refine bodyPost_ret (v:=(.agg #[.int .i64 (5),.string ⟨(t.t).toArray⟩,.int .i64 (0),.int .i64 (t.p),.slice none 0 0])) (by simp[results,Tryz.results143,go_sem,q0,q1,q2,q3,q4]) rfl ?_
 exact ⟨rfl,((Tk.mk hT.ps (((Ky.refl (fun k=>k=b) W).alloc _).trans hT.ky)).alloc _).five (Nat.le_refl _) hlt.2 _ _ _ _ _⟩
set_option maxHeartbeats 1000000 in
theorem nameText_no (b m:Nat) (T l:List Tok) (t:Tok) (W:World) (h:PS b m T (t::l) W) (hc:cls t≠51):Calls Tryz.prog 143 #[.pointer (some ⟨b,0,none⟩)] W fun e w'=>e=refp t.p∧Below W.heap.size W w':=by
 go_enter Tryz.func143,Tryz.ntmps143
 go_wp2_with (go_at_call 95;refine (name_no b m T l t _ (h.alloc _) hc).mono ?_;rintro e w2 ⟨he,hb2⟩;unfold refp at he;subst he)
 exact ⟨rfl,rfl,((Below.refl _ W).alloc (Nat.le_refl _) _).trans (hb2.mono (by simp))⟩
end Go.Proofs.YtkjbgggghigapaaGreat


namespace Go.Proofs.YtkjbgggghigapaaGreat
open Go.RowKit
set_option maxRecDepth 20000
theorem rd_ne {t:Tok} {w:List UInt8} (hv:rd t w=true):cls t≠56:=by
 intro e
 have h6:t.k=6:=cls_kind t 56 e (by omega)
 simp[rd,h6] at hv
section
variable (b m:Nat) (T l:List Tok) (t:Tok) (W:World) (w:List UInt8) (h:PS b m T (t::l) W)
include h
theorem is_v {v:Bool} (hv:rd t w=v):Calls Tryz.prog 64 #[.pointer (some ⟨b,0,none⟩),.string ⟨w.toArray⟩] W fun e w'=>e= .returned (.bool v)∧Below W.heap.size W w':=by
 rw[←hv];exact is_any b m T l t w W h
set_option maxHeartbeats 1000000 in
theorem accept_t (hv:rd t w=true):Calls Tryz.prog 63 #[.pointer (some ⟨b,0,none⟩),.string ⟨w.toArray⟩] W fun e w'=>e= .returned (.bool true)∧Tk b m T l W w':=by
 have hc:=rd_ne hv
 have C:=is_v b m T l t W w h hv
 go_enter Tryz.func63,Tryz.ntmps63
 go_wp2_with (go_at_call 64;refine C.mono ?_;rintro e w1 ⟨rfl,hb⟩;have hp1:=h.below hb;obtain ⟨g,cap,i,r1,r2,r3,r4,-⟩:=hp1.reads;have r5:=hp1.fz;have hn:=hp1.next hc r2)
 go_ret
 exact ⟨rfl,hn,(Ky.of_below hb).setP _⟩
set_option maxHeartbeats 1000000 in
theorem accept_f (hv:rd t w=false):Calls Tryz.prog 63 #[.pointer (some ⟨b,0,none⟩),.string ⟨w.toArray⟩] W fun e w'=>e= .returned (.bool false)∧Below W.heap.size W w':=by
 have C:=is_v b m T l t W w h hv
 go_enter Tryz.func63,Tryz.ntmps63
 go_wp2_with (go_at_call 64;refine C.mono ?_;rintro e w1 ⟨rfl,hb⟩)
 go_ret
 exact ⟨rfl,hb⟩
set_option maxHeartbeats 1000000 in
theorem expect_t (hv:rd t w=true):Calls Tryz.prog 96 #[.pointer (some ⟨b,0,none⟩),.string ⟨w.toArray⟩] W fun e w'=>e= .returned (.tuple #[])∧Tk b m T l W w':=by
 have C:=accept_t b m T l t W w h hv
 go_enter Tryz.func96,Tryz.ntmps96
 go_wp2_with (go_at_call 63;refine C.mono ?_;rintro e w1 ⟨rfl,hT⟩)
 go_end0
 exact ⟨rfl,hT⟩
set_option maxHeartbeats 1000000 in
theorem expect_f (hv:rd t w=false):Calls Tryz.prog 96 #[.pointer (some ⟨b,0,none⟩),.string ⟨w.toArray⟩] W fun e w'=>e=refp t.p∧Below W.heap.size W w':=by
 have C:=accept_f b m T l t W w h hv
 go_enter Tryz.func96,Tryz.ntmps96
 go_wp2_with (first | (go_at_call 63;refine C.mono ?_;rintro e w1 ⟨rfl,hb⟩) | (go_at_call 45;refine (at_any b m T l t _ (h.below hb)).mono ?_;rintro e w2 ⟨rfl,hb2⟩) | (go_at_call 44;refine (refuse_p _ _).mono ?_;rintro e w3 ⟨he,hb3⟩;unfold refp at he;subst he))
 exact ⟨rfl,rfl,(hb.trans (hb2.mono hb.size)).trans (hb3.mono (Nat.le_trans hb.size hb2.size))⟩
end
theorem closes_any (b m:Nat) (T l:List Tok) (t:Tok) (W:World) (h:PS b m T (t::l) W):Calls Tryz.prog 67 #[.pointer (some ⟨b,0,none⟩)] W fun e w'=>e= .returned (.bool (closes (t::l)))∧Below W.heap.size W w':=by
 have Ct:=token_any b m T l t W h
 by_cases h56:cls t=56
 ·have hk:t.k=6:=cls_kind t 56 h56 (by omega)
  have e1:closes (t::l)=true:=by simp[closes,hc,h56]
  rw[e1]
  go_enter Tryz.func67,Tryz.ntmps67
  go_wp2_with (go_at_call 43;refine Ct.mono ?_;rintro e w1 ⟨rfl,hb⟩)
  go_ret
  exact ⟨rfl,hb⟩
 ·have hk:¬t.k=6:=fun e=>h56 (cls_of_kind t 6 e (by simp))
  by_cases h4:cls t=4
  ·have wt4:rd t [101,110,100]=true:=cls_rd (c:=4) (by omega) (by decide) (by decide)
   have e1:closes (t::l)=true:=by simp[closes,hc,h4]
   rw[e1]
   go_enter Tryz.func67,Tryz.ntmps67
   go_wp2_with (first | (go_at_call 43;refine Ct.mono ?_;rintro e w1 ⟨rfl,hb⟩) | (go_at_call 64;refine (is_v b m T l t _ _ (h.below hb) (by assumption)).mono ?_;rintro e w2 ⟨rfl,hb2⟩))
   go_ret
   exact ⟨rfl,hb.trans (hb2.mono hb.size)⟩
  ·have wt4:rd t [101,110,100]=false:=cls_nrd (c:=4) (by omega) (by decide) (by decide)
   by_cases h5:cls t=5
   ·have wt5:rd t [101,108,115,101]=true:=cls_rd (c:=5) (by omega) (by decide) (by decide)
    have e1:closes (t::l)=true:=by simp[closes,hc,h5]
    rw[e1]
    go_enter Tryz.func67,Tryz.ntmps67
    go_wp2_with (first | (go_at_call 43;refine Ct.mono ?_;rintro e w1 ⟨rfl,hb⟩;have hp:=h.below hb;have B:=hb) | (go_at_call 64;refine (is_v b m T l t _ _ hp (by assumption)).mono ?_;rintro e w2 ⟨rfl,hb2⟩;replace hp:=hp.below hb2;replace B:=B.trans (hb2.mono B.size)))
    go_ret
    exact ⟨rfl,B⟩
   ·have wt5:rd t [101,108,115,101]=false:=cls_nrd (c:=5) (by omega) (by decide) (by decide)
    by_cases h6:cls t=6
    ·have wt6:rd t [101,108,115,101,105,102]=true:=cls_rd (c:=6) (by omega) (by decide) (by decide)
     have e1:closes (t::l)=true:=by simp[closes,hc,h6]
     rw[e1]
     go_enter Tryz.func67,Tryz.ntmps67
     go_wp2_with (first | (go_at_call 43;refine Ct.mono ?_;rintro e w1 ⟨rfl,hb⟩;have hp:=h.below hb;have B:=hb) | (go_at_call 64;refine (is_v b m T l t _ _ hp (by assumption)).mono ?_;rintro e w2 ⟨rfl,hb2⟩;replace hp:=hp.below hb2;replace B:=B.trans (hb2.mono B.size)))
     go_ret
     exact ⟨rfl,B⟩
    ·have wt6:rd t [101,108,115,101,105,102]=false:=cls_nrd (c:=6) (by omega) (by decide) (by decide)
     have e1:closes (t::l)=false:=by simp[closes,hc,h56,h4,h5,h6]
     rw[e1]
     go_enter Tryz.func67,Tryz.ntmps67
     go_wp2_with (first | (go_at_call 43;refine Ct.mono ?_;rintro e w1 ⟨rfl,hb⟩;have hp:=h.below hb;have B:=hb) | (go_at_call 64;refine (is_v b m T l t _ _ hp (by assumption)).mono ?_;rintro e w2 ⟨rfl,hb2⟩;replace hp:=hp.below hb2;replace B:=B.trans (hb2.mono B.size)))
     go_ret
     exact ⟨by simp[hk],B⟩
theorem binding_not (t:Tok) (W:World) (h2:¬t.k=2) (h5:¬t.k=5):Calls Tryz.prog 141 #[(.agg #[.int .i64 t.k,.string ⟨t.t.toArray⟩,.int .i64 t.v,.int .i64 t.p])] W fun e w'=>e= .returned (.int .i64 0)∧Below W.heap.size W w':=by
 have n2:(t.k !=2)=true:=by simpa using h2
 have n5:(t.k !=5)=true:=by simpa using h5
 go_enter Tryz.func141,Tryz.ntmps141
 go_wp2
 go_ret
 exact ⟨rfl,(Below.refl _ _).alloc (Nat.le_refl _) _⟩
set_option maxHeartbeats 2000000 in
theorem binding_word (t:Tok) (W:World) (c:Nat) (hk:t.k=2∨t.k=5) (ht:t.t=wds c) (hc:c=30∨c=31∨c=32∨c=33∨c=34∨c=35∨c=36∨c=37∨c=38∨c=39∨c=26∨c=40∨c=41∨c=42):Calls Tryz.prog 141 #[(.agg #[.int .i64 t.k,.string ⟨t.t.toArray⟩,.int .i64 t.v,.int .i64 t.p])] W fun e w'=>e= .returned (.int .i64 (bnd c))∧Below W.heap.size W w':=by
 obtain ⟨k,tt,v,p⟩:=t
 simp only at hk ht⊢
 subst ht
 rcases hk with rfl | rfl
 all_goals
  rcases hc with rfl | rfl | rfl | rfl | rfl | rfl | rfl | rfl | rfl | rfl | rfl | rfl | rfl | rfl
  all_goals
   simp only[wds,bnd]
   go_enter Tryz.func141,Tryz.ntmps141
   go_wp2
   go_ret
   exact ⟨rfl,(Below.refl _ _).alloc (Nat.le_refl _) _⟩
set_option maxHeartbeats 2000000 in
theorem binding_other (t:Tok) (W:World) (hk:t.k=2∨t.k=5) (hb:bnd (code t.t)=0):Calls Tryz.prog 141 #[(.agg #[.int .i64 t.k,.string ⟨t.t.toArray⟩,.int .i64 t.v,.int .i64 t.p])] W fun e w'=>e= .returned (.int .i64 0)∧Below W.heap.size W w':=by
 have ne:∀c,(1≤c∧c≤42∧bnd c≠0)→(t.t==wds c)=false:=by
  intro c hc
  cases he:t.t==wds c
  ·rfl
  ·have :t.t=wds c:=by simpa using he
   rw[this,code_wds c hc.1 hc.2.1] at hb
   exact absurd hb hc.2.2
 have o30:(t.t==[111,114])=false:=ne 30 (by decide)
 have o31:(t.t==[97,110,100])=false:=ne 31 (by decide)
 have o32:(t.t==[60])=false:=ne 32 (by decide)
 have o33:(t.t==[62])=false:=ne 33 (by decide)
 have o34:(t.t==[60,61])=false:=ne 34 (by decide)
 have o35:(t.t==[62,61])=false:=ne 35 (by decide)
 have o36:(t.t==[126,61])=false:=ne 36 (by decide)
 have o37:(t.t==[61,61])=false:=ne 37 (by decide)
 have o38:(t.t==[46,46])=false:=ne 38 (by decide)
 have o39:(t.t==[43])=false:=ne 39 (by decide)
 have o26:(t.t==[45])=false:=ne 26 (by decide)
 have o40:(t.t==[42])=false:=ne 40 (by decide)
 have o41:(t.t==[47,47])=false:=ne 41 (by decide)
 have o42:(t.t==[37])=false:=ne 42 (by decide)
 clear ne
 rcases hk with hk | hk
 ·have n2:(t.k !=2)=false:=by simp[hk]
  go_enter Tryz.func141,Tryz.ntmps141
  go_wp2
  go_ret
  exact ⟨rfl,(Below.refl _ _).alloc (Nat.le_refl _) _⟩
 ·have n2:(t.k !=2)=true:=by simp[hk]
  have n5:(t.k !=5)=false:=by simp[hk]
  go_enter Tryz.func141,Tryz.ntmps141
  go_wp2
  go_ret
  exact ⟨rfl,(Below.refl _ _).alloc (Nat.le_refl _) _⟩
theorem binding_any (t:Tok) (W:World):Calls Tryz.prog 141 #[(.agg #[.int .i64 t.k,.string ⟨t.t.toArray⟩,.int .i64 t.v,.int .i64 t.p])] W fun e w'=>e= .returned (.int .i64 (bnd (cls t)))∧Below W.heap.size W w':=by
 by_cases hk:t.k=2∨t.k=5
 ·have e1:cls t=code t.t:=by unfold cls;rw[if_pos hk]
  rw[e1]
  by_cases hb:bnd (code t.t)=0
  ·rw[hb];exact binding_other t W hk hb
  ·have h0:code t.t≠0:=fun e=>hb (by rw[e];rfl)
   obtain ⟨h1,h2⟩:=code_inv t.t _ rfl h0
   refine binding_word t W (code t.t) hk h1.symm ?_
   unfold bnd at hb
   split at hb
   ·omega
   ·split at hb
    ·omega
    ·split at hb
     ·omega
     ·split at hb
      ·omega
      ·split at hb
       ·omega
       ·split at hb
        ·omega
        ·exact absurd rfl hb
 ·have h2:¬t.k=2:=fun e=>hk (.inl e)
  have h5:¬t.k=5:=fun e=>hk (.inr e)
  have e1:bnd (cls t)=0:=by
   unfold cls
   rw[if_neg hk]
   split
   ·rfl
   ·split
    ·rfl
    ·split
     ·rfl
     ·split<;>rfl
  rw[e1]
  exact binding_not t W h2 h5
theorem target_yes (k:Int) (t:List UInt8) (n p:Int) (a:Option Addr) (sl sc:Nat) (W:World) (hk:k=6∨k=7):Calls Tryz.prog 128 #[(.agg #[.int .i64 (k),.string ⟨(t).toArray⟩,.int .i64 (n),.int .i64 (p),.slice a sl sc])] W fun e w'=>e= .returned (.agg #[.int .i64 (k),.string ⟨(t).toArray⟩,.int .i64 (n),.int .i64 (p),.slice a sl sc])∧Below W.heap.size W w':=by
 rcases hk with rfl | rfl
 all_goals
  go_enter Tryz.func128,Tryz.ntmps128
  go_wp2
  refine bodyPost_ret (v:=.agg #[_,.string ⟨t.toArray⟩,.int .i64 n,.int .i64 p,.slice a sl sc]) (by simp[results,Tryz.results128,go_sem];rfl) rfl ?_
  exact ⟨rfl,((Below.refl _ W).alloc (Nat.le_refl _) _).alloc (by simp) _⟩
theorem target_no (k:Int) (t:List UInt8) (n p:Int) (a:Option Addr) (sl sc:Nat) (W:World) (h6:¬k=6) (h7:¬k=7):Calls Tryz.prog 128 #[(.agg #[.int .i64 (k),.string ⟨(t).toArray⟩,.int .i64 (n),.int .i64 (p),.slice a sl sc])] W fun e w'=>e=refp p∧Below W.heap.size W w':=by
 have n6:(k !=6)=true:=by simpa using h6
 have n7:(k !=7)=true:=by simpa using h7
 go_enter Tryz.func128,Tryz.ntmps128
 go_wp2_with (go_at_call 44;refine (refuse_p _ _).mono ?_;rintro e w3 ⟨he,hb3⟩;unfold refp at he;subst he)
 exact ⟨rfl,rfl,(((Below.refl _ W).alloc (Nat.le_refl _) _).alloc (by simp) _).trans (hb3.mono (by simp;omega))⟩
end Go.Proofs.YtkjbgggghigapaaGreat


namespace Go.Proofs.YtkjbgggghigapaaGreat
open Go.RowKit
def PN (b m:Nat) (T:List Tok) (W:World):PR→Ending→World→Prop
 | .ok f l,e,W'=>∃k t n p a c ks,f=one k t n p ks∧e= .returned (.agg #[.int .i64 (k),.string ⟨(t).toArray⟩,.int .i64 (n),.int .i64 (p),.slice a ks.len c])∧TN 54 W' (fun g=>W.heap.size≤g) k t n p (.slice a ks.len c) ks∧Tk b m T l W W'
 | .bad p,e,W'=>e=refp p∧Ky (fun k=>k=b) W W'
 | .out,_,_=>False
def PL (b m:Nat) (T:List Tok) (W:World) (P:Nat→Prop) (v:Value):PR→Ending→World→Prop
 | .ok f l,e,W'=>∃a c,e= .returned (.slice a f.len c)∧KL 54 P W' (.slice a f.len c) f∧PS b m T l W'∧Ky (fun k=>k=b∨some k=v.ownBlock) W W'
 | .bad p,e,W'=>e=refp p∧Ky (fun k=>k=b∨some k=v.ownBlock) W W'
 | .out,_,_=>False
structure Row (b m:Nat) (T l:List Tok) (W:World) (P:Nat→Prop) (a:Option Addr) (c:Nat) (f:F):Prop where
 ps:PS b m T l W
 kl:KL 54 P W (.slice a f.len c) f
 lo:∀x,x<m→¬P x
 hi:∀x,W.heap.size≤x→P x
 few:f.len+l.length≤T.length
structure CC (n:Nat):Prop where
 blk:∀(c:Bool) (b m:Nat) (T l:List Tok) (W:World),PS b m T l W→pr n (.blk c) l≠ .out→Calls Tryz.prog 42 #[.pointer (some ⟨b,0,none⟩),.bool c] W (PN b m T W (pr n (.blk c) l))
 stat:∀(b m:Nat) (T l:List Tok) (W:World),PS b m T l W→pr n .stat l≠ .out→Calls Tryz.prog 68 #[.pointer (some ⟨b,0,none⟩)] W (PN b m T W (pr n .stat l))
 ex:∀(a:Nat) (b m:Nat) (T l:List Tok) (W:World),PS b m T l W→pr n (.ex a) l≠ .out→Calls Tryz.prog 124 #[.pointer (some ⟨b,0,none⟩),.int .i64 a] W (PN b m T W (pr n (.ex a) l))
 opd:∀(b m:Nat) (T l:List Tok) (W:World),PS b m T l W→pr n .opd l≠ .out→Calls Tryz.prog 140 #[.pointer (some ⟨b,0,none⟩)] W (PN b m T W (pr n .opd l))
 suf:∀(b m:Nat) (T l:List Tok) (W:World),PS b m T l W→pr n .suf l≠ .out→Calls Tryz.prog 127 #[.pointer (some ⟨b,0,none⟩)] W (PN b m T W (pr n .suf l))
 fld:∀(b m:Nat) (T l:List Tok) (W:World),PS b m T l W→pr n .fld l≠ .out→Calls Tryz.prog 164 #[.pointer (some ⟨b,0,none⟩)] W (PN b m T W (pr n .fld l))
 lst:∀(b m:Nat) (T l:List Tok) (W:World) (P:Nat→Prop) (a:Option Addr) (c:Nat) (f:F),Row b m T l W P a c f→pr n (.lst f) l≠ .out→Calls Tryz.prog 94 #[.pointer (some ⟨b,0,none⟩),.slice a f.len c] W (PL b m T W P (.slice a f.len c) (pr n (.lst f) l))
 nms:∀(b m:Nat) (T l:List Tok) (W:World) (P:Nat→Prop) (a:Option Addr) (c:Nat) (f:F),Row b m T l W P a c f→pr n (.nms f) l≠ .out→Calls Tryz.prog 97 #[.pointer (some ⟨b,0,none⟩),.slice a f.len c] W (PL b m T W P (.slice a f.len c) (pr n (.nms f) l))
theorem info24:(Tryz.prog.info? 54).map (fun i=>(i.zero,i.size,i.bytes))=some (some (.agg #[.int .i64 0,.string ⟨#[]⟩,.int .i64 0,.int .i64 0,.slice none 0 0]),5,64):=by kernel_rfl
theorem step_goP {ops:Array Oper} {o:Oper} {ac:Act} {K:Act→World→Prop} {Q:Exit→Act→World→Prop} {E:Prop} {W:World} (hgd:o.guard=none) (f:FuncId) (xs:Array Operand) (ats:Array TypeId)
 (ho:o.op= .call {callee:=.value (.func f),args:=xs,argTypes:=ats}) (args:Array Value) (hx:#[]++xs.map ac.eval++#[]=args) (eg:∀args w,(callFunc f args).run Tryz.prog w= .ok (.enter f args) w)
 {R:Ending→World→Prop} (C:Calls Tryz.prog f args W R) (hK:∀e w',R e w'→(∃v,e= .returned v∧K (ac.put o.dst v) w')∨(∃c,e= .panicked c∧Q (.panic c) ac w')):
 if Region.wanted o (yielded ops ac.tmps)=true then Oper.wp Tryz.prog o ac W K Q else E:=by
 have hw:Region.wanted o (yielded ops ac.tmps)=true:=by simp[Region.wanted,hgd]
 rw[if_pos hw]
 obtain ⟨dst,op,ty,pos,after,guard⟩:=o
 simp only at ho
 subst ho
 unfold Oper.wp
 rw[execOp_call_go,hx,eg,Oper.upon_enter]
 refine C.mono fun e w' h=>?_
 rcases hK e w' h with ⟨v,rfl,h'⟩ | ⟨c,rfl,h'⟩
 ·exact h'
 ·exact h'
theorem Ky.onto {S S':Nat→Prop} {x y z:World} (h:Ky S x y) (k:Ky S' y z) (hs:∀i,i<x.heap.size→S' i→S i):Ky S x z:=
 ⟨k.os.trans h.os,k.tape.trans h.tape,k.output.trans h.output,Nat.le_trans h.size k.size,fun i hi hn=>(k.block i (Nat.lt_of_lt_of_le hi h.size) fun e=>hn (hs i hi e)).trans (h.block i hi hn)⟩
def OB (W:World) (v:Value) (a:Option Addr):Prop:=∀x,a=some x→some x.block=v.ownBlock∨W.heap.size≤x.block
theorem OB.refl (W:World) (a:Option Addr) (n c:Nat):OB W (.slice a n c) a:=by
 intro x e;subst e;exact .inl rfl
theorem OB.ky {W w w2:World} {v:Value} {a:Option Addr} {b n c:Nat} (h:OB W v a) (k:Ky (fun k=>k=b∨some k=v.ownBlock) W w) (k2:Ky (fun k=>k=b∨some k=Value.ownBlock (.slice a n c)) w w2):Ky (fun k=>k=b∨some k=v.ownBlock) W w2:=by
 refine k.onto k2 fun i hi e=>?_
 rcases e with e | e
 ·exact .inl e
 ·cases a with
  | none=>cases e
  | some x=>
    have e1:i=x.block:=by simpa [Value.ownBlock] using e
    rcases h x rfl with h | h
    ·exact .inr (by rw[e1];exact h)
    ·omega
theorem OB.app {W w:World} {v:Value} {a:Option Addr} {n c g:Nat} (h:OB W v a) (hz:W.heap.size≤w.heap.size) (hat:Value.ownBlock (.slice a n c)=some g∨w.heap.size≤g):OB W v (some ⟨g,0,none⟩):=by
 intro x e
 obtain rfl:(⟨g,0,none⟩:Addr)=x:=by simpa using e
 rcases hat with hat | hat
 ·cases a with
  | none=>cases hat
  | some y=>
    have e1:y.block=g:=by simpa [Value.ownBlock] using hat
    rcases h y rfl with h | h
    ·exact .inl (by rw[←h,e1])
    ·exact .inr (by show W.heap.size≤g;omega)
 ·exact .inr (by show W.heap.size≤g;omega)
theorem Row.snoc {b m:Nat} {T l l':List Tok} {W w1 w2:World} {P:Nat→Prop} {a a':Option Addr} {c c' cc:Nat} {f ks:F} {k:Int} {t:List UInt8} {n p:Int} {g:Nat} {o:Obj} {xs:List Value} (h:Row b m T l W P a c f) (ht:TN 54 w1 (fun g=>W.heap.size≤g) k t n p (.slice a' ks.len c') ks) (hk:Tk b m T l' W w1)
 (hkf:KF 54 (w1.alloc o) (fun g=>P g∧some g≠Value.ownBlock (.slice a f.len c)) xs f)
 (own:w2.ownsRow 0 54 5 (.slice (some ⟨g,0,none⟩) (f.len+1) cc) (f.len+1) (xs++[.int .i64 k,.string ⟨t.toArray⟩,.int .i64 n,.int .i64 p,.slice a' ks.len c']))
 (hg:(w1.alloc o).grownBy w2 (Value.ownBlock (.slice a f.len c))) (hat:Value.ownBlock (.slice a f.len c)=some g∨g=(w1.alloc o).heap.size) (hl:l'.length<l.length):
 Row b m T l' w2 P (some ⟨g,0,none⟩) cc (f.app (one k t n p ks))∧Ky (fun k=>k=b∨some k=Value.ownBlock (.slice a f.len c)) W w2:=by
 have hps:=h.ps.lt
 have hfew:=h.few
 have hsz:=hk.ky.size
 obtain ⟨ys,hy,hyP,_⟩:=h.kl.out
 have hl1:(f.app (one k t n p ks)).len=f.len+1:=by rw[F.len_app];rfl
 have hK:Ky (fun k=>k=b∨some k=Value.ownBlock (.slice a f.len c)) W w2:=((hk.ky.mono fun _ _ e=>.inl e).alloc o).trans ⟨hg.os,hg.tape,hg.output,hg.size,fun i hi hn=>hg.block i hi fun e=>hn (.inr e)⟩
 have hkt:KF 54 (w1.alloc o) (fun g=>P g∧some g≠Value.ownBlock (.slice a f.len c)) [.int .i64 k,.string ⟨t.toArray⟩,.int .i64 n,.int .i64 p,.slice a' ks.len c'] (one k t n p ks):=by
  refine (ht.kf.mono (Q:=fun g=>W.heap.size≤g∧g<w1.heap.size) fun g h1 h2=>⟨h1,h2⟩).keep (w':=w1.alloc o) (fun k hk _=>(World.grownBy_alloc w1 o none).block k hk.2 (by simp)) |>.mono fun g hg _=>⟨h.hi g hg.1,fun e=>?_⟩
  have:=(hy.lt g e.symm).2
  omega
 refine ⟨⟨?_,?_,h.lo,fun x hx=>h.hi x (Nat.le_trans hK.size hx),by rw[hl1];omega⟩,hK⟩
 ·exact (hk.ps.alloc o).ky (S:=fun k=>some k=Value.ownBlock (.slice a f.len c)) ⟨hg.os,hg.tape,hg.output,hg.size,fun i hi hn=>hg.block i hi hn⟩ fun x hx e=>h.lo x hx (hyP x e.symm)
 ·have:=KL.snoc (n:=one k t n p ks) hyP hkf hkt own (fun k hk hn=>hg.block k hk hn) (fun x hx=>h.hi x (by simp at hx;omega)) (hat.imp id (fun e=>by omega))
  rw[hl1];exact this
theorem Row.took {b m:Nat} {T l:List Tok} {W w:World} {P:Nat→Prop} {a:Option Addr} {c:Nat} {f:F} {t:Tok} (h:Row b m T (t::l) W P a c f) (hT:Tk b m T l W w):Row b m T l w P a c f:=by
 have h1:=h.ps.lt
 have h3:=h.few
 simp at h3
 exact ⟨hT.ps,h.kl.keep fun g hg hl=>hT.ky.block g hl (fun e=>h.lo g (by omega) hg),h.lo,fun x hx=>h.hi x (Nat.le_trans hT.ky.size hx),by omega⟩
theorem app_row {ops:Array Oper} {rest:List Oper} {o:Oper} {ac:Act} {Q:Exit→Act→World→Prop} {b m:Nat} {T l l':List Tok} {W w1:World} {P:Nat→Prop} {a a':Option Addr} {c c':Nat} {f ks:F} {k:Int} {t:List UInt8} {n p:Int} (hgd:o.guard=none) (s x:Operand)
 (ho:o.op= .call {callee:=.builtin .append,args:=#[s,x],argTypes:=#[52,52]}) (h:Row b m T l W P a c f) (ht:TN 54 w1 (fun g=>W.heap.size≤g) k t n p (.slice a' ks.len c') ks) (hk:Tk b m T l' W w1) (hl:l'.length<l.length)
 (hs:ac.eval s= .slice a f.len c) (hx:ac.eval x= .slice (some ⟨w1.heap.size,0,none⟩) 1 1)
 (hK:∀g cc w2,Row b m T l' w2 P (some ⟨g,0,none⟩) cc (f.app (one k t n p ks))→Ky (fun k=>k=b∨some k=Value.ownBlock (.slice a f.len c)) W w2→(Value.ownBlock (.slice a f.len c)=some g∨W.heap.size≤g)→wpList Tryz.prog ops Q rest (ac.put o.dst (.slice (some ⟨g,0,none⟩) (f.app (one k t n p ks)).len cc)) w2):
 wpList Tryz.prog ops Q (o::rest) ac (w1.alloc (.cells #[.int .i64 k,.string ⟨t.toArray⟩,.int .i64 n,.int .i64 p,.slice a' ks.len c'] 54)):=by
 obtain ⟨i0,hi0,hz0,hz1,hz2⟩:=info_parts info24
 have hps:=h.ps.lt
 have hsm:=h.ps.small
 have hfew:=h.few
 have hsz:=hk.ky.size
 have hkl:=h.kl.keep (w':=w1.alloc (.cells #[.int .i64 k,.string ⟨t.toArray⟩,.int .i64 n,.int .i64 p,.slice a' ks.len c'] 54)) fun g hg hl=>(hk.ky.alloc _).block g hl (fun e=>h.lo g (by omega) hg)
 obtain ⟨xs,hown,_,hkf⟩:=hkl.out
 have hl1:(f.app (one k t n p ks)).len=f.len+1:=by rw[F.len_app];rfl
 refine wpList_append_lies _ hgd s x 52 ho 0 54 i0 _ 5 64 Tryz.underlying52 hi0 hz0 hz1 hz2 rfl (by omega) (.slice a f.len c) f.len xs hs hown ⟨w1.heap.size,0,none⟩ 1 1 [.int .i64 k,.string ⟨t.toArray⟩,.int .i64 n,.int .i64 p,.slice a' ks.len c'] hx rfl (World.news_of_block (cs:=#[.int .i64 k,.string ⟨t.toArray⟩,.int .i64 n,.int .i64 p,.slice a' ks.len c']) (t:=54) (fr:=(0,0)) (Go.heap_alloc_new w1 _)) (by simp[Value.oneCell']) (by omega) (by unfold maxLen;omega) (by omega) (Nat.zero_le _) (w1.heap.size+1) (by simp) ?_
 intro g cc w2 hown2 hg hat _
 obtain ⟨r1,r2⟩:=h.snoc ht hk hkf hown2 hg (hat.imp id fun e=>by simpa using e) hl
 have:=hK g cc w2 r1 r2 (hat.imp id fun e=>by omega)
 rw[hl1] at this
 exact this
set_option maxRecDepth 20000 in
set_option maxHeartbeats 4000000 in
theorem list_any (N:Nat) (H:∀n,n≤N→CC n) (b m:Nat) (T l:List Tok) (W:World) (P:Nat→Prop) (a:Option Addr) (c:Nat) (f:F) (h:Row b m T l W P a c f) (hr:pr (N+1) (.lst f) l≠ .out):Calls Tryz.prog 94 #[.pointer (some ⟨b,0,none⟩),.slice a f.len c] W (PL b m T W P (.slice a f.len c) (pr (N+1) (.lst f) l)):=by
 obtain ⟨R,hR⟩:∃R,pr (N+1) (.lst f) l=R:=⟨_,rfl⟩
 rw[hR] at hr⊢
 rw[pr_succ] at hR
 simp only[stp'] at hR
 have CE:=(H N (Nat.le_refl _)).ex 0 b m T l W h.ps
 cases he:pr N (.ex 0) l with
 | out=>rw[he] at hR;exact absurd hR.symm hr
 | bad p=>
   rw[he] at hR CE
   have CE:=CE (by simp)
   simp only[PR.bind] at hR
   subst hR
   go_enter Tryz.func94,Tryz.ntmps94
   go_wp2_with (go_at_call 124;refine CE.mono ?_;rintro e w1 ⟨he,hk⟩;unfold refp at he;subst he)
   exact ⟨rfl,rfl,hk.mono fun _ _ e=>.inl e⟩
 | ok g l1=>
   have hlen:=pr_len he
   rw[he] at hR CE
   have CE:=CE (by simp)
   simp only[PR.bind] at hR
   go_enter Tryz.func94,Tryz.ntmps94
   go_wp2_with (first | (go_at_call 124;refine CE.mono ?_;rintro e w1 ⟨k,t,n,p,a1,c1,ks,rfl,rfl,hTN,hTk⟩) | (at_builtin;refine app_row rfl _ _ rfl h hTN hTk (by simp only[st] at hlen;omega) rfl rfl ?_;intro gg cc w2 hrow hky hat))
   have hR:Hid ((if hc l1=15 then pr N (.lst (f.app (one k t n p ks))) l1.tail else .ok (f.app (one k t n p ks)) l1)=R):=hR
   have hOB:=(OB.refl W a f.len c).app (Nat.le_refl _) hat
   clear CE he hTN hTk hat
   go_loopg [1] (N+2) (fun gf v1 wx=>∃(q:Nat) (f':F) (l':List Tok) (a':Option Addr) (c':Nat),q≤N∧v1= .slice a' f'.len c'∧Row b m T l' wx P a' c' f'∧Ky (fun k=>k=b∨some k=Value.ownBlock (.slice a f.len c)) W wx∧OB W (.slice a f.len c) a'∧Hid ((if hc l'=15 then pr q (.lst f') l'.tail else .ok f' l')=R)∧q<gf)
   case atStart=>exact ⟨N,_,l1,_,_,Nat.le_refl _,rfl,hrow,hky,hOB,hR,by omega⟩
   case round=>
    clear hrow hky hOB hR hlen
    obtain ⟨q,f',l',a',c',hq,rfl,hrow,hky,hOB,hR,hfu⟩:=hrel
    obtain ⟨t1,l2,rfl⟩:=hrow.ps.cons
    by_cases h15:cls t1=15
    ·have wt115:rd t1 [44]=true:=cls_rd (c:=15) (by omega) (by decide) (by decide)
     have hR:pr q (.lst f') l2=R:=by have:=hR.out;rw[if_pos (show hc (t1::l2)=15 from h15)] at this;exact this
     cases q with
     | zero=>exact absurd hR.symm hr
     | succ q=>
       rw[pr_succ] at hR
       simp only[stp'] at hR
       have CE:=fun W h=>(H q (by omega)).ex 0 b m T l2 W h
       cases he:pr q (.ex 0) l2 with
       | out=>rw[he] at hR;exact absurd hR.symm hr
       | bad p=>
         rw[he] at hR CE
         simp only[PR.bind] at hR
         subst hR
         go_wp2_with (first | (go_at_call 63;refine (accept_t b m T l2 t1 _ _ hrow.ps (by assumption)).mono ?_;rintro e w3 ⟨rfl,hT⟩) | (go_at_call 124;refine (CE _ hT.ps (by simp)).mono ?_;rintro e w1 ⟨he,hk⟩;unfold refp at he;subst he))
         exact ⟨rfl,rfl,hky.onto (hT.ky.trans hk) fun _ _ e=>.inl e⟩
       | ok g l3=>
         have hlen:=pr_len he
         rw[he] at hR CE
         simp only[PR.bind] at hR
         have hR:Hid ((if hc l3=15 then pr q (.lst (f'.app g)) l3.tail else .ok (f'.app g) l3)=R):=hR
         go_wp2_with (first | (go_at_call 63;refine (accept_t b m T l2 t1 _ _ hrow.ps (by assumption)).mono ?_;rintro e w3 ⟨rfl,hT⟩;have hrow:=hrow.took hT) | (go_at_call 124;refine (CE _ hT.ps (by simp)).mono ?_;rintro e w1 ⟨k,t,n,p,a1,c1,ks,rfl,rfl,hTN,hTk⟩) | (at_builtin;refine app_row rfl _ _ rfl hrow hTN hTk (by simp only[st] at hlen;omega) rfl rfl ?_;intro gg cc w2 hrow2 hky2 hat2))
         have hKw:=hky.onto (hT.ky) (fun _ _ e=>.inl e)
         go_roundg (q+1)
         case measure=>omega
         case rel=>exact ⟨q,_,l3,_,_,by omega,rfl,hrow2,hOB.ky hKw hky2,hOB.app hKw.size hat2,hR,by omega⟩
    ·have wt115:rd t1 [44]=false:=cls_nrd (c:=15) (by omega) (by decide) (by decide)
     have hR:PR.ok f' (t1::l2)=R:=by have:=hR.out;rw[if_neg (show ¬hc (t1::l2)=15 from h15)] at this;exact this
     subst hR
     go_wp2_with (go_at_call 63;refine (accept_f b m T l2 t1 _ _ hrow.ps (by assumption)).mono ?_;rintro e w3 ⟨rfl,hb⟩)
     go_ret
     exact ⟨a',c',rfl,hrow.kl.keep fun g hg hl=>hb.block g hl,hrow.ps.below hb,hky.onto (Ky.of_below hb (S:=fun _=>False)) fun _ _ e=>e.elim⟩
end Go.Proofs.YtkjbgggghigapaaGreat
