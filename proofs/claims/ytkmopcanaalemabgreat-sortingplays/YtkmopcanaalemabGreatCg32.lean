import Derived.Test.YtkmopcanaalemabGreatCg31
import Derived.Test.YtkmopcanaalemabGreatCg30
namespace Go.Proofs.YtkmopcanaalemabGreat
open Go.RowKit
section
variable {N2 : Nat → Prop} {W0 w : World} {B RT G c : Nat} {rv : Value} {gs : List Nat} {r : RD}
theorem Rk.repl {x cap g : Nat} {gs2 : List Nat} {q : Int × Int} {l : List (Int × Int)} (h : Rk N2 W0 w B RT G c (.slice (some ⟨x,0,none⟩) (l.length + 1) cap) (g :: gs2) r) (hr : r.1.rows = q :: l) (a b : Int) :
    Rk N2 W0 ((w.alloc (.cells #[.int .i64 a,.int .i64 b] 3)).setCell ⟨x,l.length,none⟩ (.slice (some ⟨w.heap.size,0,none⟩) 2 2)) B RT G c (.slice (some ⟨x,0,none⟩) (l.length + 1) cap) (w.heap.size :: gs2) ({ r.1 with rows:=(a,b) :: l },r.2):=by
  obtain ⟨N',A,P,ka,va,ca,cb,h1,h2,h3,h4,h5,h6,h7⟩:=h.so.ex
  have B1:=b1 w (.cells #[.int .i64 a,.int .i64 b] 3)
  have hb1:=(MapKept.heap_alloc w (.cells #[.int .i64 a,.int .i64 b] 3)).1
  have hz1 : (w.alloc (.cells #[.int .i64 a,.int .i64 b] 3)).heap.size = w.heap.size + 1:=by simp
  obtain ⟨w1,hw1⟩ : ∃ w1,w.alloc (.cells #[.int .i64 a,.int .i64 b] 3) = w1:=⟨_,rfl⟩
  rw [hw1] at B1 hb1 hz1 ⊢
  have hx:=h1.lt x rfl
  rw [hr] at h2
  have hl:=h2.2.len
  have k2 : Keep (fun y=>y ≠ x) w1 (w1.setCell ⟨x,l.length,none⟩ (.slice (some ⟨w.heap.size,0,none⟩) 2 2)):=(Keep.refl _ w1).set (p:=⟨x,l.length,none⟩) (fun q=>q rfl) _
  have k : Keep (fun y=>y ≠ x) w (w1.setCell ⟨x,l.length,none⟩ (.slice (some ⟨w.heap.size,0,none⟩) 2 2)):=(Keep.of B1).trans k2
  have hlB:=h.so.lt
  have hnos:=h.so.nos
  have hown : (w1.setCell ⟨x,l.length,none⟩ (.slice (some ⟨w.heap.size,0,none⟩) 2 2)).ownsRow 0 46 1 (.slice (some ⟨x,0,none⟩) (l.length + 1) cap) (w.heap.size :: gs2).length ((w.heap.size :: gs2).reverse.map slv):=by
    have o1:=own_kept h1 (fun y e hy=>(Keep.of B1 : Keep (fun _=>True) w w1).block y hy trivial)
    rw [gs_snoc,List.length_cons,hl] at o1 ⊢
    have hlen : (gs2.reverse.map slv).length = l.length:=by simp [hl]
    have o2:=(o1.stored l.length (slv w.heap.size)).1
    rw [List.set_append_right _ _ (by omega),hlen,Nat.sub_self] at o2
    exact o2
  refine ⟨⟨(k.block B hlB (fun e=>h.so.rB x rfl e.symm)).trans h.so.blk,⟨_,A,P,ka,va,ca,cb,hown,⟨?_,?_⟩,h3.frame ⟨k.os,k.tape,k.output,k.size,fun y hy hz=>k.block y hy (fun e=>hz (e ▸ h6 x rfl))⟩,fun y z=>.inl (h4 y z),.inl h5,fun y e=>.inl (h6 y e),fun y hy=>?_⟩,h.so.nB,h.so.nW,h.so.rB⟩,h.kp.trans (k.sub (fun y z e=>h.so.nW x rfl (e ▸ z)))⟩
  · exact (k2.block w.heap.size (by omega) (by omega)).trans hb1
  · exact h2.2.kept (fun y hy hs=>k.block y hs (fun e=>(h7 y (List.mem_cons_of_mem _ hy)).2.2.1 (by rw [e];rfl)))
  · rcases List.mem_cons.1 hy with e | hy
    · subst e
      refine ⟨.inr ⟨Nat.le_refl _,?_⟩,by omega,fun e=>?_,fun z=>by have:=hnos _ z;omega⟩
      · have:=k2.size;omega
      · have e2 : x = w.heap.size:=by simpa [Value.ownBlock] using e
        omega
    · obtain ⟨a1,a2,a3,a4⟩:=h7 y (List.mem_cons_of_mem _ hy)
      exact ⟨.inl a1,a2,a3,a4⟩
theorem Rk.push (h : Rk N2 W0 w B RT G c rv gs r) (hn : r.1.rows.length ≤ 1000000) (a b : Int) {w2 : World} (k2 : Below w.heap.size w w2) (hz2 : w.heap.size + 2 ≤ w2.heap.size) (hb : w2.heap[w.heap.size]? = some (.cells #[.int .i64 a,.int .i64 b] 3 (0,0))) (hc : w2.cell? ⟨w.heap.size + 1,0,none⟩ = some (.slice (some ⟨w.heap.size,0,none⟩) 2 2)) :
    ∃ x cap w3,(Builtin.append_ #[74,74] 74 #[rv,.slice (some ⟨w.heap.size + 1,0,none⟩) 1 1]).run Tryz.prog w2 = .ok (.slice (some ⟨x,0,none⟩) (r.1.rows.length + 1) cap) w3 ∧ w3.heap[B]? = w.heap[B]? ∧
      ∀ W,Keep (fun y=>y ≠ B) w3 W → W.heap[B]? = some (.cells (rcl RT (.slice (some ⟨x,0,none⟩) (r.1.rows.length + 1) cap) { r.1 with rows:=(a,b) :: r.1.rows }) 76 (0,0)) → Rk N2 W0 W B RT G c (.slice (some ⟨x,0,none⟩) (r.1.rows.length + 1) cap) (w.heap.size :: gs) ({ r.1 with rows:=(a,b) :: r.1.rows },r.2):=by
  obtain ⟨N',A,P,ka,va,ca,cb,h1,h2,h3,h4,h5,h6,h7⟩:=h.so.ex
  have hl:=h2.len
  have hlB:=h.so.lt
  have hnos:=h.so.nos
  obtain ⟨i0,hi,hz0,hz1,hzb⟩:=info_parts info69
  have o1:=own_kept h1 (fun y e hy=>(Keep.of k2 : Keep (fun _=>True) w w2).block y hy trivial)
  obtain ⟨x,cap,w3,e1,e2,e3,e4,e5⟩:=run_append_lies (P:=Tryz.prog) w2 74 74 0 46 i0 (.slice none 0 0) 1 24 Tryz.underlying74 hi hz0 hz1 hzb rfl (by omega) rv gs.length (gs.reverse.map slv) o1 ⟨w.heap.size + 1,0,none⟩ 1 1 [.slice (some ⟨w.heap.size,0,none⟩) 2 2] rfl (fun j u hu=>by
    have hadd : (⟨w.heap.size + 1,0,none⟩ : Addr).add j = ⟨w.heap.size + 1,j,none⟩:=by unfold Addr.add;split <;> simp_all
    rw [hadd]
    have hj : j < 1:=(List.getElem?_eq_some_iff.1 hu).1
    obtain rfl : j = 0:=by omega
    simp at hu;rw [← hu];exact hc) (by intro u hu;simp at hu;rcases hu with rfl;rfl) (by omega) (by simp only [maxLen];omega) (by omega) (by omega) _ rfl
  rw [hl] at e1 e2
  have e6 : w3.heap[B]? = w.heap[B]?:=by
    rw [e3.block B (by have:=k2.size;omega) (fun z=>h.so.rB B z.symm rfl),(Keep.of k2 : Keep (fun _=>True) w w2).block B hlB trivial]
  refine ⟨x,cap,w3,e1,e6,fun W kW hW=>?_⟩
  have hxs : rv.ownBlock = some x ∨ w.heap.size + 2 ≤ x:=by
    rcases e4 with e | e
    · exact .inl e
    · exact .inr (by omega)
  have hxB : x ≠ B:=by
    rcases hxs with e | e
    · exact h.so.rB x e
    · omega
  have hkb : ∀ y,y < w.heap.size → y ≠ B → rv.ownBlock ≠ some y → W.heap[y]? = w.heap[y]?:=fun y hy hB hw=>by
    rw [kW.block y (by have:=e3.size;omega) hB,e3.block y (by omega) (fun z=>hw z.symm),(Keep.of k2 : Keep (fun _=>True) w w2).block y hy trivial]
  have hnB : w.heap.size ≠ B:=by omega
  have hnR : rv.ownBlock ≠ some w.heap.size:=fun z=>by have:=(h1.lt _ z).2;omega
  have hnew : W.heap[w.heap.size]? = some (.cells #[.int .i64 a,.int .i64 b] 3 (0,0)):=by
    rw [kW.block _ (by have:=e3.size;omega) hnB,e3.block _ (by omega) (fun z=>hnR z.symm)]
    exact hb
  have hsz : w2.heap.size ≤ W.heap.size:=Nat.le_trans e3.size kW.size
  have hfr : Keep (fun y=>y ≠ B ∧ rv.ownBlock ≠ some y) w W:=⟨kW.os.trans (e3.os.trans k2.os),kW.tape.trans (e3.tape.trans k2.tape),kW.output.trans (e3.output.trans k2.output),by have:=k2.size;omega,fun y hy z=>hkb y hy z.1 z.2⟩
  refine ⟨⟨hW,⟨fun y=>N' y ∨ (w.heap.size ≤ y ∧ y < W.heap.size),A,P,ka,va,ca,cb,?_,⟨hnew,h2.kept (fun y hy hs=>hkb y hs (h7 y hy).2.1 (h7 y hy).2.2.1)⟩,h3.frame ⟨hfr.os,hfr.tape,hfr.output,hfr.size,fun y hy hz=>hkb y hy (fun e=>hz (e ▸ h5)) (fun e=>hz (h6 y e))⟩,fun y z=>.inl (h4 y z),.inl h5,fun y e=>?_,fun y hy=>?_⟩,h.so.nB,fun y e z=>?_,fun y e=>?_⟩,h.kp.trans (hfr.sub (fun y z=>⟨fun e=>h.so.nB (e ▸ z),fun e=>h.so.nW y e z⟩))⟩
  · have o2 : w3.ownsRow 0 46 1 (.slice (some ⟨x,0,none⟩) (r.1.rows.length + 1) cap) (w.heap.size :: gs).length ((w.heap.size :: gs).reverse.map slv):=by
      rw [gs_snoc,List.length_cons,hl]
      exact e2
    exact own_kept o2 (fun y e hy=>kW.block y hy (by
      have e' : x = y:=by simpa [Value.ownBlock] using e
      omega))
  · have e' : x = y:=by simpa [Value.ownBlock] using e
    subst e'
    rcases hxs with q | q
    · exact .inl (h6 x q)
    · exact .inr ⟨by omega,Nat.lt_of_lt_of_le e5 kW.size⟩
  · rcases List.mem_cons.1 hy with e | hy
    · subst e
      refine ⟨.inr ⟨Nat.le_refl _,by omega⟩,by omega,fun e=>?_,fun z=>by have:=hnos _ z;omega⟩
      have e' : x = w.heap.size:=by simpa [Value.ownBlock] using e
      rcases hxs with q | q
      · exact hnR (by rw [q,e'])
      · omega
    · obtain ⟨a1,a2,a3,a4⟩:=h7 y hy
      refine ⟨.inl a1,a2,fun e=>?_,a4⟩
      have e' : x = y:=by simpa [Value.ownBlock] using e
      rcases hxs with q | q
      · exact a3 (by rw [q,e'])
      · have:=h2.lt y hy;omega
  · have e' : x = y:=by simpa [Value.ownBlock] using e
    subst e'
    rcases hxs with q | q
    · exact h.so.nW x q z
    · have:=hnos _ z;omega
  · have e' : x = y:=by simpa [Value.ownBlock] using e
    subst e'
    exact hxB
end
end Go.Proofs.YtkmopcanaalemabGreat


namespace Go.Proofs.YtkmopcanaalemabGreat
open Go.RowKit
structure Sv (n:Nat) (a0:Act) (D:List Nat) (Pu:List (Nat×Nat)) (pv:Nat→Value) (Ch:List (Nat×Option Nat)) (Dp:List (Nat×Nat)) (Ly:Nat→Value→World→Prop) (l:Array Bool) (a:Act) (w:World):Prop where
 sz:l.size=n
 tz:a.tmps.size=a0.tmps.size
 df:a.defers=a0.defers
 fx:∀x,¬x∈D→a.tmps.getD x undef=a0.tmps.getD x undef
 pu:∀x∈Pu,l.getD x.1 false=true→a.tmps.getD x.2 undef=pv x.1
 ex:∃v s,s≤Ch.length∧Ly s v w∧(∀j c,Ch[j]?=some c→(l.getD c.1 false=true↔j<s))∧(∀j c d,s=j+1→Ch[j]?=some (c,some d)→a.tmps.getD d undef=v)∧∀x∈Dp,x.2<s→l.getD x.1 false=true
section
variable {n:Nat} {a0:Act} {D:List Nat} {Pu:List (Nat×Nat)} {pv:Nat→Value} {Ch:List (Nat×Option Nat)} {Dp:List (Nat×Nat)} {Ly:Nat→Value→World→Prop} {l:Array Bool} {a:Act} {w w':World}
theorem Sv.pure (h:Sv n a0 D Pu pv Ch Dp Ly l a w) (i d:Nat) (v:Value) (hv:v=pv i) (h1:d∈D) (h2:∀x∈Pu,x.1=i∨(x.1≠i∧x.2≠d)) (h4:∀c∈Ch,c.1≠i∧c.2≠some d) (h5:∀x∈Pu,x.1=i→x.2=d) (hd:d<a0.tmps.size):Sv n a0 D Pu pv Ch Dp Ly (l.setIfInBounds i true) (a.put (some d) v) w:=by
 obtain ⟨u,s,e1,e2,e4,e5,e6⟩:=h.ex
 have hg:∀k,k≠d→(a.tmps.setIfInBounds d v).getD k undef=a.tmps.getD k undef:=fun k hk=>by rw[getD_set,if_neg (fun e=>hk e.1.symm)]
 have hl:∀k,k≠i→(l.setIfInBounds i true).getD k false=l.getD k false:=fun k hk=>by rw[getD_set,if_neg (fun e=>hk e.1.symm)]
 refine ⟨by simpa using h.sz,by simpa [Act.put] using h.tz,h.df,fun x hx=>?_,fun x hx hb=>?_,u,s,e1,e2,fun j c hc=>?_,fun j c d' hs hc=>?_,fun x hx hs=>?_⟩
 ·exact (hg x (fun e=>hx (e▸h1))).trans (h.fx x hx)
 ·rcases h2 x hx with e | ⟨e,e'⟩
  ·have:=h5 x hx e
   show (a.tmps.setIfInBounds d v).getD x.2 undef=_
   rw[this,getD_set,if_pos ⟨rfl,by rw[h.tz];exact hd⟩,e,hv]
  ·rw[hl x.1 e] at hb
   exact (hg x.2 e').trans (h.pu x hx hb)
 ·rw[hl c.1 (h4 c (List.mem_of_getElem? hc)).1]
  exact e4 j c hc
 ·exact (hg d' (fun e=>(h4 _ (List.mem_of_getElem? hc)).2 (by rw[e]))).trans (e5 j c d' hs hc)
 ·by_cases e:x.1=i
  ·have:=e6 x hx hs
   have hb:=Array.getD_eq_getD_getElem? (xs:=l) (i:=x.1) (d:=false)
   rw[e,getD_set]
   split
   ·rfl
   ·rw[←e];exact this
  ·rw[hl x.1 e];exact e6 x hx hs
theorem Sv.at (h:Sv n a0 D Pu pv Ch Dp Ly l a w) (j:Nat) (c:Nat×Option Nat) (hc:Ch[j]?=some c) (hn:l.getD c.1 false=false) (hp:∀i c',j=i+1→Ch[i]?=some c'→l.getD c'.1 false=true):
 ∃v,Ly j v w∧∀i c' d,j=i+1→Ch[i]?=some (c',some d)→a.tmps.getD d undef=v:=by
 obtain ⟨u,s,e1,e2,e4,e5,e6⟩:=h.ex
 have h1:¬j<s:=fun e=>by have:=(e4 j c hc).2 e;rw[this] at hn;cases hn
 have hs:s=j:=by
  cases j with
  | zero=>omega
  | succ i=>
    have hj:=(List.getElem?_eq_some_iff.1 hc).1
    obtain ⟨c',hc'⟩:∃c',Ch[i]?=some c':=⟨Ch[i],List.getElem?_eq_getElem (by omega)⟩
    have:=(e4 i c' hc').1 (hp i c' rfl hc')
    omega
 subst hs
 exact ⟨u,e2,e5⟩
theorem Sv.eff (h:Sv n a0 D Pu pv Ch Dp Ly l a w) (j i:Nat) (dst:Option Nat) (v:Value) (hc:Ch[j]?=some (i,dst)) (hn:l.getD i false=false) (hp:∀i' c',j=i'+1→Ch[i']?=some c'→l.getD c'.1 false=true) (hL:Ly (j+1) v w') (hD:∀d,dst=some d→d∈D∧d<a0.tmps.size∧∀x∈Pu,x.2≠d) (h2:∀x∈Pu,x.1≠i) (h4:∀j' c,Ch[j']?=some c→j'=j∨c.1≠i) (hi:i<n) (h6:∀x∈Dp,x.2=j→l.getD x.1 false=true) (h7:∀x∈Dp,x.1≠i):Sv n a0 D Pu pv Ch Dp Ly (l.setIfInBounds i true) (a.put dst v) w':=by
 obtain ⟨u,s,e1,e2,e4,e5,e6⟩:=h.ex
 have hj:=(List.getElem?_eq_some_iff.1 hc).1
 have hs:s=j:=by
  have q1:¬j<s:=fun e=>by have:=(e4 j _ hc).2 e;rw[this] at hn;cases hn
  cases j with
  | zero=>omega
  | succ i'=>
    obtain ⟨c',hc'⟩:∃c',Ch[i']?=some c':=⟨Ch[i'],List.getElem?_eq_getElem (by omega)⟩
    have:=(e4 i' c' hc').1 (hp i' c' rfl hc')
    omega
 have hl:∀k,k≠i→(l.setIfInBounds i true).getD k false=l.getD k false:=fun k hk=>by rw[getD_set,if_neg (fun e=>hk e.1.symm)]
 have hg:∀k,dst≠some k→(a.put dst v).tmps.getD k undef=a.tmps.getD k undef:=fun k hk=>by
  cases dst with
  | none=>rfl
  | some d=>exact (getD_set a.tmps d k v undef).trans (if_neg (fun e=>hk (by rw[e.1])))
 have hz:(a.put dst v).tmps.size=a.tmps.size:=by cases dst with | none=>rfl | some d=>simp[Act.put]
 have hdf:(a.put dst v).defers=a.defers:=by cases dst<;>rfl
 refine ⟨by simpa using h.sz,hz.trans h.tz,hdf.trans h.df,fun x hx=>?_,fun x hx hb=>?_,v,j+1,hj,hL,fun j' c hc'=>?_,fun j' c d' hs' hc'=>?_,fun x hx hlt=>?_⟩
 ·exact (hg x (fun e=>hx (hD x e).1)).trans (h.fx x hx)
 ·rw[hl x.1 (h2 x hx)] at hb
  exact (hg x.2 (fun e=>(hD x.2 e).2.2 x hx rfl)).trans (h.pu x hx hb)
 ·rcases h4 j' c hc' with e | q1
  ·subst e
   rw[hc] at hc'
   injection hc' with hc'
   subst hc'
   rw[getD_set,if_pos ⟨rfl,by rw[h.sz];exact hi⟩]
   exact ⟨fun _=>by omega,fun _=>rfl⟩
  ·rw[hl c.1 q1,e4 j' c hc',hs]
   have :j'≠j:=fun e=>by
    subst e
    rw[hc] at hc'
    injection hc' with hc'
    exact q1 (by rw[←hc'])
   omega
 ·obtain rfl:j'=j:=by omega
  rw[hc] at hc'
  injection hc' with hc'
  injection hc' with hc1 hc2
  subst hc2
  show (a.tmps.setIfInBounds d' v).getD d' undef=v
  rw[getD_set,if_pos ⟨rfl,by rw[h.tz];exact (hD d' rfl).2.1⟩]
 ·rw[hl x.1 (h7 x hx)]
  by_cases e:x.2=j
  ·exact h6 x hx e
  ·exact e6 x hx (by omega)
end
theorem wpAny_sv {P:Program} {ops:Array Oper} {Q:Exit→Act→World→Prop} {md:Region.Mode} {a0:Act} {w0:World} (n:Nat) (D:List Nat) (Pu:List (Nat×Nat)) (pv:Nat→Value) (Ch:List (Nat×Option Nat)) (Dp:List (Nat×Nat)) (Ly:Nat→Value→World→Prop) (hn:n=ops.size) (hL:Ly 0 undef w0)
 (hs:∀l a w,Sv n a0 D Pu pv Ch Dp Ly l a w→∀i∈Region.ready md ops l,wpOp P ops Q i (Sv n a0 D Pu pv Ch Dp Ly (l.setIfInBounds i true)) a w)
 (hd:∀l a w,Sv n a0 D Pu pv Ch Dp Ly l a w→Region.ready md ops l=[]→Q .normal a w):wpAny P md ops Q n (Array.replicate n false) a0 w0:=by
 have h0:∀k,(Array.replicate n false).getD k false=false:=fun k=>by
  rw[Array.getD_eq_getD_getElem?,Array.getElem?_replicate]
  split<;>rfl
 refine wpAny_inv (fun l a w=>Sv n a0 D Pu pv Ch Dp Ly l a w) (fun l a w h=>h.sz.trans hn) hs hd n _ _ _ ?_ ⟨by simp,rfl,rfl,fun _ _=>rfl,fun x _ hb=>?_,undef,0,Nat.zero_le _,hL,fun j c _=>⟨fun hb=>?_,fun h=>absurd h (Nat.not_lt_zero _)⟩,fun j c d e=>absurd e (by omega),fun x _ h=>absurd h (Nat.not_lt_zero _)⟩
 ·rw[Array.toList_replicate,List.count_replicate];split<;>omega
 ·rw[h0] at hb;cases hb
 ·rw[h0] at hb;cases hb
theorem effs_other (Ch:List (Nat×Option Nat)) (j i:Nat) (h:(List.range Ch.length).all (fun k=>k==j || ((Ch[k]?).map fun c=>c.1 !=i).getD true)=true):∀j' c,Ch[j']?=some c→j'=j∨c.1≠i:=by
 intro k c hc
 have hk:k<Ch.length:=(List.getElem?_eq_some_iff.1 hc).1
 have:=List.all_eq_true.1 h k (List.mem_range.2 hk)
 rw[hc] at this
 simpa using this
def putAll (a0:Act) (f:Nat→Value):List Nat→Act
 | []=>a0
 | d::r=>putAll (a0.put (some d) (f d)) f r
theorem act_puts (a:Act):∀(D:List Nat) (a0:Act),a.defers=a0.defers→a.tmps.size=a0.tmps.size→(∀x,¬x∈D→a.tmps.getD x undef=a0.tmps.getD x undef)→a=putAll a0 (fun d=>a.tmps.getD d undef) D
 | [],a0,hd,hz,h=>by
   obtain ⟨t,d⟩:=a
   obtain ⟨t0,d0⟩:=a0
   simp only at hd hz h
   subst hd
   have e:t=t0:=by
    refine Array.ext hz fun i h1 h2=>?_
    have:=h i (by simp)
    rw[Array.getD_eq_getD_getElem?,Array.getD_eq_getD_getElem?,Array.getElem?_eq_getElem h1,Array.getElem?_eq_getElem h2] at this
    exact this
   subst e
   rfl
 | d::r,a0,hd,hz,h=>by
   rw[putAll]
   refine act_puts a r _ hd (by simpa [Act.put] using hz) fun x hx=>?_
   show _=(a0.tmps.setIfInBounds d (a.tmps.getD d undef)).getD x undef
   rw[getD_set]
   by_cases e:d=x
   ·subst e
    by_cases h2:d<a0.tmps.size
    ·rw[if_pos ⟨rfl,h2⟩]
    ·rw[if_neg (fun q=>h2 q.2),Array.getD_eq_getD_getElem?,Array.getD_eq_getD_getElem?,Array.getElem?_eq_none (by omega),Array.getElem?_eq_none (by omega)]
   ·rw[if_neg (fun q=>e q.1)]
    exact h x (by simp;exact ⟨fun q=>e q.symm,hx⟩)
end Go.Proofs.YtkmopcanaalemabGreat
