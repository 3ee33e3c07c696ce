import Derived.Test.YtkmopcanaalemabGreatCg04
import Derived.Test.YtkmopcanaalemabGreatCg00
import Derived.Deep.QuietTactic
import Derived.BigQuiet
namespace Go.Proofs.YtkmopcanaalemabGreat.H
open Go.RowKit
theorem Inv.le_live {sp : Int} {s : St} (h : Inv sp s) (k : Nat) (hk : k < s.bl.length) (ht : (s.bl[k]'hk).2 = true) : (s.bl[k]'hk).1 ≤ s.live:=by
  have:=tk_mem s.bl (fun k hk=>by have:=h.cells k hk;omega) k hk ht
  have:=h.live
  have:=h.sp0
  omega
theorem give_any {No : Nat → Prop} {w : World} {S b c : Nat} {vb : Value} {s : St} {sp : Int} (h : Hp No w S b c vb s) (hc : c ≤ 1000000) (iv : Inv sp s) (id : Int) :
    Calls Tryz.prog 46 #[.pointer (some ⟨S,0,none⟩),.int .i64 id] w fun e w'=>e = .returned (.int .i64 (giveE s id)) ∧ (∃ v',Hp No w' S b (c + 1) v' (giveSt s id)) ∧ Keep No w w':=by
  by_cases hg : Given s id
  · obtain ⟨k,rfl⟩ : ∃ k : Nat,id = (k : Int) + 1:=⟨id.toNat - 1,by have:=hg.1;omega⟩
    have hk : k < s.bl.length:=by have:=hg.2.1;omega
    have ht : (s.bl[k]'hk).2 = true:=by
      have:=hg.2.2
      rwa [show ((k : Int) + 1).toNat - 1 = k by omega,List.getD,List.getElem?_eq_getElem hk] at this
    rw [(give_at hk ht).1]
    exact give_good h hc iv.ok k hk ht (iv.le_live k hk ht)
  · have e : giveSt s id = s:=by unfold giveSt;rw [if_neg hg]
    rw [e]
    refine (give_bad h hc id hg).mono ?_
    rintro e w' ⟨rfl,rfl⟩
    exact ⟨rfl,⟨_,h.more (Nat.le_succ _)⟩,Keep.refl _ _⟩
theorem Hp.sets {No : Nat → Prop} {w : World} {S b c : Nat} {vb : Value} {s : St} (h : Hp No w S b c vb s) (g i : Nat) (v : Value) (hn : No g) : Hp No (w.setCell ⟨g,i,none⟩ v) S b c vb s:=h.keeps (gset w g i v) hn
abbrev z4 : Array Value:=#[.int .i64 0,.int .i64 0,.int .i64 0,.int .i64 0]
end Go.Proofs.YtkmopcanaalemabGreat.H


namespace Go.Proofs.YtkmopcanaalemabGreat
open Go.RowKit
theorem kh {No:Nat→Prop} {w w':World} (h:H.Keep No w w'):Keep No w w':=⟨h.os,h.tape,h.output,h.size,h.block⟩
theorem hk {No:Nat→Prop} {w w':World} (h:Keep No w w'):H.Keep No w w':=⟨h.os,h.tape,h.output,h.size,h.block⟩
section
variable {No No':Nat→Prop} {w w':World} {S b c:Nat} {vb:Value} {s:H.St}
theorem Hp.sub (h:H.Hp No w S b c vb s) (hn:∀g,No' g→No g):H.Hp No' w S b c vb s:=h.reno (fun g q=>.inl (hn g q))
theorem Hp.news (h:H.Hp No w S b c vb s) (hb:Below w.heap.size w w'):H.Hp (fun g=>No g∨(w.heap.size≤g∧g<w'.heap.size)) w' S b c vb s:=by
 have lS:S<w.heap.size:=(Array.getElem?_eq_some_iff.1 h.str).1
 obtain ⟨es,clock,hbk⟩:=h.rdy.block
 have lb:b<w.heap.size:=(Array.getElem?_eq_some_iff.1 hbk).1
 have hg:w.grownBy w' none:=⟨hb.os,hb.tape,hb.output,hb.size,fun i hi _=>hb.block i hi⟩
 have hr:H.Rdy (fun g=>No g∨(w.heap.size≤g∧g<w'.heap.size)) w b c s.R:=h.rdy.reno (fun g q=>q.imp id (fun q=>q.1))
 have hp:=h.below hb
 refine ⟨hp.str,hp.row,hr.kept hg (fun g q=>by cases q),h.len,fun q=>?_,fun q=>?_,fun g hg' q=>?_,fun g q=>?_⟩
 ·rcases q with q | q
  ·exact h.noS q
  ·omega
 ·rcases q with q | q
  ·exact h.nob q
  ·omega
 ·rcases q with q | q
  ·exact h.nov g hg' q
  ·have:=(h.row.lt g hg').2;omega
 ·rcases q with q | q
  ·have:=h.nos g q;have:=hb.size;omega
  ·exact q.2
def mix (w w':World) (i:Nat):World:={w with heap:=Array.ofFn (n:=w.heap.size) fun j=>if j.1<i then (w'.heap[j.1]?).getD w.heap[j.1] else w.heap[j.1]}
theorem mix_size (w w':World) (i:Nat):(mix w w' i).heap.size=w.heap.size:=by simp[mix]
theorem mix_at (w w':World) (i j:Nat) (hs:w.heap.size≤w'.heap.size) (hj:j<w.heap.size):(mix w w' i).heap[j]?=if j<i then w'.heap[j]? else w.heap[j]?:=by
 have hj':j<w'.heap.size:=by omega
 simp only[mix]
 rw[Array.getElem?_eq_getElem (by simpa using hj)]
 simp only[Array.getElem_ofFn]
 split
 ·rw[Array.getElem?_eq_getElem hj'];rfl
 ·rw[Array.getElem?_eq_getElem hj]
theorem Hp.frame (h:H.Hp No w S b c vb s) (hos:w'.os=w.os) (ht:w'.tape=w.tape) (ho:w'.output=w.output) (hs:w.heap.size≤w'.heap.size) (hb:∀g,g<w.heap.size→¬No g→w'.heap[g]?=w.heap[g]?):H.Hp No w' S b c vb s:=by
 have key:∀i,i≤w.heap.size→H.Hp No (mix w w' i) S b c vb s:=fun i=>by
  induction i with
  | zero=>
    intro _
    have :mix w w' 0=w:=by
     have e:(mix w w' 0).heap=w.heap:=by
      apply Array.ext_getElem?
      intro j
      rcases Nat.lt_or_ge j w.heap.size with q | q
      ·rw[mix_at w w' 0 j hs q,if_neg (by omega)]
      ·rw[Array.getElem?_eq_none (by rw[mix_size];exact q),Array.getElem?_eq_none q]
     have e2:mix w w' 0={w with heap:=(mix w w' 0).heap}:=rfl
     rw[e2,e]
    rw[this];exact h
  | succ i ih=>
    intro hi
    have h1:=ih (by omega)
    by_cases q:No i
    ·refine h1.keeps (g:=i) ⟨rfl,rfl,rfl,by rw[mix_size,mix_size];exact Nat.le_refl _,fun k hk hne=>?_⟩ q
     rw[mix_size] at hk
     rw[mix_at w w' _ k hs hk,mix_at w w' _ k hs hk]
     have :k≠i:=fun e=>hne (by rw[e])
     by_cases q2:k<i
     ·rw[if_pos q2,if_pos (by omega)]
     ·rw[if_neg q2,if_neg (by omega)]
    ·have :mix w w' (i+1)=mix w w' i:=by
      have e:(mix w w' (i+1)).heap=(mix w w' i).heap:=by
       apply Array.ext_getElem?
       intro j
       rcases Nat.lt_or_ge j w.heap.size with q1 | q1
       ·rw[mix_at w w' _ j hs q1,mix_at w w' _ j hs q1]
        by_cases q2:j=i
        ·subst q2;rw[if_pos (by omega),if_neg (by omega)];exact hb j q1 q
        ·by_cases q3:j<i
         ·rw[if_pos q3,if_pos (by omega)]
         ·rw[if_neg q3,if_neg (by omega)]
       ·rw[Array.getElem?_eq_none (by rw[mix_size];exact q1),Array.getElem?_eq_none (by rw[mix_size];exact q1)]
      have e2:mix w w' (i+1)={mix w w' i with heap:=(mix w w' (i+1)).heap}:=rfl
      rw[e2,e]
     rw[this];exact h1
 have hl:=key _ (Nat.le_refl _)
 refine hl.below ⟨hos,ht,ho,by rw[mix_size];exact hs,fun g hg=>?_⟩
 rw[mix_size] at hg
 rw[mix_at w w' _ g hs hg,if_pos hg]
theorem Hp.frame2 (h:H.Hp No w S b c vb s) (hos:w'.os=w.os) (ht:w'.tape=w.tape) (ho:w'.output=w.output) (hs:w.heap.size≤w'.heap.size) (hb:∀g,g<w.heap.size→¬No g→w'.heap[g]?=w.heap[g]?):H.Hp (fun g=>No g∨(w.heap.size≤g∧g<w'.heap.size)) w' S b c vb s:=by
 have key:∀i,i≤w.heap.size→H.Hp No (mix w w' i) S b c vb s:=fun i=>by
  induction i with
  | zero=>
    intro _
    have :mix w w' 0=w:=by
     have e:(mix w w' 0).heap=w.heap:=by
      apply Array.ext_getElem?
      intro j
      rcases Nat.lt_or_ge j w.heap.size with q | q
      ·rw[mix_at w w' 0 j hs q,if_neg (by omega)]
      ·rw[Array.getElem?_eq_none (by rw[mix_size];exact q),Array.getElem?_eq_none q]
     have e2:mix w w' 0={w with heap:=(mix w w' 0).heap}:=rfl
     rw[e2,e]
    rw[this];exact h
  | succ i ih=>
    intro hi
    have h1:=ih (by omega)
    by_cases q:No i
    ·refine h1.keeps (g:=i) ⟨rfl,rfl,rfl,by rw[mix_size,mix_size];exact Nat.le_refl _,fun k hk hne=>?_⟩ q
     rw[mix_size] at hk
     rw[mix_at w w' _ k hs hk,mix_at w w' _ k hs hk]
     have :k≠i:=fun e=>hne (by rw[e])
     by_cases q2:k<i
     ·rw[if_pos q2,if_pos (by omega)]
     ·rw[if_neg q2,if_neg (by omega)]
    ·have :mix w w' (i+1)=mix w w' i:=by
      have e:(mix w w' (i+1)).heap=(mix w w' i).heap:=by
       apply Array.ext_getElem?
       intro j
       rcases Nat.lt_or_ge j w.heap.size with q1 | q1
       ·rw[mix_at w w' _ j hs q1,mix_at w w' _ j hs q1]
        by_cases q2:j=i
        ·subst q2;rw[if_pos (by omega),if_neg (by omega)];exact hb j q1 q
        ·by_cases q3:j<i
         ·rw[if_pos q3,if_pos (by omega)]
         ·rw[if_neg q3,if_neg (by omega)]
       ·rw[Array.getElem?_eq_none (by rw[mix_size];exact q1),Array.getElem?_eq_none (by rw[mix_size];exact q1)]
      have e2:mix w w' (i+1)={mix w w' i with heap:=(mix w w' (i+1)).heap}:=rfl
      rw[e2,e]
     rw[this];exact h1
 have hl:=key _ (Nat.le_refl _)
 have hn:=Hp.news hl (w':=w') ⟨hos,ht,ho,by rw[mix_size];exact hs,fun g hg=>by
  rw[mix_size] at hg
  rw[mix_at w w' _ g hs hg,if_pos hg]⟩
 rw[mix_size] at hn
 exact hn
end
end Go.Proofs.YtkmopcanaalemabGreat


namespace Go.Proofs.YtkmopcanaalemabGreat.H
open Go.RowKit
structure Rs where
 lim:Int
 sp:Int
 ck:Int
 all:List (Int×Int)
def rcells (l:List (Int×Int)):List Value:=l.flatMap fun p=>[.int .i64 p.1,.int .i64 p.2]
theorem rcells_len (l:List (Int×Int)):(rcells l).length=l.length * 2:=by
 induction l with
 | nil=>rfl
 | cons p l ih=>simp[rcells] at ih⊢;omega
theorem rcells_app (l m:List (Int×Int)):rcells (l++m)=rcells l++rcells m:=by simp[rcells]
theorem rcells_get (l:List (Int×Int)) (i:Nat) (h:i<l.length):(rcells l)[i * 2]?=some (.int .i64 (l[i]'h).1)∧(rcells l)[i * 2+1]?=some (.int .i64 (l[i]'h).2):=by
 induction l generalizing i with
 | nil=>simp at h
 | cons p l ih=>
   cases i with
   | zero=>simp[rcells]
   | succ i=>
     have:=ih i (by simpa using h)
     simp only[rcells,List.flatMap_cons,List.getElem_cons_succ] at this⊢
     rw[show (i+1) * 2=i * 2+2 by omega]
     simpa using this
def setG (l:List (Int×Int)) (i:Nat) (t:Int):List (Int×Int):=l.set i ((l.getD i (0,0)).1,t)
theorem setG_len (l:List (Int×Int)) (i:Nat) (t:Int):(setG l i t).length=l.length:=by simp[setG]
theorem setG_eq (l:List (Int×Int)) (i:Nat) (h:i<l.length) (t:Int):setG l i t=l.set i ((l[i]'h).1,t):=by
 unfold setG
 rw[List.getD,List.getElem?_eq_getElem h]
 rfl
theorem rcells_set (l:List (Int×Int)) (i:Nat) (h:i<l.length) (t:Int):(rcells l).set (i * 2+1) (.int .i64 t)=rcells (setG l i t):=by
 rw[setG_eq l i h]
 induction l generalizing i with
 | nil=>simp at h
 | cons p l ih=>
   cases i with
   | zero=>simp[rcells]
   | succ i=>
     have:=ih i (by simpa using h)
     simp only[rcells,List.flatMap_cons,List.getElem_cons_succ,List.set_cons_succ] at this⊢
     rw[show (i+1) * 2+1=i * 2+1+2 by omega]
     simpa using this
structure Rp (No:Nat→Prop) (w:World) (S c:Nat) (va:Value) (r:Rs):Prop where
 str:w.heap[S]?=some (.cells #[.int .i64 r.lim,.int .i64 r.sp,.int .i64 r.ck,va] 67 (0,0))
 row:w.ownsRow 0 143 2 va r.all.length (rcells r.all)
 len:r.all.length≤c
 noS:¬No S
 nov:∀g,va.ownBlock=some g→¬No g
 nos:∀g,No g→g<w.heap.size
theorem Rp.apart {No:Nat→Prop} {w:World} {S c:Nat} {va:Value} {r:Rs} (h:Rp No w S c va r):va.ownBlock≠some S∧S<w.heap.size:=by
 refine ⟨fun e=>?_,(Array.getElem?_eq_some_iff.1 h.str).1⟩
 rcases h.row.2 with ⟨e1,_⟩ | ⟨g',cap',cur,e1,_,hh,_⟩
 ·rw[e1] at e;cases e
 ·rw[e1] at e
  injection e with e
  subst e
  rw[h.str] at hh
  injection hh with hh
  injection hh with _ hh _
  cases hh
theorem Rp.far {No No':Nat→Prop} {w w':World} {S c c':Nat} {va:Value} {r:Rs} (h:Rp No w S c va r) (hS:w'.heap[S]?=w.heap[S]?) (hv:∀g,va.ownBlock=some g→w'.heap[g]?=w.heap[g]?) (hc:c≤c') (hn:∀g,No' g→g<w'.heap.size∧g≠S∧va.ownBlock≠some g):Rp No' w' S c' va r:=by
 refine ⟨hS.trans h.str,⟨h.row.1,?_⟩,Nat.le_trans h.len hc,fun q=>(hn S q).2.1 rfl,fun g e q=>(hn g q).2.2 e,fun g q=>(hn g q).1⟩
 rcases h.row.2 with q | ⟨g,cap,cur,q,q1,q2,q3⟩
 ·exact .inl q
 ·exact .inr ⟨g,cap,cur,q,q1,(hv g (by rw[q];rfl)).trans q2,q3⟩
theorem Rp.below {No:Nat→Prop} {w w':World} {S c:Nat} {va:Value} {r:Rs} (h:Rp No w S c va r) (hb:Below w.heap.size w w'):Rp No w' S c va r:=
 h.far (hb.block S h.apart.2) (fun g e=>hb.block g (h.row.lt g e).2) (Nat.le_refl _) (fun g q=>⟨Nat.lt_of_lt_of_le (h.nos g q) hb.size,fun e=>h.noS (e▸q),fun e=>h.nov g e q⟩)
theorem Rp.drew {No:Nat→Prop} {w:World} {S c:Nat} {va:Value} {r:Rs} (h:Rp No w S c va r):Rp No w.drew S c va r:=⟨h.str,h.row,h.len,h.noS,h.nov,h.nos⟩
theorem Rp.drewN {No:Nat→Prop} {w:World} {S c:Nat} {va:Value} {r:Rs} (h:Rp No w S c va r) (n:Nat):Rp No (w.drewN n) S c va r:=⟨h.str,h.row,h.len,h.noS,h.nov,h.nos⟩
theorem Rp.more {No:Nat→Prop} {w:World} {S c c':Nat} {va:Value} {r:Rs} (h:Rp No w S c va r) (hc:c≤c'):Rp No w S c' va r:=⟨h.str,h.row,Nat.le_trans h.len hc,h.noS,h.nov,h.nos⟩
theorem Keep.drewN {No:Nat→Prop} {w w':World} (h:Keep No w w') (n:Nat):Keep No w (w'.drewN n):=⟨h.os,h.tape,h.output,h.size,h.block⟩
section
variable {No:Nat→Prop} {w:World} {S c:Nat} {va:Value} {r:Rs}
theorem Rp.c0 (h:Rp No w S c va r):w.cell? ⟨S,0,none⟩=some (.int .i64 r.lim):=cell_row h.str 0
theorem Rp.c1 (h:Rp No w S c va r):w.cell? ⟨S,1,none⟩=some (.int .i64 r.sp):=cell_row h.str 1
theorem Rp.c2 (h:Rp No w S c va r):w.cell? ⟨S,2,none⟩=some (.int .i64 r.ck):=cell_row h.str 2
theorem Rp.c3 (h:Rp No w S c va r):w.cell? ⟨S,3,none⟩=some va:=cell_row h.str 3
theorem Rp.fr (h:Rp No w S c va r) (i:Nat):w.frozen? ⟨S,i,none⟩=false:=free_row h.str i
theorem Rp.form (h:Rp No w S c va r) (hl:0<r.all.length):∃g cap,va= .slice (some ⟨g,0,none⟩) r.all.length cap:=by
 obtain ⟨g,cap,q,_⟩:=h.row.form hl
 exact ⟨g,cap,q⟩
theorem Rp.cells (h:Rp No w S c va r):∃a cap,va= .slice a r.all.length cap∧r.all.length≤cap∧∀i,i<r.all.length→∃g,a=some ⟨g,0,none⟩∧g≠S∧w.cell? ⟨g,i * 2,none⟩=some (.int .i64 (r.all.getD i (0,0)).1)∧w.cell? ⟨g,i * 2+1,none⟩=some (.int .i64 (r.all.getD i (0,0)).2)∧∀j,w.frozen? ⟨g,j,none⟩=false:=by
 obtain ⟨a,cap,e,hcap⟩:=slice_of h.row
 refine ⟨a,cap,e,hcap,fun i hi=>?_⟩
 obtain ⟨g,cap',q⟩:=h.form (by omega)
 have hg:=h.apart.1
 rw[e] at q
 injection q with q1 _ q3
 subst q1 q3
 have hb:=rcells_get r.all i hi
 have hrow:=h.row
 rw[e] at hrow hg
 rw[List.getD,List.getElem?_eq_getElem hi]
 refine ⟨g,rfl,fun e2=>hg (by rw[e2];rfl),?_,?_,fun j=>?_⟩
 ·rw[hrow.cellAt (i * 2) (by omega)];exact hb.1
 ·rw[hrow.cellAt (i * 2+1) (by omega)];exact hb.2
 ·rcases hrow.2 with ⟨q,_⟩ | ⟨g',cap',cur,q,_,hh,_⟩
  ·cases q
  ·injection q with q _ _
   injection q with q
   injection q with q _ _
   subst q
   exact free_row hh j
end
structure Rok (r:Rs):Prop where
 s0:0≤r.sp
 s1:r.sp≤400000
 c0:∀i,i<r.all.length→0≤(r.all.getD i (0,0)).1∧(r.all.getD i (0,0)).1≤400000
def rl (r:Rs):Nat→Int
 | 0=>r.sp
 | k+1=>rl r k+(if (r.all.getD k (0,0)).2=0 then (r.all.getD k (0,0)).1 else 0)
def rd (r:Rs):Nat→Int
 | 0=>0
 | k+1=>rd r k+(r.all.getD k (0,0)).1
theorem rl_bd {r:Rs} (h:Rok r) (k:Nat) (hk:k≤r.all.length):0≤rl r k∧rl r k≤400000+k * 400000:=by
 induction k with
 | zero=>have:=h.s0;have:=h.s1;simp only[rl];omega
 | succ k ih=>
   have h1:=ih (by omega)
   have h2:=h.c0 k (by omega)
   simp only[rl]
   split<;>omega
set_option maxRecDepth 20000 in
set_option maxHeartbeats 1000000 in
theorem rlive_any {No:Nat→Prop} {w:World} {S c:Nat} {va:Value} {r:Rs} (h:Rp No w S c va r) (hc:c≤1000000) (ok:Rok r):
 Calls Tryz.prog 88 #[.pointer (some ⟨S,0,none⟩)] w fun e w'=>e= .returned (.int .i64 (rl r r.all.length))∧w'=w:=by
 have c1:=h.c1
 have c3:=h.c3
 have hlen:=h.len
 obtain ⟨a,cap,rfl,hcap,hcl⟩:=h.cells
 have HC:Hid _:=hcl
 have HB:Hid (∀k,k≤r.all.length→0≤rl r k∧rl r k≤400000+k * 400000):=fun k hk=>rl_bd ok k hk
 have HX:Hid (∀k,k<r.all.length→0≤(r.all.getD k (0,0)).1∧(r.all.getD k (0,0)).1≤400000):=ok.c0
 have HS:Hid (∀k,rl r (k+1)=rl r k+(if (r.all.getD k (0,0)).2=0 then (r.all.getD k (0,0)).1 else 0)):=fun k=>rfl
 have h0:Hid (rl r 0=r.sp):=rfl
 clear h hcl ok
 obtain ⟨L,hL⟩:∃L,r.all.length=L:=⟨_,rfl⟩
 rw[hL] at HC HB HX c3 hcap hlen⊢
 clear hL
 go_enter Tryz.func88,Tryz.ntmps88
 go_wp2_with fail
 go_loop [3,4] (fun u i=>∃k:Nat,i= .int .i64 k∧k≤L∧∃z:Int,u= .int .i64 z∧Hid (z=rl r k)) (fun _ i=>L - (intOf i).toNat)
 case atStart=>exact ⟨0,rfl,by omega,_,rfl,h0.out.symm⟩
 case round=>
  obtain ⟨k,rfl,hk,z,rfl,HZ⟩:=hrel
  have hz:=HB.out k hk
  rw[←HZ.out] at hz
  obtain ⟨hz0,hz1⟩:=hz
  have hz2:z≤1000000000000:=by
   have :(k:Int) * 400000≤1000000 * 400000:=Int.mul_le_mul_of_nonneg_right (by omega) (by omega)
   omega
  by_cases hlt:k<L
  ·have hlt':(k:Int)<(L:Int):=by omega
   obtain ⟨g,rfl,_,d0,d1,_⟩:=HC.out k hlt
   have hx:=HX.out k hlt
   have hs:=HS.out k
   rw[←HZ.out] at hs
   have HS2:Hid _:=hs
   clear HS hs HZ HB HX HC hz1
   generalize (r.all.getD k (0,0)).1=x at *
   generalize (r.all.getD k (0,0)).2=y at *
   obtain ⟨hx0,hx1⟩:=hx
   by_cases hy:y=0
   ·subst hy
    rw[if_pos rfl] at HS2
    go_wp2_with fail
    go_round
    case rel=>exact ⟨k+1,by go_num,by omega,_,rfl,HS2.out.symm⟩
    case measure=>simp[intOf];omega
   ·rw[if_neg hy,Int.add_zero] at HS2
    have hy':(y==0)=false:=by simpa using hy
    go_wp2_with fail
    go_round
    case rel=>exact ⟨k+1,by go_num,by omega,_,rfl,HS2.out.symm⟩
    case measure=>simp[intOf];omega
  ·obtain rfl:k=L:=by omega
   go_wp2_with fail
   go_ret
   exact ⟨ret1 HZ.out,rfl⟩
end Go.Proofs.YtkmopcanaalemabGreat.H


namespace Go.Proofs.YtkmopcanaalemabGreat.H
open Go.RowKit
def rlv (r:Rs):Int:=rl r r.all.length
def rE (r:Rs) (n:Int):Int:=if n<0 then 1 else if r.lim - rlv r<n then 10 else 0
theorem Rp.set0 {No:Nat→Prop} {w:World} {S c:Nat} {va:Value} {r:Rs} (h:Rp No w S c va r) (i:Nat) (x:Int) (r':Rs) (ha:r'.all=r.all) (he:#[.int .i64 r.lim,.int .i64 r.sp,.int .i64 r.ck,va].setIfInBounds i (.int .i64 x)=#[.int .i64 r'.lim,.int .i64 r'.sp,.int .i64 r'.ck,va]):Rp No (w.setCell ⟨S,i,none⟩ (.int .i64 x)) S c va r'∧Keep No w (w.setCell ⟨S,i,none⟩ (.int .i64 x)):=by
 have hgs:=gset w S i (.int .i64 x)
 refine ⟨⟨?_,?_,by rw[ha];exact h.len,h.noS,h.nov,fun q r=>by have:=h.nos q r;simpa using this⟩,(Keep.refl No w).grown hgs (fun q e=>by cases e;exact h.noS)⟩
 ·rw[←he];exact heap_setCell_same w S i _ 67 _ h.str
 ·rw[ha];exact h.row.kept hgs (.inr h.apart.1)
def rGiven (r:Rs) (id:Int):Prop:=1≤id∧id≤(r.all.length:Int)∧(r.all.getD (id.toNat - 1) (0,0)).2≤0
instance (r:Rs) (id:Int):Decidable (rGiven r id):=inferInstanceAs (Decidable (_∧_∧_))
def rgE (r:Rs) (id:Int):Int:=if id=0 then 0 else if rGiven r id then 0 else 1
def rgSt (r:Rs) (id:Int):Rs:=if rGiven r id then {r with ck:=r.ck+1,all:=setG r.all (id.toNat - 1) (r.ck+1)} else r
theorem Rp.setGiven {No:Nat→Prop} {w:World} {S c g cap:Nat} {r:Rs} (h:Rp No w S c (.slice (some ⟨g,0,none⟩) r.all.length cap) r) (i:Nat) (hi:i<r.all.length) (t:Int):
 Rp No (w.setCell ⟨g,i * 2+1,none⟩ (.int .i64 t)) S c (.slice (some ⟨g,0,none⟩) r.all.length cap) {r with all:=setG r.all i t}∧Keep No w (w.setCell ⟨g,i * 2+1,none⟩ (.int .i64 t)):=by
 obtain ⟨a1,lS⟩:=h.apart
 have hgs:=gset w g (i * 2+1) (.int .i64 t)
 refine ⟨⟨(hgs.block S lS (fun e=>a1 e.symm)).trans h.str,?_,by show (setG r.all i t).length≤c;rw[setG_len];exact h.len,h.noS,h.nov,fun q r=>by have:=h.nos q r;simpa using this⟩,(Keep.refl No w).grown hgs (fun q e=>by cases e;exact h.nov g rfl)⟩
 show World.ownsRow _ 0 143 2 _ (setG r.all i t).length (rcells (setG r.all i t))
 rw[setG_len]
 refine ⟨by rw[rcells_len,setG_len],?_⟩
 rcases h.row.2 with ⟨q,_⟩ | ⟨g',cap',cur,q,q1,q2,q3,q4,q5,q6⟩
 ·cases q
 ·injection q with qa _ qc
  injection qa with qa
  injection qa with qa _ _
  subst qa qc
  refine .inr ⟨g,cap,cur.setIfInBounds (i * 2+1) (.int .i64 t),rfl,q1,heap_setCell_same w g _ cur 143 _ q2,q3,q4,by simpa using q5,?_⟩
  rw[←rcells_set _ _ hi,←q6]
  simp only[Array.toList_setIfInBounds,List.take_set]
set_option maxRecDepth 20000 in
set_option maxHeartbeats 2000000 in
theorem rgive_any {No:Nat→Prop} {w:World} {S c:Nat} {va:Value} {r:Rs} (h:Rp No w S c va r) (hc:c≤1000000) (hk0:0≤r.ck) (hk1:r.ck≤1000000) (id:Int):
 Calls Tryz.prog 49 #[.pointer (some ⟨S,0,none⟩),.int .i64 id] w fun e w'=>e= .returned (.int .i64 (rgE r id))∧Rp No w' S c va (rgSt r id)∧Keep No w w':=by
 have c2:=h.c2
 have c3:=h.c3
 have f2:=h.fr 2
 have hlen:=h.len
 have HF:Hid _:=h
 obtain ⟨a,cap,rfl,hcap,hcl⟩:=h.cells
 by_cases h0:id=0
 ·subst h0
  have e2:rgSt r 0=r:=by unfold rgSt;rw[if_neg (fun q=>by have:=q.1;omega)]
  rw[e2,show rgE r 0=0 from rfl]
  clear hcl h c2 c3
  go_enter Tryz.func49,Tryz.ntmps49
  go_wp2_with fail
  go_ret
  exact ⟨rfl,HF.out,Keep.refl _ _⟩
 ·have h0':(id==0)=false:=by simpa using h0
  by_cases hg:rGiven r id
  ·have e1:rgE r id=0:=by unfold rgE;rw[if_neg h0,if_pos hg]
   have e2:rgSt r id={r with ck:=r.ck+1,all:=setG r.all (id.toNat - 1) (r.ck+1)}:=by unfold rgSt;rw[if_pos hg]
   rw[e1,e2]
   obtain ⟨k,rfl⟩:∃k:Nat,id=(k:Int)+1:=⟨id.toNat - 1,by have:=hg.1;omega⟩
   have ek:((k:Int)+1).toNat - 1=k:=by omega
   rw[ek]
   have hk:k<r.all.length:=by have:=hg.2.1;omega
   obtain ⟨g,rfl,hgS,d0,d1,fz⟩:=hcl k hk
   have hx:=hg.2.2
   rw[ek] at hx
   have fg:=fz (k * 2+1)
   have hr1:=(h.set0 2 (r.ck+1) {r with ck:=r.ck+1} rfl rfl)
   have HG:Hid (Rp No ((w.setCell ⟨S,2,none⟩ (.int .i64 (r.ck+1))).drew.setCell ⟨g,k * 2+1,none⟩ (.int .i64 (r.ck+1))) S c (.slice (some ⟨g,0,none⟩) r.all.length cap) {r with ck:=r.ck+1,all:=setG r.all k (r.ck+1)}∧Keep No w ((w.setCell ⟨S,2,none⟩ (.int .i64 (r.ck+1))).drew.setCell ⟨g,k * 2+1,none⟩ (.int .i64 (r.ck+1)))):=by
    have hr2:=Rp.setGiven (r:={r with ck:=r.ck+1}) hr1.1.drew k hk (r.ck+1)
    exact ⟨hr2.1,hr1.2.drew.trans hr2.2⟩
   have hkm:(k:Int)<(r.all.length:Int):=by omega
   have hkk:IntKind.i64.wrap ((k:Int)+1 - 1)=(k:Int):=by rw[IntKind.wrap_i64];omega
   clear hg e1 e2 hcl h HF hr1 fz hk ek
   generalize (r.all.getD k (0,0)).2=x at *
   obtain ⟨m,hm⟩:∃m,r.all.length=m:=⟨_,rfl⟩
   rw[hm] at c3 hcap hlen hkm
   go_enter Tryz.func49,Tryz.ntmps49
   go_wp2_with fail
   go_region
   all_goals
    go_wp2_with fail
    go_ret
    exact ⟨rfl,HG.out.1,HG.out.2⟩
  ·have e1:rgE r id=1:=by unfold rgE;rw[if_neg h0,if_neg hg]
   have e2:rgSt r id=r:=by unfold rgSt;rw[if_neg hg]
   rw[e1,e2]
   by_cases h1:id<0
   ·clear hcl h hg e1 e2
    generalize r.all.length=m at *
    go_enter Tryz.func49,Tryz.ntmps49
    go_wp2_with fail
    go_ret
    exact ⟨rfl,HF.out,Keep.refl _ _⟩
   ·by_cases h2:(r.all.length:Int)<id
    ·clear hcl h hg e1 e2
     obtain ⟨m,hm⟩:∃m,r.all.length=m:=⟨_,rfl⟩
     rw[hm] at c3 hcap hlen h2
     clear hm
     go_enter Tryz.func49,Tryz.ntmps49
     go_wp2_with fail
     go_ret
     exact ⟨rfl,HF.out,Keep.refl _ _⟩
    ·obtain ⟨k,rfl⟩:∃k:Nat,id=(k:Int)+1:=⟨id.toNat - 1,by omega⟩
     have ek:((k:Int)+1).toNat - 1=k:=by omega
     have hk:k<r.all.length:=by omega
     have hx:0<(r.all.getD k (0,0)).2:=by
      rcases Int.lt_or_le 0 (r.all.getD k (0,0)).2 with q | q
      ·exact q
      ·exact absurd ⟨by omega,by omega,by rw[ek];exact q⟩ hg
     obtain ⟨g,rfl,hgS,d0,d1,fz⟩:=hcl k hk
     have hkm:(k:Int)<(r.all.length:Int):=by omega
     have hkk:IntKind.i64.wrap ((k:Int)+1 - 1)=(k:Int):=by rw[IntKind.wrap_i64];omega
     clear hcl h hg e1 e2 hk ek fz h2
     generalize (r.all.getD k (0,0)).2=x at *
     obtain ⟨m,hm⟩:∃m,r.all.length=m:=⟨_,rfl⟩
     rw[hm] at c3 hcap hlen hkm
     clear hm
     go_enter Tryz.func49,Tryz.ntmps49
     go_wp2_with fail
     go_ret
     exact ⟨rfl,HF.out,Keep.refl _ _⟩
end Go.Proofs.YtkmopcanaalemabGreat.H


namespace Go.Proofs.YtkmopcanaalemabGreat.H
open Go.RowKit
def best (l:List (Int×Int)) (n:Int):Nat→Int
 | 0=>-1
 | k+1=>if (l.getD k (0,0)).1=n∧0<(l.getD k (0,0)).2∧(best l n k<0∨(l.getD (best l n k).toNat (0,0)).2<(l.getD k (0,0)).2) then (k:Int) else best l n k
theorem best_bd (l:List (Int×Int)) (n:Int) (k:Nat):-1≤best l n k∧best l n k<k:=by
 induction k with
 | zero=>simp[best]
 | succ k ih=>
   simp only[best]
   split<;>omega
def rtSt (r:Rs) (n:Int):Rs:=if rE r n≠0∨n=0 then r else if best r.all n r.all.length<0 then {r with all:=r.all++[(n,0)]} else {r with all:=setG r.all (best r.all n r.all.length).toNat 0}
def rtId (r:Rs) (n:Int):Int:=if rE r n≠0∨n=0 then 0 else if best r.all n r.all.length<0 then (r.all.length:Int)+1 else best r.all n r.all.length+1
theorem info75:(Tryz.prog.info? 143).map (fun i=>(i.zero,i.size,i.bytes))=some (some (.agg #[.int .i64 0,.int .i64 0]),2,16):=by kernel_rfl
theorem Rp.laid {No:Nat→Prop} {w w1:World} {S c:Nat} {va v':Value} {r:Rs} (h:Rp No w S c va r) (n:Int) (o:Obj) (hg:(w.alloc o).grownBy w1 va.ownBlock) (g cap:Nat) (hv:v'= .slice (some ⟨g,0,none⟩) (r.all.length+1) cap)
 (hown:w1.ownsRow 0 143 2 v' (r.all.length+1) (rcells r.all++[.int .i64 n,.int .i64 0])) (hat:va.ownBlock=some g∨g=w.heap.size+1):
 Rp No (w1.setCell ⟨S,3,none⟩ v') S (c+1) v' {r with all:=r.all++[(n,0)]}∧Keep No w (w1.setCell ⟨S,3,none⟩ v'):=by
 obtain ⟨a2,lS⟩:=h.apart
 have hs:=hg.size
 have hal:(w.alloc o).heap.size=w.heap.size+1:=by simp
 rw[hal] at hs
 have s1:w1.heap[S]?=some (.cells #[.int .i64 r.lim,.int .i64 r.sp,.int .i64 r.ck,va] 67 (0,0)):=
  (hg.block S (by omega) (fun e=>a2 e.symm)).trans (((World.grownBy_alloc w o none).block S lS (by simp)).trans h.str)
 have gS:v'.ownBlock≠some S:=fun e=>by
  rcases hown.2 with ⟨e1,_⟩ | ⟨g',cap',cur,e1,_,hh,_⟩
  ·rw[hv] at e1;cases e1
  ·rw[e1] at e
   injection e with e
   subst e
   rw[s1] at hh
   injection hh with hh
   injection hh with _ hh _
   cases hh
 have k1:Keep No w w1:=((Keep.refl No w).alloc o).grown hg h.nov
 refine ⟨⟨heap_setCell_same w1 S 3 _ 67 v' s1,?_,by have:=h.len;simp;omega,h.noS,fun q e=>?_,fun q r=>?_⟩,k1.grown (gset w1 S 3 v') (fun q e=>by cases e;exact h.noS)⟩
 ·have e1:(r.all++[(n,(0:Int))]).length=r.all.length+1:=by simp
  show World.ownsRow _ 0 143 2 v' (r.all++[(n,0)]).length (rcells (r.all++[(n,0)]))
  rw[e1,rcells_app]
  exact hown.kept (gset w1 S 3 v') (.inr gS)
 ·rw[hv] at e
  injection e with e
  subst e
  rcases hat with q | q
  ·exact h.nov _ q
  ·intro r
   have:=h.nos _ r
   simp only at this
   omega
 ·have:=h.nos q r
  simp
  omega
set_option maxRecDepth 20000 in
set_option maxHeartbeats 1000000 in
theorem rtake_bad {No:Nat→Prop} {w:World} {S c:Nat} {va:Value} {r:Rs} (h:Rp No w S c va r) (hc:c≤1000000) (ok:Rok r) (hl0:0≤r.lim) (hl1:r.lim≤400000) (hl2:rlv r≤r.lim) (n:Int) (hn:rE r n≠0∨n=0):
 Calls Tryz.prog 48 #[.pointer (some ⟨S,0,none⟩),.int .i64 n] w fun e w'=>e= .returned (.tuple #[.int .i64 0,.int .i64 (rE r n)])∧∃m,w'=w.drewN m:=by
 have hb:=rl_bd ok r.all.length (Nat.le_refl _)
 by_cases h0:n<0
 ·have e:rE r n=1:=by unfold rE;rw[if_pos h0]
  rw[e]
  clear h e hb hn
  go_enter Tryz.func48,Tryz.ntmps48
  go_wp2_with fail
  go_ret2
  exact ⟨rfl,0,rfl⟩
 ·have CL:∀m,Calls Tryz.prog 88 #[.pointer (some ⟨S,0,none⟩)] (w.drewN m) fun e w'=>e= .returned (.int .i64 (rlv r))∧w'=w.drewN m:=fun m=>rlive_any (h.drewN m) hc ok
  have c0:=h.c0
  have hv0:0≤rlv r:=hb.1
  by_cases h1:r.lim - rlv r<n
  ·have e:rE r n=10:=by unfold rE;rw[if_neg h0,if_pos h1]
   rw[e]
   clear h e hb ok hn
   generalize rlv r=lv at *
   go_enter Tryz.func48,Tryz.ntmps48
   go_wp2_with fail
   go_quiet (exact Calls.quiet_of_same (CL _))
   go_wp2_with fail
   go_ret2
   exact ⟨rfl,_,rfl⟩
  ·have e:rE r n=0:=by unfold rE;rw[if_neg h0,if_neg h1]
   rw[e]
   obtain rfl:n=0:=by rcases hn with q | q;exact absurd e q;exact q
   clear h e hb ok hn
   generalize rlv r=lv at *
   go_enter Tryz.func48,Tryz.ntmps48
   go_wp2_with fail
   go_quiet (exact Calls.quiet_of_same (CL _))
   go_wp2_with fail
   go_ret2
   exact ⟨rfl,_,rfl⟩
set_option maxRecDepth 20000 in
set_option maxHeartbeats 4000000 in
theorem rtake_good {No:Nat→Prop} {w:World} {S c:Nat} {va:Value} {r:Rs} (h:Rp No w S c va r) (hc:c≤1000000) (ok:Rok r) (hl0:0≤r.lim) (hl1:r.lim≤400000) (hl2:rlv r≤r.lim) (n:Int) (hn:1≤n) (hn2:n≤r.lim - rlv r):
 Calls Tryz.prog 48 #[.pointer (some ⟨S,0,none⟩),.int .i64 n] w fun e w'=>e= .returned (.tuple #[.int .i64 (rtId r n),.int .i64 0])∧(∃v',Rp No w' S (c+1) v' (rtSt r n))∧Keep No w w':=by
 have hb:=rl_bd ok r.all.length (Nat.le_refl _)
 have CL:∀m,Calls Tryz.prog 88 #[.pointer (some ⟨S,0,none⟩)] (w.drewN m) fun e w'=>e= .returned (.int .i64 (rlv r))∧w'=w.drewN m:=fun m=>rlive_any (h.drewN m) hc ok
 have c0:=h.c0
 have c3:=h.c3
 have f3:=h.fr 3
 have hlen:=h.len
 have hv0:0≤rlv r:=hb.1
 have hE:rE r n=0:=by unfold rE;rw[if_neg (by omega),if_neg (by omega)]
 have hnot:¬(rE r n≠0∨n=0):=fun q=>by rcases q with q | q;exact q hE;omega
 have HS:Hid (rtSt r n=if best r.all n r.all.length<0 then {r with all:=r.all++[(n,0)]} else {r with all:=setG r.all (best r.all n r.all.length).toNat 0}):=by unfold rtSt;exact if_neg hnot
 have HI:Hid (rtId r n=if best r.all n r.all.length<0 then (r.all.length:Int)+1 else best r.all n r.all.length+1):=by unfold rtId;exact if_neg hnot
 have HP:Hid _:=h
 have hap:=h.apart
 obtain ⟨a,cap,rfl,hcap,hcl⟩:=h.cells
 have HC:Hid _:=hcl
 have HB:Hid (∀k,best r.all n (k+1)=if (r.all.getD k (0,0)).1=n∧0<(r.all.getD k (0,0)).2∧(best r.all n k<0∨(r.all.getD (best r.all n k).toNat (0,0)).2<(r.all.getD k (0,0)).2) then (k:Int) else best r.all n k):=fun k=>rfl
 have HD:Hid (∀k,-1≤best r.all n k∧best r.all n k<k):=fun k=>best_bd r.all n k
 clear h hb ok hE hnot hcl
 obtain ⟨L,hL⟩:∃L,r.all.length=L:=⟨_,rfl⟩
 have HLe:Hid _:=hL
 rw[hL] at HC c3 hcap hlen HI HS
 clear hL
 have hq0:decide (n<0)=false:=by simp;omega
 have hq1:(n==0)=false:=by simp;omega
 have hq2:decide (r.lim - rlv r<n)=false:=by simp;omega
 go_enter Tryz.func48,Tryz.ntmps48
 go_wp2_with fail
 generalize rlv r=lv at *
 go_quiet (exact Calls.quiet_of_same (CL _))
 clear CL
 go_wp2_with fail
 go_loopw [6,7] (fun u i wr=>∃k:Nat,i= .int .i64 k∧k≤L∧∃z:Int,u= .int .i64 z∧Hid (z=best r.all n k)∧∃m,wr=w.drewN m) (fun _ i _=>L - (intOf i).toNat)
 case atStart=>exact ⟨0,rfl,by omega,_,rfl,rfl,_,rfl⟩
 case round=>
  obtain ⟨k,rfl,hk,z,rfl,HZ,mm,rfl⟩:=hrel
  obtain ⟨hz0,hz1⟩:=HD.out k
  rw[←HZ.out] at hz0 hz1
  by_cases hlt:k<L
  ·have hlt':(k:Int)<(L:Int):=by omega
   obtain ⟨g,rfl,hgS,d0,d1,_⟩:=HC.out k hlt
   have hs:=HB.out k
   rw[←HZ.out] at hs
   have HS2:Hid _:=hs
   have HE:Hid (0≤z→w.cell? ⟨g,z.toNat * 2+1,none⟩=some (.int .i64 (r.all.getD z.toNat (0,0)).2)):=fun q=>by
    obtain ⟨g',e,_,_,e1,_⟩:=HC.out z.toNat (by omega)
    injection e with e
    injection e with e _ _
    subst e
    exact e1
   clear hs HB HZ HC HP HD HS HI
   generalize (r.all.getD k (0,0)).1=x at *
   generalize (r.all.getD k (0,0)).2=y at *
   by_cases h1:x=n
   ·subst h1
    by_cases h2:0<y
    ·by_cases h3:z<0
     ·rw[if_pos ⟨rfl,h2,.inl h3⟩] at HS2
      clear HE
      go_wp2_with fail
      go_quiet (fail)
      go_wp2_with fail
      go_roundw
      case rel=>exact ⟨k+1,by go_num,by omega,_,rfl,HS2.out.symm,_,rfl⟩
      case measure=>simp[intOf];omega
     ·obtain ⟨b,rfl⟩:∃b:Nat,z=b:=⟨z.toNat,by omega⟩
      have e1:=HE.out (by omega)
      rw[Int.toNat_natCast] at e1 HS2
      have hb1:(b:Int)<(L:Int):=by omega
      have hd3:decide ((b:Int)<0)=false:=by simp
      clear HE
      generalize (r.all.getD b (0,0)).2=yb at *
      by_cases h4:yb<y
      ·rw[if_pos ⟨rfl,h2,.inr h4⟩] at HS2
       go_wp2_with fail
       go_quiet (fail)
       go_wp2_with fail
       go_roundw
       case rel=>exact ⟨k+1,by go_num,by omega,_,rfl,HS2.out.symm,_,rfl⟩
       case measure=>simp[intOf];omega
      ·rw[if_neg (fun q=>by rcases q.2.2 with q | q;omega;exact h4 q)] at HS2
       go_wp2_with fail
       go_quiet (fail)
       go_wp2_with fail
       go_roundw
       case rel=>exact ⟨k+1,by go_num,by omega,_,rfl,HS2.out.symm,_,rfl⟩
       case measure=>simp[intOf];omega
    ·rw[if_neg (fun q=>h2 q.2.1)] at HS2
     have hd2:decide (0<y)=false:=by simpa using h2
     clear HE
     go_wp2_with fail
     go_quiet (fail)
     go_wp2_with fail
     go_roundw
     case rel=>exact ⟨k+1,by go_num,by omega,_,rfl,HS2.out.symm,_,rfl⟩
     case measure=>simp[intOf];omega
   ·rw[if_neg (fun q=>h1 q.1)] at HS2
    have h1':(x==n)=false:=by simpa using h1
    clear HE
    go_wp2_with fail
    go_quiet (fail)
    go_wp2_with fail
    go_roundw
    case rel=>exact ⟨k+1,by go_num,by omega,_,rfl,HS2.out.symm,_,rfl⟩
    case measure=>simp[intOf];omega
  ·obtain rfl:k=L:=by omega
   have hp:=Rp.drewN HP.out mm
   have hzb:=HZ.out
   by_cases h3:z<0
   ·have HS2:Hid _:=HS.out
    have HI2:Hid _:=HI.out
    rw[←hzb,if_pos h3] at HS2 HI2
    have HR:Hid ((w.drewN mm).ownsRow 0 143 2 (.slice a k cap) k (rcells r.all)):=by
     have:=hp.row
     rw[show r.all.length=k from HLe.out] at this
     exact this
    have lS:=hap.2
    have HCC:Hid (∀w1 o i,((w.drewN mm).alloc o).grownBy w1 (Value.slice a k cap).ownBlock→w1.cell? ⟨S,i,none⟩=w.cell? ⟨S,i,none⟩∧w1.frozen? ⟨S,i,none⟩=w.frozen? ⟨S,i,none⟩):=fun w1 o i hg=>by
     have a2:=hap.1
     rw[show r.all.length=k from HLe.out] at a2
     have hs:S<((w.drewN mm).alloc o).heap.size:=by
      have :((w.drewN mm).alloc o).heap.size=w.heap.size+1:=by simp
      omega
     exact ⟨(hg.cell_far ⟨S,i,none⟩ hs (fun e=>a2 e.symm)).trans ((World.grownBy_alloc (w.drewN mm) o none).cell_far ⟨S,i,none⟩ lS (by simp)),(hg.frozen_far ⟨S,i,none⟩ hs (fun e=>a2 e.symm)).trans ((World.grownBy_alloc (w.drewN mm) o none).frozen_far ⟨S,i,none⟩ lS (by simp))⟩
    have HL:Hid (∀w1 o g cap2,((w.drewN mm).alloc o).grownBy w1 (Value.slice a k cap).ownBlock→w1.ownsRow 0 143 2 (.slice (some ⟨g,0,none⟩) (k+1) cap2) (k+1) (rcells r.all++[.int .i64 n,.int .i64 0])→((Value.slice a k cap).ownBlock=some g∨g=w.heap.size+1)→
     Rp No (w1.setCell ⟨S,3,none⟩ (.slice (some ⟨g,0,none⟩) (k+1) cap2)) S (c+1) (.slice (some ⟨g,0,none⟩) (k+1) cap2) {r with all:=r.all++[(n,0)]}∧Keep No (w.drewN mm) (w1.setCell ⟨S,3,none⟩ (.slice (some ⟨g,0,none⟩) (k+1) cap2))):=fun w1 o g cap2 hg ho hat=>by
     have e:=HLe.out
     have hp2:=hp
     rw[e] at hp2
     exact hp2.laid (v':=.slice (some ⟨g,0,none⟩) (k+1) cap2) n o hg g cap2 (by rw[e]) (by rw[e];exact ho) hat
    obtain ⟨i0,hi0,hy0,hy1,hy2⟩:=info_parts info75
    clear HB HZ HC HP HD HS HI hp hzb hap
    generalize rcells r.all=bc at *
    go_wp2_with (at_builtin;refine wpList_append_lies _ rfl _ _ 65 rfl 0 143 i0 _ 2 16 Tryz.underlying65 hi0 hy0 hy1 hy2 rfl (by omega) (.slice a k cap) k bc rfl (World.ownsRow.alloc HR.out _) ⟨w.heap.size,0,none⟩ 1 1 [.int .i64 n,.int .i64 0] rfl rfl (World.news_of_block (cs:=#[.int .i64 n,.int .i64 0]) (t:=143) (fr:=(0,0)) (heap_alloc_new (w.drewN mm) _)) (by simp[Value.oneCell']) (by omega) (by unfold maxLen;omega) (by omega) (Nat.zero_le _) (w.heap.size+1) (by simp) ?_;intro g cap2 w1 hown hgrow hat hlt1;have d3:=(HCC.out w1 _ 3 hgrow).1.trans c3;have e3:=(HCC.out w1 _ 3 hgrow).2.trans f3)
    go_ret2
    have U:=HL.out w1 _ g cap2 hgrow hown hat
    refine ⟨?_,⟨_,by rw[show rtSt r n=_ from HS2.out];exact U.1⟩,((Keep.refl No w).drewN mm).trans U.2⟩
    exact ret2 (by rw[show rtId r n=_ from HI2.out]) rfl
   ·obtain ⟨b,rfl⟩:∃b:Nat,z=b:=⟨z.toNat,by omega⟩
    have HS2:Hid _:=HS.out
    have HI2:Hid _:=HI.out
    rw[←hzb,if_neg h3] at HS2 HI2
    rw[Int.toNat_natCast] at HS2
    obtain ⟨g,rfl,hgS,d0,d1,fz⟩:=HC.out b (by omega)
    have fg:=fz (b * 2+1)
    have hbk:(b:Int)<(k:Int):=by omega
    have hd3:decide ((b:Int)<0)=false:=by simp
    have HG:Hid _:=Rp.setGiven hp b (by rw[show r.all.length=k from HLe.out];omega) 0
    clear HB HZ HC HP HD HS HI hp hzb hap fz d0
    generalize (r.all.getD b (0,0)).2=yb at *
    go_wp2_with fail
    go_ret2
    refine ⟨ret2 (by rw[show rtId r n=_ from HI2.out]) rfl,⟨_,by rw[show rtSt r n=_ from HS2.out];exact HG.out.1.more (Nat.le_succ _)⟩,((Keep.refl No w).drewN mm).trans HG.out.2⟩
theorem rtake_any {No:Nat→Prop} {w:World} {S c:Nat} {va:Value} {r:Rs} (h:Rp No w S c va r) (hc:c≤1000000) (ok:Rok r) (hl0:0≤r.lim) (hl1:r.lim≤400000) (hl2:rlv r≤r.lim) (n:Int):
 Calls Tryz.prog 48 #[.pointer (some ⟨S,0,none⟩),.int .i64 n] w fun e w'=>e= .returned (.tuple #[.int .i64 (rtId r n),.int .i64 (rE r n)])∧(∃v',Rp No w' S (c+1) v' (rtSt r n))∧Keep No w w':=by
 by_cases hn:rE r n≠0∨n=0
 ·have e1:rtSt r n=r:=by unfold rtSt;rw[if_pos hn]
  have e2:rtId r n=0:=by unfold rtId;rw[if_pos hn]
  rw[e1,e2]
  refine (rtake_bad h hc ok hl0 hl1 hl2 n hn).mono ?_
  rintro e w' ⟨rfl,m,rfl⟩
  exact ⟨rfl,⟨_,(h.drewN m).more (Nat.le_succ _)⟩,(Keep.refl _ _).drewN m⟩
 ·have hE:rE r n=0:=by
   by_cases q:rE r n=0
   ·exact q
   ·exact absurd (.inl q) hn
  rw[hE]
  have :0≤n∧n≤r.lim - rlv r:=by
   unfold rE at hE
   by_cases q1:n<0
   ·rw[if_pos q1] at hE;omega
   ·rw[if_neg q1] at hE
    by_cases q2:r.lim - rlv r<n
    ·rw[if_pos q2] at hE;omega
    ·omega
  exact rtake_good h hc ok hl0 hl1 hl2 n (by rcases Int.lt_or_le 0 n with q | q;omega;exact absurd (.inr (by omega)) hn) this.2
end Go.Proofs.YtkmopcanaalemabGreat.H



