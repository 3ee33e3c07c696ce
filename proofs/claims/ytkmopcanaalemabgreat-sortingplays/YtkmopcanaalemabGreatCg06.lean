import Derived.Test.YtkmopcanaalemabGreatCg05
import Derived.Test.YtkmopcanaalemabGreatCg04
import Derived.Test.YtkmopcanaalemabGreatCg03
import Derived.Deep.AppendLies
import Derived.Laws.CopyOwn
namespace Go.Proofs.YtkmopcanaalemabGreat.H
def gv (l:List (Int×Int)) (k:Nat):Int:=(l.getD k (0,0)).2
structure Sim (sp:Int) (s:St) (r:Rs):Prop where
 lim:r.lim=s.lim
 spe:r.sp=sp
 len:r.all.length=s.bl.length
 cel:∀k (h:k<s.bl.length),(r.all.getD k (0,0)).1=(s.bl[k]'h).1
 tkn:∀k (h:k<s.bl.length),(gv r.all k=0↔(s.bl[k]'h).2=true)
 g0:∀k,k<s.bl.length→0≤gv r.all k∧gv r.all k≤r.ck
 ck0:0≤r.ck
 ord:∀n,(s.R n).Pairwise (fun x y=>gv r.all (x.toNat - 1)<gv r.all (y.toNat - 1))
theorem take_snoc' (l:List (Int×Bool)) (k:Nat) (h:k<l.length):l.take (k+1)=l.take k++[l[k]'h]:=by
 rw[List.take_add_one,List.getElem?_eq_getElem h];rfl
theorem Sim.rl {sp:Int} {s:St} {r:Rs} (h:Sim sp s r) (k:Nat) (hk:k≤s.bl.length):rl r k=sp+tk (s.bl.take k):=by
 induction k with
 | zero=>simp[H.rl,tk,h.spe]
 | succ k ih=>
   have hk2:k<s.bl.length:=by omega
   have h1:=h.cel k hk2
   have h2:((r.all.getD k (0,0)).2=0↔(s.bl[k]'hk2).2=true):=h.tkn k hk2
   rw[take_snoc' s.bl k hk2,tk_app]
   simp only[H.rl,ih (by omega),tk,h1]
   by_cases ht:(s.bl[k]'hk2).2=true
   ·rw[if_pos (h2.2 ht),if_pos ht];omega
   ·rw[if_neg (fun q=>ht (h2.1 q)),if_neg ht];omega
theorem Sim.live {sp:Int} {s:St} {r:Rs} (h:Sim sp s r) (iv:Inv sp s):rlv r=s.live:=by
 unfold rlv
 rw[h.len,h.rl _ (Nat.le_refl _),List.take_length,iv.live]
theorem Sim.E {sp:Int} {s:St} {r:Rs} (h:Sim sp s r) (iv:Inv sp s) (n:Int):rE r n=takeE s n:=by
 unfold rE takeE
 rw[h.live iv,h.lim]
theorem Sim.ok {sp:Int} {s:St} {r:Rs} (h:Sim sp s r) (iv:Inv sp s):Rok r:=by
 have h1:=tk_le s.bl (fun k hk=>by have:=iv.cells k hk;omega)
 have:=iv.live
 have:=iv.l1
 have:=iv.l2
 have:=iv.sp0
 refine ⟨by rw[h.spe];omega,by rw[h.spe];omega,fun i hi=>?_⟩
 rw[h.len] at hi
 have:=iv.cells i hi
 rw[h.cel i hi]
 omega
theorem best_spec (l:List (Int×Int)) (n:Int) (m:Nat):(best l n m=-1∧∀i,i<m→¬((l.getD i (0,0)).1=n∧0<gv l i))∨∃b:Nat,best l n m=b∧b<m∧(l.getD b (0,0)).1=n∧0<gv l b∧∀i,i<m→(l.getD i (0,0)).1=n→0<gv l i→gv l i≤gv l b:=by
 induction m with
 | zero=>exact .inl ⟨rfl,fun i hi=>absurd hi (by omega)⟩
 | succ m ih=>
   have hb:best l n (m+1)=if (l.getD m (0,0)).1=n∧0<gv l m∧(best l n m<0∨gv l (best l n m).toNat<gv l m) then (m:Int) else best l n m:=rfl
   rw[hb]
   rcases ih with ⟨h1,h2⟩ | ⟨b,h1,h2,h3,h4,h5⟩
   ·rw[h1]
    by_cases hq:(l.getD m (0,0)).1=n∧0<gv l m
    ·rw[if_pos ⟨hq.1,hq.2,.inl (by omega)⟩]
     refine .inr ⟨m,rfl,by omega,hq.1,hq.2,fun i hi h3 h4=>?_⟩
     by_cases him:i=m
     ·subst him;exact Int.le_refl _
     ·exact absurd ⟨h3,h4⟩ (h2 i (by omega))
    ·rw[if_neg (fun q=>hq ⟨q.1,q.2.1⟩)]
     refine .inl ⟨rfl,fun i hi=>?_⟩
     by_cases him:i=m
     ·subst him;exact hq
     ·exact h2 i (by omega)
   ·rw[h1]
    by_cases hq:(l.getD m (0,0)).1=n∧0<gv l m∧gv l b<gv l m
    ·rw[if_pos ⟨hq.1,hq.2.1,.inr (by rw[Int.toNat_natCast];exact hq.2.2)⟩]
     refine .inr ⟨m,rfl,by omega,hq.1,hq.2.1,fun i hi h6 h7=>?_⟩
     by_cases him:i=m
     ·subst him;exact Int.le_refl _
     ·have:=h5 i (by omega) h6 h7
      have:=hq.2.2
      omega
    ·rw[if_neg (fun q=>hq ⟨q.1,q.2.1,by rcases q.2.2 with q2 | q2;omega;rwa [Int.toNat_natCast] at q2⟩)]
     refine .inr ⟨b,rfl,by omega,h3,h4,fun i hi h6 h7=>?_⟩
     by_cases him:i=m
     ·subst him
      rcases Int.lt_or_le (gv l b) (gv l i) with q | q
      ·exact absurd ⟨h6,h7,q⟩ hq
      ·exact q
     ·exact h5 i (by omega) h6 h7
theorem Sim.free {sp:Int} {s:St} {r:Rs} (h:Sim sp s r) (k:Nat) (hk:k<s.bl.length) (hg:0<gv r.all k):s.bl[k]'hk=((r.all.getD k (0,0)).1,false):=by
 have h2:=h.tkn k hk
 refine Prod.ext (h.cel k hk).symm ?_
 cases q:(s.bl[k]'hk).2 with
 | false=>rfl
 | true=>have:=h2.2 q;omega
theorem Sim.pos {sp:Int} {s:St} {r:Rs} (h:Sim sp s r) (k:Nat) (hk:k<s.bl.length) (hf:(s.bl[k]'hk).2=false):0<gv r.all k:=by
 have h1:=(h.g0 k hk).1
 rcases Int.lt_or_le 0 (gv r.all k) with q | q
 ·exact q
 ·have :gv r.all k=0:=by omega
  have:=(h.tkn k hk).1 this
  rw[hf] at this;cases this
theorem Sim.best {sp:Int} {s:St} {r:Rs} (h:Sim sp s r) (iv:Inv sp s) (n:Int):(s.R n=[]→H.best r.all n r.all.length=-1)∧∀zs (k:Nat),s.R n=zs++[(k:Int)+1]→H.best r.all n r.all.length=k:=by
 have hs:=best_spec r.all n r.all.length
 refine ⟨fun hR=>?_,fun zs k hR=>?_⟩
 ·rcases hs with ⟨e,_⟩ | ⟨b,e,h1,h2,h3,_⟩
  ·exact e
  ·exfalso
   rw[h.len] at h1
   have:=h.free b h1 h3
   rw[h2] at this
   have:=iv.all n b h1 this
   rw[hR] at this
   cases this
 ·obtain ⟨k',e,hk,hb⟩:=iv.ids n ((k:Int)+1) (by rw[hR];simp)
  obtain rfl:k'=k:=by omega
  have hpos:=h.pos k' hk (by rw[hb])
  have hcel:=h.cel k' hk
  rw[hb] at hcel
  rcases hs with ⟨_,h2⟩ | ⟨b,e,h1,h2,h3,h4⟩
  ·exact absurd ⟨hcel,hpos⟩ (h2 k' (by rw[h.len];exact hk))
  ·have hge:=h4 k' (by rw[h.len];exact hk) hcel hpos
   rw[h.len] at h1
   have hf:=h.free b h1 h3
   rw[h2] at hf
   have hm:=iv.all n b h1 hf
   rw[hR] at hm
   rcases List.mem_append.1 hm with q | q
   ·exfalso
    have ho:=h.ord n
    rw[hR,List.pairwise_append] at ho
    have:=ho.2.2 _ q _ (List.mem_singleton.2 rfl)
    rw[show ((b:Int)+1).toNat - 1=b by omega,show ((k':Int)+1).toNat - 1=k' by omega] at this
    omega
   ·simp at q
    rw[e,q]
theorem gv_set (l:List (Int×Int)) (k j:Nat) (t:Int) (hk:k<l.length):gv (setG l k t) j=(if j=k then t else gv l j)∧((setG l k t).getD j (0,0)).1=(l.getD j (0,0)).1:=by
 unfold gv
 rw[setG_eq l k hk]
 by_cases h:j=k
 ·subst h
  rw[if_pos rfl]
  simp[List.getD,hk]
 ·rw[if_neg h]
  simp[List.getD,List.getElem?_set_ne (fun e=>h e.symm)]
theorem Sim.new (n:Int):Sim 0 (newSt n) ⟨n,0,0,[]⟩:=
 ⟨rfl,rfl,rfl,fun k h=>absurd h (by simp[newSt]),fun k h=>absurd h (by simp[newSt]),fun k h=>absurd h (by simp[newSt]),Int.le_refl _,fun n=>List.Pairwise.nil⟩
theorem takeSt_bad {s:St} {n:Int} (h:takeE s n≠0∨n=0):takeSt s n=s∧takeId s n=0:=by
 unfold takeSt takeId
 unfold takeE at h
 by_cases h0:n<0
 ·rw[if_pos h0,if_pos h0];exact ⟨rfl,rfl⟩
 ·rw[if_neg h0] at h⊢
  rw[if_neg h0]
  by_cases h1:s.lim - s.live<n
  ·rw[if_pos h1,if_pos h1];exact ⟨rfl,rfl⟩
  ·rw[if_neg h1] at h⊢
   rw[if_neg h1]
   rcases h with h | h
   ·exact absurd rfl h
   ·rw[if_pos h,if_pos h];exact ⟨rfl,rfl⟩
theorem takeE_zero {s:St} {n:Int} (h:takeE s n=0):0≤n∧n≤s.lim - s.live:=by
 unfold takeE at h
 by_cases q1:n<0
 ·rw[if_pos q1] at h;omega
 ·rw[if_neg q1] at h
  by_cases q2:s.lim - s.live<n
  ·rw[if_pos q2] at h;omega
  ·omega
theorem Sim.take {sp:Int} {s:St} {r:Rs} (h:Sim sp s r) (iv:Inv sp s) (n:Int):Sim sp (takeSt s n) (rtSt r n)∧rtId r n=takeId s n:=by
 have hE:=h.E iv n
 unfold rtSt rtId
 by_cases hn:takeE s n≠0∨n=0
 ·rw[hE,if_pos hn,if_pos hn,(takeSt_bad hn).1,(takeSt_bad hn).2]
  exact ⟨h,rfl⟩
 ·rw[hE,if_neg hn,if_neg hn]
  have hz:takeE s n=0:=by
   by_cases q:takeE s n=0
   ·exact q
   ·exact absurd (.inl q) hn
  have hb:=takeE_zero hz
  have h0:1≤n:=by
   rcases Int.lt_or_le 0 n with q | q
   ·omega
   ·exact absurd (.inr (by omega)) hn
  rcases List.eq_nil_or_concat (s.R n) with hR | ⟨zs,x,hR⟩
  ·obtain ⟨e1,e2,_⟩:=take_new h0 hb.2 hR
   rw[(h.best iv n).1 hR,if_pos (by omega),if_pos (by omega),e1,e2,h.len]
   refine ⟨?_,rfl⟩
   have hgv:∀k,k<s.bl.length→gv (r.all++[(n,0)]) k=gv r.all k∧((r.all++[(n,0)]).getD k (0,0)).1=(r.all.getD k (0,0)).1:=fun k hk=>by
    unfold gv
    rw[List.getD,List.getElem?_append_left (by rw[h.len];exact hk)]
    exact ⟨rfl,rfl⟩
   have hlast:(r.all++[(n,(0:Int))]).getD s.bl.length (0,0)=(n,0):=by
    rw[List.getD,List.getElem?_append_right (by rw[h.len];exact Nat.le_refl _),h.len,Nat.sub_self];rfl
   have hget:∀(k:Nat) (hk:k<(s.bl++[(n,true)]).length),(k=s.bl.length∧(s.bl++[(n,true)])[k]=(n,true))∨∃hk2:k<s.bl.length,(s.bl++[(n,true)])[k]=s.bl[k]'hk2:=fun k hk=>by
    by_cases hk2:k<s.bl.length
    ·exact .inr ⟨hk2,List.getElem_append_left hk2⟩
    ·left
     have hk3:k=s.bl.length:=by simp at hk;omega
     subst hk3
     exact ⟨rfl,by simp⟩
   refine ⟨h.lim,h.spe,by simp[h.len],fun k hk=>?_,fun k hk=>?_,fun k hk=>?_,h.ck0,fun m=>?_⟩
   ·show ((r.all++[(n,(0:Int))]).getD k (0,0)).1=((s.bl++[(n,true)])[k]'hk).1
    rcases hget k hk with ⟨e,e2⟩ | ⟨hk2,e2⟩
    ·rw[e2,e,hlast]
    ·rw[e2,(hgv k hk2).2];exact h.cel k hk2
   ·show gv (r.all++[(n,0)]) k=0↔((s.bl++[(n,true)])[k]'hk).2=true
    rcases hget k hk with ⟨e,e2⟩ | ⟨hk2,e2⟩
    ·rw[e2,e]
     unfold gv
     rw[hlast]
     simp
    ·rw[e2,(hgv k hk2).1];exact h.tkn k hk2
   ·show 0≤gv (r.all++[(n,0)]) k∧gv (r.all++[(n,0)]) k≤r.ck
    rcases hget k hk with ⟨e,e2⟩ | ⟨hk2,e2⟩
    ·rw[e]
     unfold gv
     rw[hlast]
     exact ⟨Int.le_refl _,h.ck0⟩
    ·rw[(hgv k hk2).1];exact h.g0 k hk2
   ·refine List.Pairwise.imp_of_mem ?_ (h.ord m)
    intro x y hx hy hxy
    obtain ⟨k1,e1,hk1,_⟩:=iv.ids m x hx
    obtain ⟨k2,e2,hk2,_⟩:=iv.ids m y hy
    rw[e1,e2,show ((k1:Int)+1).toNat - 1=k1 by omega,show ((k2:Int)+1).toNat - 1=k2 by omega] at hxy⊢
    show gv (r.all++[(n,0)]) k1<gv (r.all++[(n,0)]) k2
    rw[(hgv k1 hk1).1,(hgv k2 hk2).1];exact hxy
  ·rw[List.concat_eq_append] at hR
   obtain ⟨k,rfl,hk,hbk⟩:=iv.ids n x (by rw[hR];simp)
   obtain ⟨e1,e2,_⟩:=take_old h0 hb.2 hR
   rw[(h.best iv n).2 zs k hR,if_neg (by omega),if_neg (by omega),e1,e2,Int.toNat_natCast]
   refine ⟨?_,rfl⟩
   have hkl:k<r.all.length:=by rw[h.len];exact hk
   have hnd:=iv.nodup n
   rw[hR,List.nodup_append] at hnd
   refine ⟨h.lim,h.spe,?_,fun j hj=>?_,fun j hj=>?_,fun j hj=>?_,h.ck0,fun m=>?_⟩
   ·show (setG r.all k 0).length=(setT s.bl k true).length
    rw[setG_len,setT_len];exact h.len
   ·have hj2:j<s.bl.length:=by have:=hj;simp only[setT_len] at this;exact this
    show ((setG r.all k 0).getD j (0,0)).1=((setT s.bl k true)[j]'hj).1
    rw[(gv_set r.all k j 0 hkl).2,setT_get s.bl k j true hk hj,h.cel j hj2]
    by_cases hjk:j=k
    ·subst hjk;rw[if_pos rfl]
    ·rw[if_neg hjk]
   ·have hj2:j<s.bl.length:=by have:=hj;simp only[setT_len] at this;exact this
    show gv (setG r.all k 0) j=0↔((setT s.bl k true)[j]'hj).2=true
    rw[(gv_set r.all k j 0 hkl).1,setT_get s.bl k j true hk hj]
    by_cases hjk:j=k
    ·rw[if_pos hjk,if_pos hjk];simp
    ·rw[if_neg hjk,if_neg hjk];exact h.tkn j hj2
   ·have hj2:j<s.bl.length:=by have:=hj;simp only[setT_len] at this;exact this
    show 0≤gv (setG r.all k 0) j∧gv (setG r.all k 0) j≤r.ck
    rw[(gv_set r.all k j 0 hkl).1]
    by_cases hjk:j=k
    ·rw[if_pos hjk];exact ⟨Int.le_refl _,h.ck0⟩
    ·rw[if_neg hjk];exact h.g0 j hj2
   ·show (if m=n then zs else s.R m).Pairwise _
    have hsub:(if m=n then zs else s.R m).Pairwise (fun x y=>gv r.all (x.toNat - 1)<gv r.all (y.toNat - 1)):=by
     by_cases hm:m=n
     ·rw[if_pos hm]
      have:=h.ord n
      rw[hR,List.pairwise_append] at this
      exact this.1
     ·rw[if_neg hm];exact h.ord m
    have hmem:∀x,x∈(if m=n then zs else s.R m)→∃j:Nat,x=(j:Int)+1∧j≠k:=fun x hx=>by
     by_cases hm:m=n
     ·rw[if_pos hm] at hx
      obtain ⟨j,e,hj,_⟩:=iv.ids n x (by rw[hR];simp[hx])
      exact ⟨j,e,fun e2=>hnd.2.2 _ hx _ (List.mem_singleton.2 rfl) (by rw[e,e2])⟩
     ·rw[if_neg hm] at hx
      obtain ⟨j,e,hj,hb2⟩:=iv.ids m x hx
      refine ⟨j,e,fun e2=>?_⟩
      subst e2
      rw[hbk] at hb2
      injection hb2 with hb2
      exact hm hb2.symm
    refine List.Pairwise.imp_of_mem ?_ hsub
    intro x y hx hy hxy
    obtain ⟨k1,e1,hk1⟩:=hmem x hx
    obtain ⟨k2,e2,hk2⟩:=hmem y hy
    rw[e1,e2,show ((k1:Int)+1).toNat - 1=k1 by omega,show ((k2:Int)+1).toNat - 1=k2 by omega] at hxy⊢
    show gv (setG r.all k 0) k1<gv (setG r.all k 0) k2
    rw[(gv_set r.all k k1 0 hkl).1,(gv_set r.all k k2 0 hkl).1,if_neg hk1,if_neg hk2];exact hxy
theorem Sim.given {sp:Int} {s:St} {r:Rs} (h:Sim sp s r) (id:Int):rGiven r id↔Given s id:=by
 unfold rGiven Given
 rw[h.len]
 refine and_congr_right fun h1=>and_congr_right fun h2=>?_
 have hk:id.toNat - 1<s.bl.length:=by omega
 have h3:=h.tkn _ hk
 have h4:=h.g0 _ hk
 unfold gv at h3 h4
 have e:s.bl.getD (id.toNat - 1) (0,false)=s.bl[id.toNat - 1]'hk:=by rw[List.getD,List.getElem?_eq_getElem hk];rfl
 rw[e,←h3]
 omega
theorem Sim.giveE {sp:Int} {s:St} {r:Rs} (h:Sim sp s r) (id:Int):rgE r id=H.giveE s id:=by
 unfold rgE H.giveE
 by_cases h0:id=0
 ·rw[if_pos h0,if_pos h0]
 ·rw[if_neg h0,if_neg h0]
  by_cases hg:Given s id
  ·rw[if_pos ((h.given id).2 hg),if_pos hg]
  ·rw[if_neg (fun q=>hg ((h.given id).1 q)),if_neg hg]
theorem Sim.give {sp:Int} {s:St} {r:Rs} (h:Sim sp s r) (iv:Inv sp s) (id:Int):Sim sp (giveSt s id) (rgSt r id):=by
 by_cases hg:Given s id
 ·unfold rgSt
  rw[if_pos ((h.given id).2 hg)]
  obtain ⟨k,rfl⟩:∃k:Nat,id=(k:Int)+1:=⟨id.toNat - 1,by have:=hg.1;omega⟩
  have hk:k<s.bl.length:=by have:=hg.2.1;omega
  have ek:((k:Int)+1).toNat - 1=k:=by omega
  have ht:(s.bl[k]'hk).2=true:=by
   have:=hg.2.2
   rwa [ek,List.getD,List.getElem?_eq_getElem hk] at this
  rw[(give_at hk ht).2,ek]
  obtain ⟨x,hx⟩:∃x,(s.bl[k]'hk).1=x:=⟨_,rfl⟩
  have hb:s.bl[k]'hk=(x,true):=Prod.ext hx ht
  rw[hx]
  have hkl:k<r.all.length:=by rw[h.len];exact hk
  have hck:=h.ck0
  have hnot:∀(n:Int) (j:Nat),(j:Int)+1∈s.R n→j≠k:=fun n j q e=>by
   obtain ⟨j',e2,hj,hb2⟩:=iv.ids n _ q
   have :j'=k:=by omega
   subst this
   rw[hb] at hb2
   injection hb2 with _ hb2
   cases hb2
  have hgvs:∀j,gv (setG r.all k (r.ck+1)) j=if j=k then r.ck+1 else gv r.all j:=fun j=>(gv_set r.all k j _ hkl).1
  refine ⟨h.lim,h.spe,?_,fun j hj=>?_,fun j hj=>?_,fun j hj=>?_,by show 0≤r.ck+1;omega,fun m=>?_⟩
  ·show (setG r.all k (r.ck+1)).length=(setT s.bl k false).length
   rw[setG_len,setT_len];exact h.len
  ·have hj2:j<s.bl.length:=by have:=hj;simp only[setT_len] at this;exact this
   show ((setG r.all k (r.ck+1)).getD j (0,0)).1=((setT s.bl k false)[j]'hj).1
   rw[(gv_set r.all k j _ hkl).2,setT_get s.bl k j false hk hj,h.cel j hj2]
   by_cases hjk:j=k
   ·subst hjk;rw[if_pos rfl]
   ·rw[if_neg hjk]
  ·have hj2:j<s.bl.length:=by have:=hj;simp only[setT_len] at this;exact this
   show gv (setG r.all k (r.ck+1)) j=0↔((setT s.bl k false)[j]'hj).2=true
   rw[hgvs,setT_get s.bl k j false hk hj]
   by_cases hjk:j=k
   ·rw[if_pos hjk,if_pos hjk];simp;omega
   ·rw[if_neg hjk,if_neg hjk];exact h.tkn j hj2
  ·have hj2:j<s.bl.length:=by have:=hj;simp only[setT_len] at this;exact this
   show 0≤gv (setG r.all k (r.ck+1)) j∧gv (setG r.all k (r.ck+1)) j≤r.ck+1
   rw[hgvs]
   by_cases hjk:j=k
   ·rw[if_pos hjk];omega
   ·rw[if_neg hjk];have:=h.g0 j hj2;omega
  ·have hold:∀m,(s.R m).Pairwise (fun a b=>gv (setG r.all k (r.ck+1)) (a.toNat - 1)<gv (setG r.all k (r.ck+1)) (b.toNat - 1)):=fun m=>by
    refine List.Pairwise.imp_of_mem ?_ (h.ord m)
    intro a b ha hb3 hab
    obtain ⟨k1,e1,hk1,_⟩:=iv.ids m a ha
    obtain ⟨k2,e2,hk2,_⟩:=iv.ids m b hb3
    rw[e1] at ha
    rw[e2] at hb3
    rw[e1,e2,show ((k1:Int)+1).toNat - 1=k1 by omega,show ((k2:Int)+1).toNat - 1=k2 by omega] at hab⊢
    rw[hgvs,hgvs,if_neg (hnot m k1 ha),if_neg (hnot m k2 hb3)];exact hab
   show (if m=x then s.R x++[(k:Int)+1] else s.R m).Pairwise _
   by_cases hm:m=x
   ·rw[if_pos hm,List.pairwise_append]
    refine ⟨hold x,List.pairwise_singleton _ _,fun a ha b hb3=>?_⟩
    rw[List.mem_singleton.1 hb3]
    obtain ⟨k1,e1,hk1,_⟩:=iv.ids x a ha
    rw[e1] at ha
    rw[e1,show ((k1:Int)+1).toNat - 1=k1 by omega,ek]
    show gv (setG r.all k (r.ck+1)) k1<gv (setG r.all k (r.ck+1)) k
    rw[hgvs,hgvs,if_neg (hnot x k1 ha),if_pos rfl]
    have:=(h.g0 k1 hk1).2
    omega
   ·rw[if_neg hm];exact hold m
 ·unfold rgSt giveSt
  rw[if_neg (fun q=>hg ((h.given id).1 q)),if_neg hg]
  exact h
end Go.Proofs.YtkmopcanaalemabGreat.H


namespace Go.Proofs.YtkmopcanaalemabGreat
open Go.RowKit
abbrev zp:Value:=.agg #[.slice none 0 0,.pointer none,.int .i64 0,.int .i64 0]
abbrev zo:Obj:=.cells #[.slice none 0 0,.pointer none,.int .i64 0,.int .i64 0] 97
abbrev pv (n A b:Nat) (x y:Int):Value:=.agg #[.slice (some ⟨A,0,none⟩) n n,.pointer (some ⟨b,0,none⟩),.int .i64 x,.int .i64 y]
structure R4 (w:World) (N:Nat) (q0 q1 q2 q3:Value):Prop where
 c0:w.cell? ⟨N,0,none⟩=some q0
 c1:w.cell? ⟨N,1,none⟩=some q1
 c2:w.cell? ⟨N,2,none⟩=some q2
 c3:w.cell? ⟨N,3,none⟩=some q3
 fz:∀j,w.frozen? ⟨N,j,none⟩=false
 lt:N<w.heap.size
theorem R4.kept {No:Nat→Prop} {w w':World} {N:Nat} {q0 q1 q2 q3:Value} (h:R4 w N q0 q1 q2 q3) (k:Keep No w w') (hn:No N):R4 w' N q0 q1 q2 q3:=by
 have e:=k.block N h.lt hn
 exact ⟨by rw[World.cell?_of_block (w:=w) e];exact h.c0,by rw[World.cell?_of_block (w:=w) e];exact h.c1,by rw[World.cell?_of_block (w:=w) e];exact h.c2,by rw[World.cell?_of_block (w:=w) e];exact h.c3,fun j=>by rw[World.frozen?_of_block (w:=w) e];exact h.fz j,Nat.lt_of_lt_of_le h.lt k.size⟩
theorem R4.below {w w':World} {N:Nat} {q0 q1 q2 q3:Value} (h:R4 w N q0 q1 q2 q3) (k:Below w.heap.size w w'):R4 w' N q0 q1 q2 q3:=h.kept (No:=fun _=>True) (Keep.of k) trivial
theorem R4.made (w:World) (q0 q1 q2 q3:Value) (t:TypeId):R4 (w.alloc (.cells #[q0,q1,q2,q3] t)) w.heap.size q0 q1 q2 q3:=by
 have h:=(MapKept.heap_alloc w (.cells #[q0,q1,q2,q3] t)).1
 exact ⟨cell_of_row h 0,cell_of_row h 1,cell_of_row h 2,cell_of_row h 3,fun j=>new_free w _ _ j,by simp⟩
abbrev set4 (w:World) (N:Nat) (q0 q1 q2 q3:Value):World:=(((w.setCell ⟨N,0,none⟩ q0).setCell ⟨N,1,none⟩ q1).setCell ⟨N,2,none⟩ q2).setCell ⟨N,3,none⟩ q3
theorem R4.set {w:World} {N:Nat} {p0 p1 p2 p3:Value} (h:R4 w N p0 p1 p2 p3) (q0 q1 q2 q3:Value):R4 (set4 w N q0 q1 q2 q3) N q0 q1 q2 q3:=by
 have ne:∀(i j:Nat) (W:World) (v:Value),i≠j→(W.setCell ⟨N,i,none⟩ v).cell? ⟨N,j,none⟩=W.cell? ⟨N,j,none⟩:=fun i j W v hij=>World.cell?_setCell_other _ _ _ _ (fun q=>by injection q with _ q2;omega)
 refine ⟨?_,?_,?_,?_,fun j=>by simpa using h.fz j,by simpa [World.setCell] using h.lt⟩
 ·rw[ne 3 0 _ _ (by omega),ne 2 0 _ _ (by omega),ne 1 0 _ _ (by omega)];exact World.cell?_setCell_same _ _ _ h.c0
 ·rw[ne 3 1 _ _ (by omega),ne 2 1 _ _ (by omega)];exact World.cell?_setCell_same _ _ _ (by rw[ne 0 1 _ _ (by omega)];exact h.c1)
 ·rw[ne 3 2 _ _ (by omega)];exact World.cell?_setCell_same _ _ _ (by rw[ne 1 2 _ _ (by omega),ne 0 2 _ _ (by omega)];exact h.c2)
 ·exact World.cell?_setCell_same _ _ _ (by rw[ne 2 3 _ _ (by omega),ne 1 3 _ _ (by omega),ne 0 3 _ _ (by omega)];exact h.c3)
theorem Keep.set4 {No:Nat→Prop} {w w1:World} (h:Keep No w w1) {N:Nat} (hN:¬No N) (q0 q1 q2 q3:Value):Keep No w (set4 w1 N q0 q1 q2 q3):=
 (((h.set (p:=⟨N,0,none⟩) hN _).set (p:=⟨N,1,none⟩) hN _).set (p:=⟨N,2,none⟩) hN _).set (p:=⟨N,3,none⟩) hN _
theorem Hp.set4 {No:Nat→Prop} {w:World} {S b c:Nat} {vb:Value} {s:H.St} (h:H.Hp No w S b c vb s) {N:Nat} (hN:No N) (q0 q1 q2 q3:Value):H.Hp No (Proofs.YtkmopcanaalemabGreat.set4 w N q0 q1 q2 q3) S b c vb s:=
 (((h.sets N 0 q0 hN).sets N 1 q1 hN).sets N 2 q2 hN).sets N 3 q3 hN
set_option maxRecDepth 20000 in
set_option maxHeartbeats 2000000 in
theorem tp_bad1 {No:Nat→Prop} {w:World} {S hb c:Nat} {vb:Value} {s:H.St} {sp:Int} (h:H.Hp No w S hb c vb s) (hc:c≤900000) (iv:H.Inv sp s) (A Z:Nat) (he:H.takeE s (A:Nat)≠0):
 Calls Tryz.prog 45 #[.pointer (some ⟨S,0,none⟩),.int .i64 (A:Nat),.int .i64 (Z:Nat)] w fun e w'=>e= .returned (.tuple #[zp,.int .i64 (H.takeE s (A:Nat))])∧(∃v',H.Hp No w' S hb (c+1) v' s)∧Keep No w w':=by
 have C:=H.take_any (h.made zo) (by omega) iv.ok (A:Nat)
 rw[(H.takeSt_bad (.inl he)).1] at C
 have HN:Hid (¬No w.heap.size):=fun q=>Nat.lt_irrefl _ (h.nos _ q)
 have HR:Hid (R4 (w.alloc zo) w.heap.size (.slice none 0 0) (.pointer none) (.int .i64 0) (.int .i64 0)):=R4.made _ _ _ _ _ _
 have HK0:Hid (Keep No w (w.alloc zo)):=(Keep.refl No w).alloc zo
 generalize H.takeE s (A:Nat)=E at *
 generalize H.takeId s (A:Nat)=I at *
 clear h iv
 unfold zp
 unfold zo at *
 generalize hsz:w.heap.size=N at *
 obtain ⟨W0,hW0⟩:∃W0,w.alloc (.cells #[.slice none 0 0,.pointer none,.int .i64 0,.int .i64 0] 97)=W0:=⟨_,rfl⟩
 rw[hW0] at C HR HK0
 go_enter Tryz.func45,Tryz.ntmps45
 go_wp2_with fail
 refine C.mono ?_;rintro e W1 ⟨rfl,⟨v',hp⟩,hkk⟩
 have R1:=HR.out.kept (kh hkk) (.inr rfl)
 have HP:Hid _:=Hp.sub (No':=No) (Hp.set4 hp (N:=N) (.inr rfl) (.slice none 0 0) (.pointer none) (.int .i64 0) (.int .i64 0)) (fun g q=>.inl q)
 have HK:Hid _:=Keep.set4 (HK0.out.trans ((kh hkk).sub (No':=No) fun g q=>.inl q)) HN.out (.slice none 0 0) (.pointer none) (.int .i64 0) (.int .i64 0)
 obtain ⟨W2,hW2⟩:∃W2,set4 W1 N (.slice none 0 0) (.pointer none) (.int .i64 0) (.int .i64 0)=W2:=⟨_,rfl⟩
 have R2:Hid _:=R1.set (.slice none 0 0) (.pointer none) (.int .i64 0) (.int .i64 0)
 rw[hW2] at HP HK R2
 unfold set4 at hW2
 have r0:=R1.c0
 have r1:=R1.c1
 have r2:=R1.c2
 have r3:=R1.c3
 have rf:=R1.fz
 clear C hp hkk R1
 go_wp2_with fail
 have R3:=R2.out
 have t0:=R3.c0
 have t1:=R3.c1
 have t2:=R3.c2
 have t3:=R3.c3
 clear R3
 refine bodyPost_ret (v:=.tuple #[.agg #[.slice none 0 0,.pointer none,.int .i64 0,.int .i64 0],.int .i64 E]) (by simp[results,Tryz.results45,go_sem,t0,t1,t2,t3]) rfl ⟨rfl,⟨v',HP.out⟩,HK.out⟩
set_option maxRecDepth 20000 in
set_option maxHeartbeats 2000000 in
theorem tp_bad2 {No:Nat→Prop} {w:World} {S hb c:Nat} {vb:Value} {s:H.St} {sp:Int} (h:H.Hp No w S hb c vb s) (hc:c≤900000) (iv:H.Inv sp s) (A Z:Nat) (hZ:Z≤65536) (he:H.takeE s (A:Nat)=0) (he2:H.takeE (H.takeSt s (A:Nat)) (3 * (Z:Nat))≠0):
 Calls Tryz.prog 45 #[.pointer (some ⟨S,0,none⟩),.int .i64 (A:Nat),.int .i64 (Z:Nat)] w fun e w'=>e= .returned (.tuple #[zp,.int .i64 (H.takeE (H.takeSt s (A:Nat)) (3 * (Z:Nat)))])∧(∃v',H.Hp No w' S hb (c+3) v' (H.giveSt (H.takeSt s (A:Nat)) (H.takeId s (A:Nat))))∧Keep No w w':=by
 have C:=H.take_any (h.made zo) (by omega) iv.ok (A:Nat)
 have iv2:=iv.take (A:Nat)
 have C2:=fun W v' (h':H.Hp (fun g=>No g∨g=w.heap.size) W S hb (c+1) v' (H.takeSt s (A:Nat)))=>H.take_any h' (by omega) iv2.ok (3 * (Z:Nat))
 rw[(H.takeSt_bad (.inl he2)).1] at C2
 rw[he] at C
 have C3:=fun W v' (h':H.Hp (fun g=>No g∨g=w.heap.size) W S hb (c+1+1) v' (H.takeSt s (A:Nat)))=>H.give_any h' (by omega) iv2 (H.takeId s (A:Nat))
 have HN:Hid (¬No w.heap.size):=fun q=>Nat.lt_irrefl _ (h.nos _ q)
 have HR:Hid (R4 (w.alloc zo) w.heap.size (.slice none 0 0) (.pointer none) (.int .i64 0) (.int .i64 0)):=R4.made _ _ _ _ _ _
 have HK0:Hid (Keep No w (w.alloc zo)):=(Keep.refl No w).alloc zo
 have hw:IntKind.i64.wrap (3 * (Z:Int))=3 * (Z:Int):=by rw[IntKind.wrap_i64];omega
 generalize H.takeE (H.takeSt s (A:Nat)) (3 * (Z:Nat))=E at *
 generalize H.takeId s (A:Nat)=I at *
 generalize H.takeId (H.takeSt s (A:Nat)) (3 * (Z:Nat))=I2 at *
 generalize H.takeSt s (A:Nat)=s2 at *
 generalize H.giveE s2 I=E3 at *
 generalize H.giveSt s2 I=s3 at *
 clear h iv iv2 he
 unfold zp
 unfold zo at *
 generalize hsz:w.heap.size=N at *
 obtain ⟨W0,hW0⟩:∃W0,w.alloc (.cells #[.slice none 0 0,.pointer none,.int .i64 0,.int .i64 0] 97)=W0:=⟨_,rfl⟩
 rw[hW0] at C HR HK0
 go_enter Tryz.func45,Tryz.ntmps45
 go_wp2_with fail
 refine C.mono ?_;rintro e W1 ⟨rfl,⟨v1,hp⟩,hkk⟩
 have CC:=C2 W1 v1 hp
 have HR1:Hid _:=HR.out.kept (kh hkk) (.inr rfl)
 have HK1:Hid _:=HK0.out.trans ((kh hkk).sub (No':=No) fun g q=>.inl q)
 clear C C2 hp hkk HR HK0
 go_wp2_with fail
 refine CC.mono ?_;rintro e W2 ⟨rfl,⟨v2,hp⟩,hkk⟩
 have CD:=C3 W2 v2 hp
 have HR2:Hid _:=HR1.out.kept (kh hkk) (.inr rfl)
 have HK2:Hid _:=HK1.out.trans ((kh hkk).sub (No':=No) fun g q=>.inl q)
 clear CC C3 hp hkk HR1 HK1
 go_wp2_with fail
 refine CD.mono ?_;rintro e W3 ⟨rfl,⟨v3,hp⟩,hkk⟩
 have R1:=HR2.out.kept (kh hkk) (.inr rfl)
 have HP:Hid _:=Hp.sub (No':=No) (Hp.set4 hp (N:=N) (.inr rfl) (.slice none 0 0) (.pointer none) (.int .i64 0) (.int .i64 0)) (fun g q=>.inl q)
 have HK:Hid _:=Keep.set4 (HK2.out.trans ((kh hkk).sub (No':=No) fun g q=>.inl q)) HN.out (.slice none 0 0) (.pointer none) (.int .i64 0) (.int .i64 0)
 obtain ⟨W4,hW4⟩:∃W4,set4 W3 N (.slice none 0 0) (.pointer none) (.int .i64 0) (.int .i64 0)=W4:=⟨_,rfl⟩
 have R2:Hid _:=R1.set (.slice none 0 0) (.pointer none) (.int .i64 0) (.int .i64 0)
 rw[hW4] at HP HK R2
 unfold set4 at hW4
 have r0:=R1.c0
 have r1:=R1.c1
 have r2:=R1.c2
 have r3:=R1.c3
 have rf:=R1.fz
 clear CD hp hkk R1 HR2 HK2
 go_wp2_with fail
 have R3:=R2.out
 have t0:=R3.c0
 have t1:=R3.c1
 have t2:=R3.c2
 have t3:=R3.c3
 clear R3
 refine bodyPost_ret (v:=.tuple #[.agg #[.slice none 0 0,.pointer none,.int .i64 0,.int .i64 0],.int .i64 E]) (by simp[results,Tryz.results45,go_sem,t0,t1,t2,t3]) rfl ⟨rfl,⟨v3,HP.out⟩,HK.out⟩
structure Tk (No:Nat→Prop) (w w':World) (S hb c A Z Ab b a:Nat) (s:H.St):Prop where
 hp:∃v',H.Hp (fun g=>No g∨g=Ab∨g=b∨g=a) w' S hb c v' s
 keep:Keep No w w'
 sl:Rv w' Ab A (fun _=>nil)
 fA:∀j,w'.frozen? ⟨Ab,j,none⟩=false
 pt:Pt w' b a Z (g0 Z)
 ge:w.heap.size≤Ab∧w.heap.size≤b∧w.heap.size≤a
 ltA:Ab<w'.heap.size
 nAb:Ab≠b
 nAa:Ab≠a
 obj:w'.heap[Ab]?=some (.cells (zeros3 A) 36)
theorem zeros_rv {w:World} {b n:Nat} {t:TypeId} (h:w.heap[b]?=some (.cells (zeros3 n) t)):Rv w b n (fun _=>nil):=⟨fun i hi j hj=>by
 rw[cell_of_row h]
 have h1:i * 3+j<n * 3:=by omega
 have h2:i * 3<n * 3:=by omega
 have hm:(i * 3+j) % 3=j:=by omega
 rcases lt3 hj with rfl | rfl | rfl<;>simp[zeros3,madeCells,Value.cells,vc,nil,h1,h2,hm]⟩
theorem tk_of {No:Nat→Prop} {w W2 W3 W4 W5:World} {S hb c A Z N:Nat} {v:Value} {s:H.St} (hp:H.Hp (fun g=>(No g∨g=N)∨(W2.heap.size≤g∧g<W4.heap.size)) W5 S hb c v s) (hk:Keep No w W5) (hkl:Keep (fun x=>x≠N) W4 W5)
 (hA:W4.heap[W3.heap.size]?=some (.cells (zeros3 A) 36)) (hf:∀j,W4.frozen? ⟨W3.heap.size,j,none⟩=false) (hpt:Pt W3 (W2.heap.size+1) W2.heap.size Z (g0 Z)) (hb4:Below W3.heap.size W3 W4) (hk2:Keep No w W2) (hN:N<W2.heap.size) (hz:W3.heap.size<W4.heap.size):
 Tk No w W5 S hb c A Z W3.heap.size (W2.heap.size+1) W2.heap.size s:=by
 have s1:=hpt.ltb
 have s2:=hb4.size
 have s3:=hk2.size
 have s4:=hkl.size
 have e:=hkl.block W3.heap.size hz (by show W3.heap.size≠N;omega)
 refine ⟨⟨v,Hp.sub hp (fun g q=>?_)⟩,hk,?_,fun j=>?_,(hpt.below hb4).kept hkl (by show _≠N;omega) (by show _≠N;omega),by omega,by omega,by omega,by omega,e.trans hA⟩
 ·rcases q with q | q | q | q
  ·exact .inl (.inl q)
  ·exact .inr ⟨by omega,by omega⟩
  ·exact .inr ⟨by omega,by omega⟩
  ·exact .inr ⟨by omega,by omega⟩
 ·exact zeros_rv (e.trans hA)
 ·rw[World.frozen?_of_block (w:=W4) e];exact hf j
set_option maxRecDepth 20000 in
set_option maxHeartbeats 2000000 in
theorem tp_good {No:Nat→Prop} {w:World} {S hb c:Nat} {vb:Value} {s:H.St} {sp:Int} (h:H.Hp No w S hb c vb s) (hc:c≤900000) (iv:H.Inv sp s) (A Z:Nat) (hA:A≤65536) (hZ:Rt Z) (he:H.takeE s (A:Nat)=0) (he2:H.takeE (H.takeSt s (A:Nat)) (3 * (Z:Nat))=0):
 Calls Tryz.prog 45 #[.pointer (some ⟨S,0,none⟩),.int .i64 (A:Nat),.int .i64 (Z:Nat)] w fun e w'=>∃Ab b a,e= .returned (.tuple #[pv A Ab b (H.takeId s (A:Nat)) (H.takeId (H.takeSt s (A:Nat)) (3 * (Z:Nat))),.int .i64 0])∧
  Tk No w w' S hb (c+2) A Z Ab b a (H.takeSt (H.takeSt s (A:Nat)) (3 * (Z:Nat))):=by
 have C:=H.take_any (h.made zo) (by omega) iv.ok (A:Nat)
 have iv2:=iv.take (A:Nat)
 have C2:=fun W v' (h':H.Hp (fun g=>No g∨g=w.heap.size) W S hb (c+1) v' (H.takeSt s (A:Nat)))=>H.take_any h' (by omega) iv2.ok (3 * (Z:Nat))
 rw[he2] at C2
 rw[he] at C
 have CN:=fun W=>new_any Z W hZ
 have hZ2:=hZ.le
 have m1:=make_vals A hA
 have HN:Hid (¬No w.heap.size):=fun q=>Nat.lt_irrefl _ (h.nos _ q)
 have HR:Hid (R4 (w.alloc zo) w.heap.size (.slice none 0 0) (.pointer none) (.int .i64 0) (.int .i64 0)):=R4.made _ _ _ _ _ _
 have HK0:Hid (Keep No w (w.alloc zo)):=(Keep.refl No w).alloc zo
 have hw:IntKind.i64.wrap (3 * (Z:Int))=3 * (Z:Int):=by rw[IntKind.wrap_i64];omega
 generalize H.takeId s (A:Nat)=I at *
 generalize H.takeId (H.takeSt s (A:Nat)) (3 * (Z:Nat))=I2 at *
 generalize H.takeSt (H.takeSt s (A:Nat)) (3 * (Z:Nat))=s3 at *
 generalize H.takeSt s (A:Nat)=s2 at *
 clear h iv iv2 he he2
 unfold zo at *
 generalize hsz:w.heap.size=N at *
 obtain ⟨W0,hW0⟩:∃W0,w.alloc (.cells #[.slice none 0 0,.pointer none,.int .i64 0,.int .i64 0] 97)=W0:=⟨_,rfl⟩
 rw[hW0] at C HR HK0
 go_enter Tryz.func45,Tryz.ntmps45
 go_wp2_with fail
 refine C.mono ?_;rintro e W1 ⟨rfl,⟨v1,hp⟩,hkk⟩
 have CC:=C2 W1 v1 hp
 have HR1:Hid _:=HR.out.kept (kh hkk) (.inr rfl)
 have HK1:Hid _:=HK0.out.trans ((kh hkk).sub (No':=No) fun g q=>.inl q)
 clear C C2 hp hkk HR HK0
 go_wp2_with fail
 refine CC.mono ?_;rintro e W2 ⟨rfl,⟨v2,hp⟩,hkk⟩
 have CD:=CN W2
 have HR2:Hid _:=HR1.out.kept (kh hkk) (.inr rfl)
 have HK2:Hid _:=HK1.out.trans ((kh hkk).sub (No':=No) fun g q=>.inl q)
 have HP2:Hid _:=hp
 clear CC hp hkk HR1 HK1 CN
 unfold pp at CD
 go_wp2_with fail
 refine CD.mono ?_;rintro e W3 ⟨rfl,hW3⟩
 have HW3:Hid _:=hW3
 have HBn:Hid (Below W2.heap.size W2 W3):=by rw[hW3];exact newW_below _ _
 have HPt:Hid (Pt W3 (W2.heap.size+1) W2.heap.size Z (g0 Z)):=by rw[hW3];exact newW_pt _ _
 obtain ⟨zz,hzz⟩:∃zz,zeros3 A=zz:=⟨_,rfl⟩
 obtain ⟨W4,hW4⟩:∃W4,W3.alloc (.cells zz 36)=W4:=⟨_,rfl⟩
 have HB4:Hid (Below W3.heap.size W3 W4):=by rw[←hW4];exact b1 _ _
 have HA4:Hid (W4.heap[W3.heap.size]?=some (.cells (zeros3 A) 36)):=by rw[hzz,←hW4];exact (MapKept.heap_alloc W3 _).1
 have HF4:Hid (∀j,W4.frozen? ⟨W3.heap.size,j,none⟩=false):=by rw[←hW4];exact fun j=>new_free W3 _ _ j
 have HZ4:Hid (W3.heap.size<W4.heap.size):=by show _<_;rw[←hW4];simp
 rw[hzz] at m1
 have HBB:Hid (Below W2.heap.size W2 W4):=bthen HBn.out HBn.out.size HB4.out
 have R1:=HR2.out.below HBB.out
 have HPN:Hid _:=Hp.set4 (Hp.news HP2.out HBB.out) (N:=N) (.inl (.inr rfl)) (.slice (some ⟨W3.heap.size,0,none⟩) A A) (.pointer (some ⟨W2.heap.size+1,0,none⟩)) (.int .i64 I) (.int .i64 I2)
 have HK:Hid _:=Keep.set4 (HK2.out.bel HBB.out) HN.out (.slice (some ⟨W3.heap.size,0,none⟩) A A) (.pointer (some ⟨W2.heap.size+1,0,none⟩)) (.int .i64 I) (.int .i64 I2)
 have HKL:Hid _:=Keep.set4 (Keep.refl (fun x=>x≠N) W4) (N:=N) (fun q=>q rfl) (.slice (some ⟨W3.heap.size,0,none⟩) A A) (.pointer (some ⟨W2.heap.size+1,0,none⟩)) (.int .i64 I) (.int .i64 I2)
 have R2:Hid _:=R1.set (.slice (some ⟨W3.heap.size,0,none⟩) A A) (.pointer (some ⟨W2.heap.size+1,0,none⟩)) (.int .i64 I) (.int .i64 I2)
 obtain ⟨W5,hW5⟩:∃W5,set4 W4 N (.slice (some ⟨W3.heap.size,0,none⟩) A A) (.pointer (some ⟨W2.heap.size+1,0,none⟩)) (.int .i64 I) (.int .i64 I2)=W5:=⟨_,rfl⟩
 rw[hW5] at HPN HK R2 HKL
 unfold set4 at hW5
 have HL2:Hid (N<W2.heap.size):=HR2.out.lt
 have r0:=R1.c0
 have r1:=R1.c1
 have r2:=R1.c2
 have r3:=R1.c3
 have rf:=R1.fz
 clear CD hW3 R1 HR2
 go_wp2_with fail
 have R3:=R2.out
 have t0:=R3.c0
 have t1:=R3.c1
 have t2:=R3.c2
 have t3:=R3.c3
 clear R3
 refine bodyPost_ret (v:=.tuple #[.agg #[.slice (some ⟨W3.heap.size,0,none⟩) A A,.pointer (some ⟨W2.heap.size+1,0,none⟩),.int .i64 I,.int .i64 I2],.int .i64 0]) (by simp[results,Tryz.results45,go_sem,t0,t1,t2,t3]) rfl ⟨W3.heap.size,W2.heap.size+1,W2.heap.size,rfl,?_⟩
 exact tk_of HPN.out HK.out HKL.out HA4.out HF4.out HPt.out HB4.out HK2.out HL2.out HZ4.out
end Go.Proofs.YtkmopcanaalemabGreat


namespace Go.Proofs.YtkmopcanaalemabGreat
open Go.RowKit
structure Cw (W:World) (N:Nat) (l:List V):Prop where
 ci:∃v,W.cell? ⟨N,0,none⟩=some v∧W.ownsRow (N+2) 3 1 v (ints l).length ((ints l).map (Value.int .i64))
 co:W.cell? ⟨N+1,0,none⟩=some (.int .i64 (oth l:Nat))
 fi:∀j,W.frozen? ⟨N,j,none⟩=false
 fo:∀j,W.frozen? ⟨N+1,j,none⟩=false
 lt:N+2≤W.heap.size
theorem slice_shape {w:World} {base:Nat} {e:TypeId} {size:Nat} {v:Value} {n:Nat} {xs:List Value} (h:w.ownsRow base e size v n xs):∃a c,v= .slice a n c:=by
 rcases h.2 with ⟨rfl,rfl⟩ | ⟨g,cap,cur,rfl,_⟩
 ·exact ⟨_,_,rfl⟩
 ·exact ⟨_,_,rfl⟩
theorem Cw.below {W W':World} {N:Nat} {l:List V} (h:Cw W N l) (k:Below W.heap.size W W'):Cw W' N l:=by
 obtain ⟨⟨v,h1,h2⟩,h3,h4,h5,h6⟩:=h
 have e1:=k.block N (by omega)
 have e2:=k.block (N+1) (by omega)
 exact ⟨⟨v,by rw[World.cell?_of_block (w:=W) e1];exact h1,h2.kept ⟨k.os,k.tape,k.output,k.size,fun i hi _=>k.block i hi⟩ (row:=none) (by cases v.ownBlock<;>simp)⟩,by rw[World.cell?_of_block (w:=W) e2];exact h3,
  fun j=>by rw[World.frozen?_of_block (w:=W) e1];exact h4 j,fun j=>by rw[World.frozen?_of_block (w:=W) e2];exact h5 j,Nat.le_trans h6 k.size⟩
theorem enters61:∀args w,(callFunc 114 args).run Tryz.prog w= .ok (.enter 114 args) w:=enters_of Tryz.func114 (by kernel_rfl) rfl
theorem info3:(Tryz.prog.info? 3).map (fun i=>(i.zero,i.size,i.bytes))=some (some (.int .i64 0),1,8):=by kernel_rfl
theorem Cw.pay {W W':World} {N:Nat} {l l':List V} {v v':Value} (h:Cw W N l) (hc:W.cell? ⟨N,0,none⟩=some v) (hown:W.ownsRow (N+2) 3 1 v (ints l).length ((ints l).map (Value.int .i64)))
 (hg:W.grownBy W' v.ownBlock) (hown':W'.ownsRow (N+2) 3 1 v' (ints l').length ((ints l').map (Value.int .i64))) (ho:oth l'=oth l):Cw (W'.setCell ⟨N,0,none⟩ v') N l'∧Below N W (W'.setCell ⟨N,0,none⟩ v'):=by
 have hn:∀g,v.ownBlock=some g→N+2≤g:=fun g e=>(hown.lt g e).1
 have hn':∀g,v'.ownBlock=some g→N+2≤g:=fun g e=>(hown'.lt g e).1
 have e1:=hg.block N (by have:=h.lt;omega) (fun e=>by have:=hn N e.symm;omega)
 have e2:=hg.block (N+1) (by have:=h.lt;omega) (fun e=>by have:=hn (N+1) e.symm;omega)
 have c1:W'.cell? ⟨N,0,none⟩=some v:=by rw[World.cell?_of_block (w:=W) e1];exact hc
 refine ⟨⟨⟨v',World.cell?_setCell_same _ _ _ c1,?_⟩,?_,fun j=>?_,fun j=>?_,?_⟩,?_⟩
 ·refine hown'.kept (row:=some N) ⟨rfl,rfl,rfl,by simp[World.setCell],fun k _ hk=>Below.heap_setCell _ _ _ _ (fun e=>hk (by simp[e]))⟩ (.inr fun e=>?_)
  have:=hn' N e;omega
 ·rw[World.cell?_setCell_other _ _ _ _ (fun q=>by injection q with q1 _;omega),World.cell?_of_block (w:=W) e2,ho];exact h.co
 ·rw[show (W'.setCell ⟨N,0,none⟩ v').frozen? ⟨N,j,none⟩=W'.frozen? ⟨N,j,none⟩ by simp,World.frozen?_of_block (w:=W) e1];exact h.fi j
 ·rw[show (W'.setCell ⟨N,0,none⟩ v').frozen? ⟨N+1,j,none⟩=W'.frozen? ⟨N+1,j,none⟩ by simp,World.frozen?_of_block (w:=W) e2];exact h.fo j
 ·have:=h.lt;have:=hg.size;simp[World.setCell];omega
 ·refine ⟨hg.os,hg.tape,hg.output,by have:=hg.size;simp[World.setCell];omega,fun g hgN=>?_⟩
  rw[Below.heap_setCell _ _ _ _ (by show g≠N;omega)]
  exact hg.block g (by have:=h.lt;omega) (fun e=>by have:=hn g e.symm;omega)
theorem Cw.inc {W:World} {N:Nat} {l l':List V} (h:Cw W N l) (hi:ints l'=ints l) (ho:oth l'=oth l+1):Cw (W.setCell ⟨N+1,0,none⟩ (.int .i64 ((oth l:Int)+1))) N l'∧Below N W (W.setCell ⟨N+1,0,none⟩ (.int .i64 ((oth l:Int)+1))):=by
 obtain ⟨⟨v,h1,h2⟩,h3,h4,h5,h6⟩:=h
 have hn:∀g,v.ownBlock=some g→N+2≤g:=fun g e=>(h2.lt g e).1
 refine ⟨⟨⟨v,?_,?_⟩,?_,fun j=>?_,fun j=>?_,?_⟩,?_⟩
 ·rw[World.cell?_setCell_other _ _ _ _ (fun q=>by injection q with q1 _;omega)];exact h1
 ·rw[hi]
  refine h2.kept (row:=some (N+1)) ⟨rfl,rfl,rfl,by simp[World.setCell],fun k _ hk=>Below.heap_setCell _ _ _ _ (fun e=>hk (by simp[e]))⟩ (.inr fun e=>?_)
  have:=hn (N+1) e;omega
 ·rw[ho];exact World.cell?_setCell_same _ _ _ h3
 ·rw[show (W.setCell ⟨N+1,0,none⟩ (.int .i64 ((oth l:Int)+1))).frozen? ⟨N,j,none⟩=W.frozen? ⟨N,j,none⟩ by simp];exact h4 j
 ·rw[show (W.setCell ⟨N+1,0,none⟩ (.int .i64 ((oth l:Int)+1))).frozen? ⟨N+1,j,none⟩=W.frozen? ⟨N+1,j,none⟩ by simp];exact h5 j
 ·simpa [World.setCell] using h6
 ·exact ⟨rfl,rfl,rfl,by simp[World.setCell],fun g hgN=>Below.heap_setCell _ _ _ _ (by show g≠N+1;omega)⟩
set_option maxRecDepth 20000 in
set_option maxHeartbeats 2000000 in
theorem count_any (N:Nat) (W:World) (l:List V) (k:V) (h:Cw W N l) (hl:l.length≤200000):
 Calls Tryz.prog 114 #[vv k,.pointer (some ⟨N,0,none⟩),.pointer (some ⟨N+1,0,none⟩)] W fun e W'=>e= .returned (.tuple #[])∧Cw W' N (l++[k])∧Below N W W':=by
 have hln:=ints_len l
 obtain ⟨k0,k1,k2⟩:=k
 have X:=Bx.made W (k0,k1,k2)
 have h0:=h.below (b1 W (vb k0 k1 k2))
 have HB0:Hid (Below N W (W.alloc (vb k0 k1 k2))):=(b1 W (vb k0 k1 k2)).mono (by have:=h.lt;omega)
 obtain ⟨W0,hW0⟩:∃W0,W.alloc (vb k0 k1 k2)=W0:=⟨_,rfl⟩
 simp only at X h0
 rw[hW0] at X h0 HB0
 unfold vb at hW0
 unfold vv vl
 simp only
 have x0:=X.c0
 have x1:=X.c1
 have x2:=X.c2
 simp only at x0 x1 x2
 by_cases hk:k0=2
 ·subst hk
  have e1:ints (l++[(2,k1,k2)])=ints l++[k1]:=by rw[ints_app];simp[ints]
  have e2:oth (l++[(2,k1,k2)])=oth l:=by rw[oth_app];simp[oth]
  obtain ⟨⟨v,h1,h2⟩,h3,h4,h5,h6⟩:=h0.below (b1 W0 (.cells #[.int .i64 k1] 3))
  obtain ⟨a0,c0,rfl⟩:=slice_shape h2
  obtain ⟨j0,hji,hz0,hz1,hz2⟩:=info_parts info3
  obtain ⟨g2,cap3,w6,hr,hown,hgr,hat,hlt6⟩:=run_append_lies (P:=Tryz.prog) (W0.alloc (.cells #[.int .i64 k1] 3)) 46 46 (N+2) 3 j0 (.int .i64 0) 1 8 Tryz.underlying46 hji hz0 hz1 hz2 rfl (by omega) _ _ _ h2 ⟨W0.heap.size,0,none⟩ 1 1 [.int .i64 k1] rfl
   (World.news_of_block (cs:=#[.int .i64 k1]) (t:=3) (fr:=(0,0)) (MapKept.heap_alloc W0 _).1) (by intro u hu;simp at hu;rw[hu];rfl) (by omega) (by simp only[maxLen];omega) (by omega) h6 _ rfl
  have hpay:=Cw.pay (l':=l++[(2,k1,k2)]) ⟨⟨_,h1,h2⟩,h3,h4,h5,h6⟩ h1 h2 hgr (by rw[e1];simpa using hown) e2
  have HP:Hid _:=hpay
  have HB1:Hid (Below N W0 (W0.alloc (.cells #[.int .i64 k1] 3))):=(b1 W0 _).mono (by have:=h0.lt;omega)
  have f1:=h4 0
  have c1':w6.cell? ⟨N,0,none⟩=some (.slice a0 (ints l).length c0):=by
   rw[World.cell?_of_block (w:=W0.alloc (.cells #[.int .i64 k1] 3)) (hgr.block N (by omega) (fun e=>by have:=(h2.lt N e.symm).1;omega))];exact h1
  have f1':w6.frozen? ⟨N,0,none⟩=false:=by
   rw[World.frozen?_of_block (w:=W0.alloc (.cells #[.int .i64 k1] 3)) (hgr.block N (by omega) (fun e=>by have:=(h2.lt N e.symm).1;omega))];exact f1
  have hlt0:=h0.lt
  obtain ⟨⟨v0,y1,_⟩,_⟩:=h0
  have hv0:v0= .slice a0 (ints l).length c0:=by
   have :(W0.alloc (.cells #[.int .i64 k1] 3)).cell? ⟨N,0,none⟩=some v0:=by
    rw[World.cell?_of_block (w:=W0) (Below.heap_alloc W0 _ N (by omega))];exact y1
   rw[h1] at this
   injection this with this
   exact this.symm
  subst hv0
  clear h h1 h2 h3 h4 h5 h6 hlt0 hown hgr hat hlt6 hpay e1 e2 hl hln X
  go_enter Tryz.func114,Tryz.ntmps114
  go_wp2_with (at_builtin;refine wp_app rfl _ _ 46 rfl 46 rfl _ _ rfl rfl hr ?_)
  go_end0
  exact ⟨rfl,HP.out.1,HB0.out.trans (HB1.out.trans HP.out.2)⟩
 ·have e1:ints (l++[(k0,k1,k2)])=ints l:=by rw[ints_app];simp[ints,hk]
  have e2:oth (l++[(k0,k1,k2)])=oth l+1:=by rw[oth_app];simp[oth,hk]
  have HP:Hid _:=h0.inc e1 e2
  have c1:=h0.co
  have f1:=h0.fo 0
  have hw:IntKind.i64.wrap ((oth l:Int)+1)=(oth l:Int)+1:=by rw[IntKind.wrap_i64];omega
  have hkb:(k0==2)=false:=by simp[hk]
  clear h h0 e1 e2 hl X hln
  generalize oth l=q at *
  go_enter Tryz.func114,Tryz.ntmps114
  go_wp2_with fail
  go_end0
  exact ⟨rfl,HP.out.1,HB0.out.trans HP.out.2⟩
end Go.Proofs.YtkmopcanaalemabGreat


namespace Go.Proofs.YtkmopcanaalemabGreat
open Go.RowKit
def sA (F:Nat→V) (s:Nat):Nat→List (V×V)
 | 0=>[]
 | m+1=>sA F s m++(if (F (s+m)).1=0 then [] else [(kn (((s+m:Nat):Int)+1),F (s+m))])
def sH (g:G) (z:Nat):Nat→List (V×V)
 | 0=>[]
 | m+1=>sH g z m++(if (g.X (z - 1 - m)).1=0 then [] else [(g.K (z - 1 - m),g.X (z - 1 - m))])
def sets (p:Pa) (l:List (V×V)):Pa:=l.foldl (fun p q=>(pset p q.1 q.2).1) p
theorem sets_app (p:Pa) (l m:List (V×V)):sets p (l++m)=sets (sets p l) m:=by simp[sets]
theorem flA_sets (old:Pa) (s:Nat) (p:Pa) (m:Nat):flA old s p m=sets p (sA old.F s m):=by
 induction m with
 | zero=>rfl
 | succ m ih=>
   rw[flA,sA,sets_app,←ih,stp]
   split
   ·rfl
   ·rfl
theorem flH_sets (old p:Pa) (m:Nat):flH old p m=sets p (sH old.g old.z m):=by
 induction m with
 | zero=>rfl
 | succ m ih=>
   rw[flH,sH,sets_app,←ih,stp]
   split
   ·rfl
   ·rfl
theorem mem_sA {F:Nat→V} {s m:Nat} {q:V×V}:q∈sA F s m↔∃i,s≤i∧i<s+m∧(F i).1≠0∧q=(kn ((i:Int)+1),F i):=by
 induction m with
 | zero=>simp only[sA,List.not_mem_nil,false_iff];rintro ⟨i,h1,h2,_⟩;omega
 | succ m ih=>
   rw[sA,List.mem_append,ih]
   constructor
   ·rintro (⟨i,h1,h2,h3,h4⟩ | h)
    ·exact ⟨i,h1,by omega,h3,h4⟩
    ·split at h
     ·cases h
     ·exact ⟨s+m,by omega,by omega,by assumption,by simpa using h⟩
   ·rintro ⟨i,h1,h2,h3,h4⟩
    by_cases e:i=s+m
    ·subst e;right;rw[if_neg h3,h4];simp
    ·exact .inl ⟨i,h1,by omega,h3,h4⟩
theorem mem_sH {g:G} {z m:Nat} (hm:m≤z) {q:V×V}:q∈sH g z m↔∃i,z - m≤i∧i<z∧(g.X i).1≠0∧q=(g.K i,g.X i):=by
 induction m with
 | zero=>simp only[sH,List.not_mem_nil,false_iff];rintro ⟨i,h1,h2,_⟩;omega
 | succ m ih=>
   rw[sH,List.mem_append,ih (by omega)]
   constructor
   ·rintro (⟨i,h1,h2,h3,h4⟩ | h)
    ·exact ⟨i,by omega,h2,h3,h4⟩
    ·split at h
     ·cases h
     ·exact ⟨z - 1 - m,by omega,by omega,by assumption,by simpa using h⟩
   ·rintro ⟨i,h1,h2,h3,h4⟩
    by_cases e:i=z - 1 - m
    ·right;rw[←e,if_neg h3,h4];simp
    ·exact .inl ⟨i,by omega,h2,h3,h4⟩
theorem nd_sA (F:Nat→V) (s m:Nat):((sA F s m).map (·.1)).Nodup:=by
 induction m with
 | zero=>simp[sA]
 | succ m ih=>
   rw[sA,List.map_append,List.nodup_append]
   refine ⟨ih,by split<;>simp,fun a ha b hb e=>?_⟩
   split at hb
   ·cases hb
   ·subst e
    obtain ⟨q,hq,rfl⟩:=List.mem_map.1 ha
    obtain ⟨i,h1,h2,_,rfl⟩:=mem_sA.1 hq
    simp at hb
    omega
theorem nd_sH {z:Nat} {g:G} (hx:∀i j,i<z→j<z→(g.X i).1≠0→g.K i=g.K j→i=j) (m:Nat) (hm:m≤z):((sH g z m).map (·.1)).Nodup:=by
 induction m with
 | zero=>simp[sH]
 | succ m ih=>
   rw[sH,List.map_append,List.nodup_append]
   refine ⟨ih (by omega),by split<;>simp,fun a ha b hb e=>?_⟩
   split at hb
   ·cases hb
   ·subst e
    obtain ⟨q,hq,rfl⟩:=List.mem_map.1 ha
    obtain ⟨i,h1,h2,h3,rfl⟩:=(mem_sH (by omega)).1 hq
    simp at hb
    have:=hx i (z - 1 - m) h2 (by omega) h3 hb
    omega
def outs (n:Nat) (l:List (V×V)):Nat:=l.countP fun q=>decide (¬inA n q.1)
theorem sets_ok (l:List (V×V)) {p:Pa} (h:TI p) (hk:∀q,q∈l→KOK q.1∧fm q.2=true∧q.2.1≠0) (hn:(l.map (·.1)).Nodup)
 (hnew:∀q,q∈l→¬inA p.n q.1→∀i,i<p.z→p.g.K i≠q.1) (hroom:held p.g p.z+outs p.n l≤p.z):
 TI (sets p l)∧(sets p l).n=p.n∧(sets p l).z=p.z∧held (sets p l).g p.z=held p.g p.z+outs p.n l∧(∀k v,(k,v)∈l→pget (sets p l) k=v)∧(∀k,KOK k→(∀v,(k,v) ∉ l)→pget (sets p l) k=pget p k)∧
  ∀i,i<p.z→(sets p l).g.K i=nil∨(∃j,j<p.z∧(sets p l).g.K i=p.g.K j)∨∃q,q∈l∧(sets p l).g.K i=q.1:=by
 induction l generalizing p with
 | nil=>exact ⟨h,rfl,rfl,by simp[outs,sets],fun _ _ h=>(by cases h),fun _ _ _=>rfl,fun i hi=>.inr (.inl ⟨i,hi,rfl⟩)⟩
 | cons q l ih=>
   obtain ⟨hko,hfv,hv0⟩:=hk q (by simp)
   have hrng:Rng q.1:=⟨hko.2.2.1,hko.2.2.2⟩
   rw[List.map_cons,List.nodup_cons] at hn
   have hT:=h.set hrng hfv
   obtain ⟨en,ez⟩:=pset_nz p q.1 q.2
   have hne:∀q',q'∈l→q'.1≠q.1:=fun q' hq' e=>hn.1 (List.mem_map.2 ⟨q',hq',e⟩)
   have key:(pset p q.1 q.2).2.2=0∧held (pset p q.1 q.2).1.g p.z+outs p.n l=held p.g p.z+outs p.n (q::l)∧∀i,i<p.z→(pset p q.1 q.2).1.g.K i=q.1∨(pset p q.1 q.2).1.g.K i=nil∨∃j,j<p.z∧(pset p q.1 q.2).1.g.K i=p.g.K j:=by
    unfold pset
    by_cases hA:inA p.n q.1
    ·rw[if_pos hA]
     exact ⟨rfl,by simp[outs,hA],fun i hi=>.inr (.inr ⟨i,hi,rfl⟩)⟩
    ·rw[if_neg hA]
     have eo:outs p.n (q::l)=outs p.n l+1:=by simp[outs,hA]
     have hz:pw p.z=true:=h.rt.resolve_left (by omega)
     obtain ⟨k1,k2,k3⟩:=put_new h.inv hz hko hfv hv0 (hnew q (by simp) hA) (by omega)
     exact ⟨k1,by show held (put p.z p.g q.1 q.2).1 p.z+_=_;omega,k3⟩
   obtain ⟨k1,k2,k3⟩:=key
   obtain ⟨m1,m2⟩:=h.map hko k1
   have ih':=ih (p:=(pset p q.1 q.2).1) hT (fun q' hq'=>hk q' (by simp[hq'])) hn.2 (fun q' hq' hA i hi e=>by
    rw[en] at hA
    rw[ez] at hi
    rcases k3 i hi with e2 | e2 | ⟨j,hj,e2⟩
    ·exact hne q' hq' (e▸e2)
    ·exact (hk q' (by simp[hq'])).1.ne (e▸e2)
    ·exact hnew q' (by simp[hq']) hA j hj (e2▸e)) (by rw[en,ez];omega)
   rw[en,ez] at ih'
   obtain ⟨i1,i2,i3,i4,i5,i6,i7⟩:=ih'
   have es:sets p (q::l)=sets (pset p q.1 q.2).1 l:=rfl
   rw[es]
   refine ⟨i1,i2,i3,by rw[i4];exact k2,fun k v hkv=>?_,fun k hk' hnot=>?_,fun i hi=>?_⟩
   ·rcases List.mem_cons.1 hkv with e | e
    ·subst e
     rw[i6 k hko (fun v' hv'=>hne (k,v') hv' rfl)]
     exact m1
    ·exact i5 k v e
   ·rw[i6 k hk' (fun v hv=>hnot v (by simp[hv]))]
    exact m2 k hk' (fun e=>hnot q.2 (by rw[e];simp))
   ·rcases i7 i hi with e | ⟨j,hj,e⟩ | ⟨q',hq',e⟩
    ·exact .inl e
    ·rcases k3 j hj with e2 | e2 | ⟨j',hj',e2⟩
     ·exact .inr (.inr ⟨q,by simp,e.trans e2⟩)
     ·exact .inl (e.trans e2)
     ·exact .inr (.inl ⟨j',hj',e.trans e2⟩)
    ·exact .inr (.inr ⟨q',by simp[hq'],e⟩)
theorem mem_kA {F:Nat→V} {n:Nat} {k:V}:k∈kA F n↔∃i,i<n∧(F i).1≠0∧k=kn ((i:Int)+1):=by
 induction n with
 | zero=>simp[kA]
 | succ n ih=>
   rw[kA,List.mem_append,ih]
   constructor
   ·rintro (⟨i,h1,h2,h3⟩ | h)
    ·exact ⟨i,by omega,h2,h3⟩
    ·split at h
     ·cases h
     ·exact ⟨n,by omega,by assumption,by simpa using h⟩
   ·rintro ⟨i,h1,h2,h3⟩
    by_cases e:i=n
    ·subst e;right;rw[if_neg h2,h3];simp
    ·exact .inl ⟨i,by omega,h2,h3⟩
theorem mem_kH {g:G} {n:Nat} {k:V}:k∈kH g n↔∃i,i<n∧(g.X i).1≠0∧k=g.K i:=by
 induction n with
 | zero=>simp[kH]
 | succ n ih=>
   rw[kH,List.mem_append,ih]
   constructor
   ·rintro (⟨i,h1,h2,h3⟩ | h)
    ·exact ⟨i,by omega,h2,h3⟩
    ·split at h
     ·cases h
     ·exact ⟨n,by omega,by assumption,by simpa using h⟩
   ·rintro ⟨i,h1,h2,h3⟩
    by_cases e:i=n
    ·subst e;right;rw[if_neg h2,h3];simp
    ·exact .inl ⟨i,by omega,h2,h3⟩
theorem TI.live {p:Pa} (h:TI p) {i:Nat} (hi:i<p.z) (hx:(p.g.X i).1≠0):p.g.K i≠nil∧KOK (p.g.K i):=by
 have :p.g.K i≠nil:=fun e=>hx (by rw[h.inv.val i hi e];rfl)
 exact ⟨this,(h.inv.key i hi).resolve_left this⟩
theorem TI.pw {p:Pa} (h:TI p) {i:Nat} (hi:i<p.z):Proofs.YtkmopcanaalemabGreat.pw p.z=true:=h.rt.resolve_left (by omega)
theorem TI.get_node {p:Pa} (h:TI p) {i:Nat} (hi:i<p.z) (hn:p.g.K i≠nil):pget p (p.g.K i)=p.g.X i:=by
 rw[pget,if_neg (h.out i hi)]
 exact mg_held h.inv (h.pw hi) ((h.inv.key i hi).resolve_left hn) hi rfl
theorem TI.get_slot {p:Pa} (_:TI p) {i:Nat} (hi:i<p.n):pget p (kn ((i:Int)+1))=p.F i:=by
 rw[pget,if_pos (inA_kn.2 hi),ix_kn]
theorem TI.get_out {p:Pa} (h:TI p) {k:V} (hk:KOK k) (hA:¬inA p.n k):(∃i,i<p.z∧p.g.K i=k∧pget p k=p.g.X i)∨((∀i,i<p.z→p.g.K i≠k)∧pget p k=nil):=by
 by_cases q:∃i,i<p.z∧p.g.K i=k
 ·obtain ⟨i,hi,e⟩:=q
  exact .inl ⟨i,hi,e,by rw[←e];exact h.get_node hi (by rw[e];exact hk.ne)⟩
 ·have hn:∀i,i<p.z→p.g.K i≠k:=fun i hi e=>q ⟨i,hi,e⟩
  refine .inr ⟨hn,?_⟩
  rw[pget,if_neg hA]
  rcases h.rt with hz | hz
  ·rw[mg,fnd,if_pos (Or.inl hz)];rfl
  ·exact mg_not h.inv hz hk hn
theorem TI.mem_pres {p:Pa} (h:TI p) {k:V}:k∈pres p↔KOK k∧(pget p k).1≠0:=by
 rw[pres,List.mem_append,mem_kA,mem_kH]
 constructor
 ·rintro (⟨i,h1,h2,rfl⟩ | ⟨i,h1,h2,rfl⟩)
  ·exact ⟨KOK_kn h1 h.le,by rw[h.get_slot h1];exact h2⟩
  ·obtain ⟨a,b⟩:=h.live h1 h2
   exact ⟨b,by rw[h.get_node h1 a];exact h2⟩
 ·rintro ⟨hk,hv⟩
  by_cases hA:inA p.n k
  ·obtain ⟨h1,h2⟩:=inA_ix hA
   refine .inl ⟨ix k,h1,?_,h2⟩
   rw[pget,if_pos hA] at hv
   exact hv
  ·rcases h.get_out hk hA with ⟨i,hi,e,e2⟩ | ⟨_,e2⟩
   ·exact .inr ⟨i,hi,by rw[←e2];exact hv,e.symm⟩
   ·rw[e2] at hv;exact absurd rfl hv
theorem nd_kA (F:Nat→V) (n:Nat):(kA F n).Nodup:=by
 induction n with
 | zero=>simp[kA]
 | succ n ih=>
   rw[kA,List.nodup_append]
   refine ⟨ih,by split<;>simp,fun a ha b hb e=>?_⟩
   split at hb
   ·cases hb
   ·subst e
    obtain ⟨i,h1,h2,rfl⟩:=mem_kA.1 ha
    simp at hb
    omega
theorem TI.pres_nd {p:Pa} (h:TI p):(pres p).Nodup:=by
 rw[pres,List.nodup_append]
 refine ⟨nd_kA _ _,?_,fun a ha b hb e=>?_⟩
 ·have :∀n,n≤p.z→(kH p.g n).Nodup:=fun n=>by
   induction n with
   | zero=>intro _;simp[kH]
   | succ n ih=>
     intro hn
     rw[kH,List.nodup_append]
     refine ⟨ih (by omega),by split<;>simp,fun a ha b hb e=>?_⟩
     split at hb
     ·cases hb
     ·subst e
      obtain ⟨i,h1,h2,rfl⟩:=mem_kH.1 ha
      simp at hb
      have:=h.inv.one i n (by omega) (by omega) (h.live (by omega) h2).1 hb
      omega
  exact this _ (Nat.le_refl _)
 ·subst e
  obtain ⟨i,h1,h2,rfl⟩:=mem_kA.1 ha
  obtain ⟨j,h3,h4,e⟩:=mem_kH.1 hb
  exact h.out j h3 (by rw[←e];exact inA_kn.2 h1)
end Go.Proofs.YtkmopcanaalemabGreat


namespace Go.Proofs.YtkmopcanaalemabGreat
open Go.RowKit
def outK (A:Nat) (l:List V):Nat:=l.countP fun k=>decide (¬inA A k)
theorem outK_app (A:Nat) (l m:List V):outK A (l++m)=outK A l+outK A m:=by simp[outK]
theorem g0_held (z n:Nat):held (g0 z) n=0:=by
 unfold held
 have :(fun j=>if (g0 z).K j=nil then 0 else 1)=fun _:Nat=>0:=by funext j;rw[if_pos];rfl
 rw[this,sumTo_zero]
theorem TI.cp0 {p:Pa} (h:TI p) {A Z:Nat} (hA:A≤65536) (hZ:Rt Z):TI (cpy p (fresh A Z)):=by
 have h0:=TI.fr0 hZ hA
 refine ⟨h0.inv,hZ,hA,fun i hi=>?_,h0.xv,h0.out⟩
 show fm (if i<min A p.n then p.F i else nil)=true
 split
 ·exact h.fv i (by omega)
 ·exact fm_nil
def lst (p:Pa) (A:Nat):List (V×V):=sA p.F (min A p.n) (p.n - min A p.n)++sH p.g p.z p.z
theorem fill_lst (p:Pa) (A Z:Nat):fill p (fresh A Z)=sets (cpy p (fresh A Z)) (lst p A):=by
 rw[lst,sets_app,←flA_sets,←flH_sets];rfl
theorem mem_lst {p:Pa} {A:Nat} {q:V×V}:q∈lst p A↔(∃i,A≤i∧i<p.n∧(p.F i).1≠0∧q=(kn ((i:Int)+1),p.F i))∨∃i,i<p.z∧(p.g.X i).1≠0∧q=(p.g.K i,p.g.X i):=by
 rw[lst,List.mem_append,mem_sA,mem_sH (Nat.le_refl _)]
 constructor
 ·rintro (⟨i,h1,h2,h3,h4⟩ | ⟨i,h1,h2,h3,h4⟩)
  ·exact .inl ⟨i,by omega,by omega,h3,h4⟩
  ·exact .inr ⟨i,h2,h3,h4⟩
 ·rintro (⟨i,h1,h2,h3,h4⟩ | ⟨i,h2,h3,h4⟩)
  ·exact .inl ⟨i,by omega,by omega,h3,h4⟩
  ·exact .inr ⟨i,by omega,h2,h3,h4⟩
theorem TI.lst_nd {p:Pa} (h:TI p) (A:Nat):((lst p A).map (·.1)).Nodup:=by
 rw[lst,List.map_append,List.nodup_append]
 refine ⟨nd_sA _ _ _,nd_sH (fun i j hi hj hx e=>h.inv.one i j hi hj (h.live hi hx).1 e) _ (Nat.le_refl _),fun a ha b hb e=>?_⟩
 subst e
 obtain ⟨q,hq,rfl⟩:=List.mem_map.1 ha
 obtain ⟨q',hq',e⟩:=List.mem_map.1 hb
 obtain ⟨i,h1,h2,h3,rfl⟩:=mem_sA.1 hq
 obtain ⟨j,h4,h5,h6,rfl⟩:=(mem_sH (Nat.le_refl _)).1 hq'
 exact h.out j h5 (by rw[show p.g.K j=kn ((i:Int)+1) from e];exact inA_kn.2 (by omega))
theorem TI.lst_out {p:Pa} (h:TI p) (A:Nat):outs A (lst p A)=outK A (pres p):=by
 have e1:outs A (lst p A)=outK A ((lst p A).map (·.1)):=by
  unfold outs outK
  rw[List.countP_map]
  rfl
 rw[e1]
 unfold outK
 rw[List.countP_eq_length_filter,List.countP_eq_length_filter]
 apply List.Perm.length_eq
 refine (List.perm_ext_iff_of_nodup ((h.lst_nd A).filter _) (h.pres_nd.filter _)).2 fun k=>?_
 simp only[List.mem_filter,decide_eq_true_eq,List.mem_map]
 rw[pres,List.mem_append,mem_kA,mem_kH]
 constructor
 ·rintro ⟨⟨q,hq,rfl⟩,hA⟩
  refine ⟨?_,hA⟩
  rcases mem_lst.1 hq with ⟨i,h1,h2,h3,rfl⟩ | ⟨i,h2,h3,rfl⟩
  ·exact .inl ⟨i,h2,h3,rfl⟩
  ·exact .inr ⟨i,h2,h3,rfl⟩
 ·rintro ⟨⟨i,h2,h3,rfl⟩ | ⟨i,h2,h3,rfl⟩,hA⟩
  ·refine ⟨⟨(kn ((i:Int)+1),p.F i),mem_lst.2 (.inl ⟨i,?_,h2,h3,rfl⟩),rfl⟩,hA⟩
   rcases Nat.lt_or_ge i A with q | q
   ·exact absurd (inA_kn.2 q) hA
   ·exact q
  ·exact ⟨⟨(p.g.K i,p.g.X i),mem_lst.2 (.inr ⟨i,h2,h3,rfl⟩),rfl⟩,hA⟩
theorem TI.filled {p:Pa} (h:TI p) {A Z:Nat} (hA:A≤65536) (hZ:Rt Z) (hroom:outK A (pres p)≤Z):
 TI (fill p (fresh A Z))∧(fill p (fresh A Z)).n=A∧(fill p (fresh A Z)).z=Z∧(∀k,KOK k→pget (fill p (fresh A Z)) k=pget p k)∧held (fill p (fresh A Z)).g Z=outK A (pres p)∧
  ∀i,i<Z→(fill p (fresh A Z)).g.K i=nil∨(fill p (fresh A Z)).g.K i∈pres p:=by
 have hc:=h.cp0 hA hZ
 have hh:held (cpy p (fresh A Z)).g Z=0:=g0_held Z Z
 have hK:∀i,(cpy p (fresh A Z)).g.K i=nil:=fun _=>rfl
 have hlk:∀q,q∈lst p A→KOK q.1∧fm q.2=true∧q.2.1≠0:=fun q hq=>by
  rcases mem_lst.1 hq with ⟨i,h1,h2,h3,rfl⟩ | ⟨i,h2,h3,rfl⟩
  ·exact ⟨KOK_kn h2 h.le,h.fv i h2,h3⟩
  ·exact ⟨(h.live h2 h3).2,h.xv i h2,h3⟩
 obtain ⟨i1,i2,i3,i4,i5,i6,i7⟩:=sets_ok (lst p A) hc hlk (h.lst_nd A) (fun q hq _ i _ e=>(hlk q hq).1.ne (by rw[←e,hK])) (by
  show held (cpy p (fresh A Z)).g Z+outs A (lst p A)≤Z
  rw[hh,h.lst_out];omega)
 rw[fill_lst]
 refine ⟨i1,i2,i3,fun k hk=>?_,by
  have :held (sets (cpy p (fresh A Z)) (lst p A)).g Z=held (cpy p (fresh A Z)).g Z+outs A (lst p A):=i4
  rw[this,hh,h.lst_out];omega,fun i hi=>?_⟩
 ·by_cases hin:∃v,(k,v)∈lst p A
  ·obtain ⟨v,hv⟩:=hin
   rw[i5 k v hv]
   rcases mem_lst.1 hv with ⟨i,h1,h2,h3,e⟩ | ⟨i,h2,h3,e⟩
   ·obtain ⟨rfl,rfl⟩:k=_∧v=_:=by simpa using e
    exact (h.get_slot h2).symm
   ·obtain ⟨rfl,rfl⟩:k=_∧v=_:=by simpa using e
    exact (h.get_node h2 (h.live h2 h3).1).symm
  ·rw[i6 k hk (fun v hv=>hin ⟨v,hv⟩)]
   have em:∀k,¬inA A k→pget (cpy p (fresh A Z)) k=nil:=fun k hq=>by
    show (if inA A k then _ else mg Z (g0 Z) k)=nil
    rw[if_neg hq,mg]
    cases hf:fnd Z (g0 Z) k with
    | mk o n=>cases o<;>rfl
   by_cases hp:inA p.n k
   ·obtain ⟨q1,q2⟩:=inA_ix hp
    have e2:pget p k=p.F (ix k):=by rw[pget,if_pos hp]
    rw[e2]
    by_cases hq:inA A k
    ·obtain ⟨q3,_⟩:=inA_ix hq
     show (if inA A k then (if ix k<min A p.n then p.F (ix k) else nil) else _)=_
     rw[if_pos hq,if_pos (by omega)]
    ·rw[em k hq]
     have hi':A≤ix k:=by
      rcases Nat.lt_or_ge (ix k) A with q | q
      ·exact absurd (by rw[q2];exact inA_kn.2 q) hq
      ·exact q
     by_cases q0:(p.F (ix k)).1=0
     ·exact (form_nil (h.fv _ q1) q0).symm
     ·exact absurd ⟨p.F (ix k),mem_lst.2 (.inl ⟨ix k,hi',q1,q0,by rw[←q2]⟩)⟩ hin
   ·have e3:pget (cpy p (fresh A Z)) k=nil:=by
     by_cases hq:inA A k
     ·obtain ⟨q3,q4⟩:=inA_ix hq
      show (if inA A k then (if ix k<min A p.n then p.F (ix k) else nil) else _)=_
      have :¬ix k<p.n:=fun q=>hp (by rw[q4];exact inA_kn.2 q)
      rw[if_pos hq,if_neg (by omega)]
     ·exact em k hq
    rw[e3]
    rcases h.get_out hk hp with ⟨i,hi,e,e2⟩ | ⟨_,e2⟩
    ·rw[e2]
     by_cases q0:(p.g.X i).1=0
     ·exact (form_nil (h.xv i hi) q0).symm
     ·exact absurd ⟨p.g.X i,mem_lst.2 (.inr ⟨i,hi,q0,by rw[e]⟩)⟩ hin
    ·exact e2.symm
 ·rcases i7 i hi with e | ⟨j,_,e⟩ | ⟨q,hq,e⟩
  ·exact .inl e
  ·exact .inl (e.trans (hK j))
  ·right
   rw[e]
   rcases mem_lst.1 hq with ⟨i,h1,h2,h3,rfl⟩ | ⟨i,h2,h3,rfl⟩
   ·exact List.mem_append.2 (.inl (mem_kA.2 ⟨i,h2,h3,rfl⟩))
   ·exact List.mem_append.2 (.inr (mem_kH.2 ⟨i,h2,h3,rfl⟩))
theorem form_int {k:V} (hk:KOK k) (h2:k.1=2):k.2.2=⟨#[]⟩:=by
 obtain ⟨a,b,s⟩:=k
 have h:=hk.1
 simp only at h h2
 subst h2
 simp only[inF] at h
 simp at h
 rw[ByteArray.toList_eq] at h
 obtain ⟨⟨l⟩⟩:=s
 simp at h
 subst h
 rfl
theorem ints_mem {l:List V} {x:Int} (h:x∈ints l):∃k,k∈l∧k.1=2∧k.2.1=x:=by
 obtain ⟨k,hk,e⟩:=List.mem_filterMap.1 h
 split at e
 ·exact ⟨k,hk,by assumption,by simpa using e⟩
 ·cases e
theorem ints_fit {l:List V} (h:∀k,k∈l→KOK k):C.Fit (ints l):=by
 intro i hi
 have hm:(ints l).getD i 0∈ints l:=by rw[List.getD,List.getElem?_eq_getElem hi];exact List.getElem_mem _
 obtain ⟨k,hk,_,e⟩:=ints_mem hm
 rw[←e]
 exact ⟨(h k hk).2.2.1,(h k hk).2.2.2⟩
theorem ints_nd {l:List V} (h:∀k,k∈l→KOK k) (hn:l.Nodup):(ints l).Nodup:=by
 induction l with
 | nil=>simp[ints]
 | cons k l ih=>
   rw[List.nodup_cons] at hn
   have ih':=ih (fun k hk=>h k (by simp[hk])) hn.2
   have e:ints (k::l)=if k.1=2 then k.2.1::ints l else ints l:=by
    unfold ints
    rw[List.filterMap_cons]
    by_cases q:k.1=2
    ·rw[if_pos q,if_pos q]
    ·rw[if_neg q,if_neg q]
   rw[e]
   split
   ·rename_i q
    refine List.nodup_cons.2 ⟨fun hx=>?_,ih'⟩
    obtain ⟨k',hk',q1,q2⟩:=ints_mem hx
    have :k'=k:=by
     have f1:=form_int (h k' (by simp[hk'])) q1
     have f2:=form_int (h k (by simp)) q
     obtain ⟨a,b,c⟩:=k
     obtain ⟨a',b',c'⟩:=k'
     simp only at q q1 q2 f1 f2
     rw[q,q1,q2,f1,f2]
    exact hn.1 (this▸hk')
   ·exact ih'
theorem outK_cnt (A:Nat) (l:List V) (h:∀k,k∈l→KOK k):(outK A l:Int)=oth l+((ints l).length:Int) - C.wi (ints l) A:=by
 induction l with
 | nil=>simp[outK,oth,ints,C.wi]
 | cons k l ih=>
   have ih':=ih (fun k hk=>h k (by simp[hk]))
   rw[show k::l=[k]++l from rfl,outK_app,oth_app,ints_app,List.length_append]
   have ew:C.wi (ints [k]++ints l) A=C.wi (ints [k]) A+C.wi (ints l) A:=by simp[C.wi]
   rw[ew]
   have :(outK A [k]:Int)=oth [k]+((ints [k]).length:Int) - C.wi (ints [k]) A:=by
    by_cases q:k.1=2
    ·have f:=form_int (h k (by simp)) q
     have e1:ints [k]=[k.2.1]:=by simp[ints,q]
     have e2:oth [k]=0:=by simp[oth,q]
     have e3:inA A k↔1≤k.2.1∧k.2.1≤(A:Int):=by unfold inA;simp[q,f]
     rw[e1,e2]
     by_cases q2:inA A k
     ·have :outK A [k]=0:=by simp[outK,q2]
      rw[this]
      have :C.wi [k.2.1] A=1:=by simp[C.wi,e3.1 q2]
      rw[this];rfl
     ·have :outK A [k]=1:=by simp[outK,q2]
      rw[this]
      have q3:=fun x=>q2 (e3.2 x)
      have :C.wi [k.2.1] A=0:=by simp only[C.wi,List.countP_singleton,decide_eq_true_eq];rw[if_neg q3];rfl
      rw[this];rfl
    ·have e1:ints [k]=[]:=by simp[ints,q]
     have e2:oth [k]=1:=by simp[oth,q]
     have e3:¬inA A k:=fun x=>q x.1
     have :outK A [k]=1:=by simp[outK,e3]
     rw[e1,e2,this];simp[C.wi]
   omega
theorem pw_pow (i:Nat) (h:i≤16):pw ((2 ^ i:Nat):Int)=true:=by
 have :i=0∨i=1∨i=2∨i=3∨i=4∨i=5∨i=6∨i=7∨i=8∨i=9∨i=10∨i=11∨i=12∨i=13∨i=14∨i=15∨i=16:=by omega
 rcases this with rfl | rfl | rfl | rfl | rfl | rfl | rfl | rfl | rfl | rfl | rfl | rfl | rfl | rfl | rfl | rfl | rfl<;>decide
theorem up2_rt (n:Int) (h0:0≤n) (h1:n≤65536):∃z:Nat,C.up2 n=z∧Rt z∧n≤z:=by
 unfold C.up2
 by_cases q:n=0
 ·rw[if_pos q];exact ⟨0,rfl,.inl rfl,by omega⟩
 ·rw[if_neg q]
  obtain ⟨a,b,c⟩:=C.lgN_spec n (by omega) (by omega)
  have hl:C.lgN n≤16:=by
   rcases b with b | b
   ·omega
   ·rcases Nat.lt_or_ge 16 (C.lgN n) with q | q
    ·have:=Nat.pow_le_pow_right (n:=2) (by omega) (show 16≤C.lgN n - 1 by omega)
     omega
    ·exact q
  refine ⟨2 ^ C.lgN n,?_,.inr (pw_pow _ hl),?_⟩
  ·unfold C.cl;simp
  ·omega
structure Fits (l:List V) (A Z:Nat):Prop where
 a:A≤65536
 z:Rt Z
 room:outK A l≤Z
 dense:C.Dense (ints l) A (C.wi (ints l) A)
 up:(Z:Int)=C.up2 (outK A l)
 pow:A=0∨∃i,i≤16∧A=2 ^ i
theorem cens {p:Pa} {k:V} (h:∀k',k'∈pres p++[k]→KOK k') (hn:(pres p++[k]).Nodup):
 rsE p k=14∨(rsE p k=0∧Fits (pres p++[k]) (rsA p k) (rsZ p k)∧C.szA (ints (pres p++[k])) (oth (pres p++[k]):Nat)=(rsA p k:Nat)∧C.szH (ints (pres p++[k])) (oth (pres p++[k]):Nat)=(rsZ p k:Nat)):=by
 unfold rsE rsA rsZ
 generalize pres p++[k]=l at *
 have hf:=ints_fit h
 have hd:=C.dense_of (ints l) hf
 have hnd:=ints_nd h hn
 rcases C.szE_cases (ints l) (oth l:Nat) with ⟨e0,e1,e2,e3,e4⟩ | ⟨_,_,⟨q,_⟩ | ⟨_,q⟩ | ⟨_,q⟩⟩
 ·right
  have ha:=hd.a0
  have hb:=hd.a1
  have hN:=hd.n
  obtain ⟨A,hA⟩:∃A:Nat,C.chA (C.cntL (ints l)) 17=A:=⟨(C.chA (C.cntL (ints l)) 17).toNat,by omega⟩
  rw[hA] at hd ha hb hN e3
  have ho:=outK_cnt A l h
  have er:(oth l:Int)+C.rest (ints l)=(outK A l:Nat):=by unfold C.rest;rw[←hN];omega
  rw[er] at e2 e4
  obtain ⟨z,z1,z2,z3⟩:=up2_rt (outK A l:Nat) (by omega) (by omega)
  rw[e3,e4,z1]
  simp only[Int.toNat_natCast]
  have hpow:A=0∨∃i,i≤16∧A=2 ^ i:=by
   rcases C.chN_cases (C.cntL (ints l)) 17 with ⟨q1,_⟩ | ⟨i,q0,q1,_⟩
   ·left;omega
   ·right
    refine ⟨i,by omega,?_⟩
    have:=C.pow_int i
    omega
  refine ⟨e0,⟨by omega,z2,by omega,?_,z1.symm,hpow⟩,trivial,trivial⟩
  rw[hN]
  exact hd
 ·omega
 ·exfalso
  unfold C.szE at q
  rw[if_neg (by omega),if_neg (by simpa using hnd)] at q
  split at q<;>cases q
 ·exact .inl q
end Go.Proofs.YtkmopcanaalemabGreat


namespace Go.Proofs.YtkmopcanaalemabGreat
open Go.RowKit
theorem Cw.start (w:World) (o:Obj):Cw ((((w.alloc o).alloc (.cells #[.slice none 0 0] 46)).alloc (.cells #[.int .i64 0] 3)).setCell ⟨w.heap.size+1+1,0,none⟩ (.int .i64 0)) (w.heap.size+1) []∧
 Below w.heap.size w ((((w.alloc o).alloc (.cells #[.slice none 0 0] 46)).alloc (.cells #[.int .i64 0] 3)).setCell ⟨w.heap.size+1+1,0,none⟩ (.int .i64 0))∧
 (((w.alloc o).alloc (.cells #[.slice none 0 0] 46)).alloc (.cells #[.int .i64 0] 3)).cell? ⟨w.heap.size+1+1,0,none⟩=some (.int .i64 0)∧(((w.alloc o).alloc (.cells #[.slice none 0 0] 46)).alloc (.cells #[.int .i64 0] 3)).frozen? ⟨w.heap.size+1+1,0,none⟩=false:=by
 have e1:(w.alloc o).heap.size=w.heap.size+1:=by simp
 have e2:((w.alloc o).alloc (.cells #[.slice none 0 0] 46)).heap.size=w.heap.size+1+1:=by simp
 have h1:=(MapKept.heap_alloc (w.alloc o) (.cells #[.slice none 0 0] 46)).1
 have h2:=(MapKept.heap_alloc ((w.alloc o).alloc (.cells #[.slice none 0 0] 46)) (.cells #[.int .i64 0] 3)).1
 rw[e1] at h1
 rw[e2] at h2
 have h1':(((w.alloc o).alloc (.cells #[.slice none 0 0] 46)).alloc (.cells #[.int .i64 0] 3)).heap[w.heap.size+1]?=some (.cells #[.slice none 0 0] 46):=by rw[Below.heap_alloc _ _ _ (by omega)];exact h1
 have hb:Below w.heap.size w (((w.alloc o).alloc (.cells #[.slice none 0 0] 46)).alloc (.cells #[.int .i64 0] 3)):=bthen (b2 w _ _) (by simp;omega) (b1 _ _)
 have h1'':((((w.alloc o).alloc (.cells #[.slice none 0 0] 46)).alloc (.cells #[.int .i64 0] 3)).setCell ⟨w.heap.size+1+1,0,none⟩ (.int .i64 0)).heap[w.heap.size+1]?=some (.cells #[.slice none 0 0] 46):=by
  rw[Below.heap_setCell _ _ _ _ (by show w.heap.size+1≠w.heap.size+1+1;omega)];exact h1'
 refine ⟨⟨⟨.slice none 0 0,cell_of_row h1'' 0,World.ownsRow_nil _ _ _ _⟩,World.cell?_setCell_same _ _ _ (cell_of_row h2 0),fun j=>H.free_row h1'' j,fun j=>?_,by simp[World.setCell]⟩,hb.setCell (by show w.heap.size≤w.heap.size+1+1;omega) _,cell_of_row h2 0,H.free_row h2 0⟩
 simpa using H.free_row h2 j
def Sr (w:World) (N B o A b a:Nat) (p:Pa) (sb nb:Int) (k:V) (l:List V) (W:World):Prop:=
 Cw W (N+1) l∧Pm W B o A b a p sb nb∧Bx W N k∧Below N w W∧(B<N∧A<N∧b<N∧a<N)
theorem Sr.below {w W W':World} {N B o A b a:Nat} {p:Pa} {sb nb:Int} {k:V} {l:List V} (h:Sr w N B o A b a p sb nb k l W) (hb:Below W.heap.size W W'):Sr w N B o A b a p sb nb k l W':=
 ⟨h.1.below hb,h.2.1.below hb,h.2.2.1.below hb,h.2.2.2.1.trans (hb.mono (by have:=h.1.lt;omega)),h.2.2.2.2⟩
theorem Sr.step {w W W':World} {N B o A b a:Nat} {p:Pa} {sb nb:Int} {k:V} {l l':List V} (h:Sr w N B o A b a p sb nb k l W) (hc:Cw W' (N+1) l') (hb:Below (N+1) W W'):Sr w N B o A b a p sb nb k l' W':=by
 obtain ⟨h1,h2,h3,h4,q1,q2,q3,q4⟩:=h
 have kk:Keep (fun g=>g<N+1) W W':=⟨hb.os,hb.tape,hb.output,hb.size,fun g _ hg=>hb.block g hg⟩
 exact ⟨hc,h2.kept kk (by show _<_;omega) (by show _<_;omega) (by show _<_;omega) (by show _<_;omega),h3.kept kk (by show _<_;omega),h4.trans (hb.mono (by omega)),q1,q2,q3,q4⟩
abbrev st3 (w:World) (g:Nat) (x:V):World:=(((w.alloc (.cells #[.int .i64 0,.int .i64 0,.string ⟨#[]⟩] 36)).setCell ⟨g,0,none⟩ (.int .i64 x.1)).setCell ⟨g,1,none⟩ (.int .i64 x.2.1)).setCell ⟨g,2,none⟩ (.string x.2.2)
set_option maxRecDepth 20000 in
set_option maxHeartbeats 4000000 in
theorem sw_any {B o A b a:Nat} {p:Pa} {sb nb:Int} (k:V) (w:World) (h:Pm w B o A b a p sb nb) (hT:TI p) (hk:∀k',k'∈pres p++[k]→KOK k'):
 Calls Tryz.prog 90 #[.pointer (some ⟨B,o,none⟩),vv k] w fun e w'=>e= .returned (.tuple #[.int .i64 (C.szA (ints (pres p++[k])) (oth (pres p++[k]):Nat)),.int .i64 (C.szH (ints (pres p++[k])) (oth (pres p++[k]):Nat)),.int .i64 (C.szE (ints (pres p++[k])) (oth (pres p++[k]):Nat))])∧Below w.heap.size w w':=by
 have hmf:∀(fn:Fn) (first cap:Array Value) (w:World),(Instr.makeFunc fn first cap).run Tryz.prog w= .ok (.func fn first cap) w:=fun _ _ _ _=>rfl
 have HC:Hid _:=Cw.start w (vb k.1 k.2.1 k.2.2)
 have X0:=(((Bx.made w k).below (b1 _ (.cells #[.slice none 0 0] 46))).below (b1 _ (.cells #[.int .i64 0] 3)))
 obtain ⟨W0,hW0⟩:∃W0,((w.alloc (vb k.1 k.2.1 k.2.2)).alloc (.cells #[.slice none 0 0] 46)).alloc (.cells #[.int .i64 0] 3)=W0:=⟨_,rfl⟩
 rw[hW0] at HC X0
 have y1:=HC.out.2.2.1
 have y2:=HC.out.2.2.2
 have X1:=X0.kept ((Keep.refl (fun x=>x≠w.heap.size+1+1) W0).set (p:=⟨w.heap.size+1+1,0,none⟩) (fun q=>q rfl) (.int .i64 0)) (by show w.heap.size≠w.heap.size+1+1;omega)
 have HX:Hid (Bx (W0.setCell ⟨w.heap.size+1+1,0,none⟩ (.int .i64 0)) w.heap.size k):=X1
 have P1:=h.below HC.out.2.1
 have HL:Hid (∀g,g<W0.heap.size→True):=fun _ _=>trivial
 obtain ⟨W1,hW1⟩:∃W1,W0.setCell ⟨w.heap.size+1+1,0,none⟩ (.int .i64 0)=W1:=⟨_,rfl⟩
 rw[hW1] at HC HX P1
 have HP:Hid (Pm W1 B o A b a p sb nb):=P1
 have c0:=P1.c0
 have c1:=P1.c1
 clear P1 X0 X1 HL
 unfold vb at hW0
 unfold vv vl
 unfold pp at c1
 generalize hsz:w.heap.size=N at *
 have HSZ:Hid (w.heap.size=N):=hsz
 have HS:Hid (Sr w N B o A b a p sb nb k (kA p.F 0) W1):=⟨HC.out.1,HP.out,HX.out,HC.out.2.1,by have:=h.ltB;omega,by have:=h.ltA;omega,by have:=h.pt.ltb;omega,by have:=h.pt.lta;omega⟩
 have hn:=hT.le
 have hz:=hT.rt.le
 have HN0:Hid (∀i,i≤p.n→(kA p.F i).length≤65536):=fun i hi=>by have:=kA_len p.F i;omega
 have e61:=enters61
 clear HC HX HP h
 go_enter Tryz.func90,Tryz.ntmps90
 go_wp2_with fail
 go_loopw [20] (fun iw wr=>∃i:Nat,iw= .int .i64 (i:Nat)∧i≤p.n∧Hid (Sr w N B o A b a p sb nb k (kA p.F i) wr)) (fun iw _=>p.n - (intOf iw).toNat)
 case atStart=>exact ⟨0,rfl,Nat.zero_le _,HS⟩
 case round=>
  obtain ⟨i,rfl,hi,HR⟩:=hrel
  clear HS y1 y2 c0 c1
  by_cases hlt:i<p.n
  ·have hlt':(i:Int)<(p.n:Int):=by omega
   obtain ⟨a0,a1,a2⟩:=HR.out.2.1.sl.at hlt
   have ek:kA p.F (i+1)=kA p.F i++(if (p.F i).1=0 then [] else [kn ((i:Int)+1)]):=rfl
   have hlen:=HN0.out i hi
   have HBx:=Bx.made wr (p.F i)
   have HR2:Hid (Sr w N B o A b a p sb nb k (kA p.F i) (wr.alloc (vb (p.F i).1 (p.F i).2.1 (p.F i).2.2))):=HR.out.below (b1 wr (vb (p.F i).1 (p.F i).2.1 (p.F i).2.2))
   obtain ⟨W2,hW2⟩:∃W2,wr.alloc (vb (p.F i).1 (p.F i).2.1 (p.F i).2.2)=W2:=⟨_,rfl⟩
   rw[hW2] at HBx HR2
   have b0:=HBx.c0
   have hwi:IntKind.i64.wrap ((i:Int)+1)=(i:Int)+1:=by rw[IntKind.wrap_i64];omega
   clear HBx HR
   unfold vb at hW2
   generalize p.F i=x at *
   by_cases hx:x.1=0
   ·rw[if_pos hx,List.append_nil] at ek
    have HEk:Hid (kA p.F (i+1)=kA p.F i):=ek
    have hxb:(x.1 !=0)=false:=by simp[hx]
    clear ek hx
    go_wp2_with fail
    go_round
    case rel=>exact ⟨i+1,by go_num,by omega,by rw[HEk.out];exact HR2⟩
    case measure=>simp[intOf];omega
   ·have hxb:(x.1 !=0)=true:=by simp[hx]
    rw[if_neg hx] at ek
    have HEk:Hid (kA p.F (i+1)=kA p.F i++[kn ((i:Int)+1)]):=ek
    have CN:=number_any ((i:Int)+1) W2
    unfold vl at CN
    clear ek hx
    go_wp2_with fail
    refine CN.mono ?_;rintro e W3 ⟨rfl,hb3⟩
    have HR3:Hid (Sr w N B o A b a p sb nb k (kA p.F i) W3):=HR2.out.below hb3
    have CC:=count_any (N+1) W3 (kA p.F i) (kn ((i:Int)+1)) HR3.out.1 (by omega)
    unfold vv vl at CC
    clear CN hb3 HR2
    go_wp2_with (go_at_fn 114;refine CC.mono ?_;rintro e W4 ⟨rfl,hc4,hb4⟩;have HR4:Hid (Sr w N B o A b a p sb nb k (kA p.F i++[kn ((i:Int)+1)]) W4):=HR3.out.step hc4 hb4;clear hc4 hb4)
    go_round
    case rel=>exact ⟨i+1,by go_num,by omega,by rw[HEk.out];exact HR4⟩
    case measure=>simp[intOf];omega
  ·obtain rfl:i=p.n:=by omega
   have hnlt:¬((p.n:Int)<(p.n:Int)):=by omega
   have c1:=HR.out.2.1.c1
   unfold pp at c1
   have CS:=size_any wr HR.out.2.1.pt
   unfold pp at CS
   obtain ⟨W5,hW5⟩:∃W5,W5=wr:=⟨_,rfl⟩
   rw[←hW5] at HR c1 CS⊢
   clear hW5
   have HR5:Hid (Sr w N B o A b a p sb nb k (kA p.F p.n++kH p.g 0) W5):=by simp only[kH,List.append_nil];exact HR
   clear HR
   go_wp2_with fail
   refine CS.mono ?_;rintro e W6 ⟨rfl,rfl⟩
   clear CS
   go_wp2_with fail
   go_loopw [39] (fun iw wr=>∃i:Nat,iw= .int .i64 (i:Nat)∧i≤p.z∧Hid (Sr w N B o A b a p sb nb k (kA p.F p.n++kH p.g i) wr)) (fun iw _=>p.z - (intOf iw).toNat)
   case atStart=>exact ⟨0,rfl,Nat.zero_le _,HR5⟩
   case round=>
    obtain ⟨i,rfl,hi2,HR⟩:=hrel
    clear HR5 c1
    have c1:=HR.out.2.1.c1
    unfold pp at c1
    by_cases hlt:i<p.z
    ·have hlt':(i:Int)<(p.z:Int):=by omega
     have CA:=at_in i wr HR.out.2.1.pt hlt
     unfold pp at CA
     have ek:kA p.F p.n++kH p.g (i+1)=kA p.F p.n++kH p.g i++(if (p.g.X i).1=0 then [] else [p.g.K i]):=by rw[kH,List.append_assoc]
     have hlen:(kA p.F p.n++kH p.g i).length≤131072:=by
      have h1:=kA_len p.F p.n
      have h2:=kH_len p.g i
      rw[List.length_append];omega
     go_wp2_with fail
     refine CA.mono ?_;rintro e W7 ⟨rfl,hb7⟩
     have HR7:Hid (Sr w N B o A b a p sb nb k (kA p.F p.n++kH p.g i) (W7.alloc (.cells #[.int .i64 (p.g.K i).1,.int .i64 (p.g.K i).2.1,.string (p.g.K i).2.2,.int .i64 (p.g.X i).1,.int .i64 (p.g.X i).2.1,.string (p.g.X i).2.2,.int .i64 (link (pl p.z) p.g i)] 123))):=(HR.out.below hb7).below (b1 _ _)
     clear HR hb7 CA
     generalize link (pl p.z) p.g i=lk at *
     generalize p.g.K i=ky at *
     generalize p.g.X i=x at *
     by_cases hx:x.1=0
     ·rw[if_pos hx,List.append_nil] at ek
      have HEk:Hid (kA p.F p.n++kH p.g (i+1)=kA p.F p.n++kH p.g i):=ek
      have hxb:(x.1 !=0)=false:=by simp[hx]
      clear ek hx
      go_wp2_with fail
      go_round
      case rel=>exact ⟨i+1,by go_num,by omega,by rw[HEk.out];exact HR7⟩
      case measure=>simp[intOf];omega
     ·have hxb:(x.1 !=0)=true:=by simp[hx]
      rw[if_neg hx] at ek
      have HEk:Hid (kA p.F p.n++kH p.g (i+1)=kA p.F p.n++kH p.g i++[ky]):=ek
      clear ek hx
      have CC:=count_any (N+1) _ _ ky HR7.out.1 (by omega)
      unfold vv vl at CC
      go_wp2_with (go_at_fn 114;refine CC.mono ?_;rintro e W8 ⟨rfl,hc4,hb4⟩;have HR8:Hid (Sr w N B o A b a p sb nb k (kA p.F p.n++kH p.g i++[ky]) W8):=HR7.out.step hc4 hb4;clear hc4 hb4)
      go_round
      case rel=>exact ⟨i+1,by go_num,by omega,by rw[HEk.out];exact HR8⟩
      case measure=>simp[intOf];omega
    ·obtain rfl:i=p.z:=by omega
     have hnlt:¬((p.z:Int)<(p.z:Int)):=by omega
     have HRr:Hid (Sr w N B o A b a p sb nb k (pres p) wr):=HR
     have hlen:(pres p).length≤131072:=by
      have h1:=kA_len p.F p.n
      have h2:=kH_len p.g p.z
      unfold pres
      rw[List.length_append];omega
     have b0:=HR.out.2.2.1.c0
     have b1':=HR.out.2.2.1.c1
     have b2':=HR.out.2.2.1.c2
     have CC:=count_any (N+1) _ _ k HRr.out.1 (by omega)
     unfold vv vl at CC
     clear HR
     have HF:Hid (C.Fit (ints (pres p++[k]))):=ints_fit hk
     have HLn:Hid ((ints (pres p++[k])).length≤200000):=by
      show _≤_
      have h1:=ints_len (pres p++[k])
      rw[List.length_append] at h1
      simp only[List.length_singleton] at h1
      omega
     generalize hpl:pres p++[k]=pl at *
     have HPL:Hid (pres p++[k]=pl):=hpl
     clear hpl hk hlen
     go_wp2_with (first
      | (go_at_fn 114
         refine CC.mono ?_
         rintro e W9 ⟨rfl,hc9,hb9⟩
         have HR9:Hid (Sr w N B o A b a p sb nb k pl W9):=HRr.out.step hc9 hb9
         obtain ⟨vi,y1,y2⟩:=hc9.ci
         have y3:=hc9.co
         have CZ:=C.sizes_any _ (oth pl:Nat) vi W9 (C.ints_own y2) HF.out (by have:=HLn.out;omega)
         clear hc9 hb9 y2)
      | (go_at_call 115
         refine CZ.mono ?_
         rintro e W10 ⟨rfl,hb10⟩
         have HR10:Hid (Below N w W10):=HR9.out.2.2.2.1.trans (hb10.mono (by have:=HR9.out.1.lt;omega))
         clear hb10))
     refine bodyPost_ret (v:=.tuple #[.int .i64 (C.szA (ints pl) (oth pl:Nat)),.int .i64 (C.szH (ints pl) (oth pl:Nat)),.int .i64 (C.szE (ints pl) (oth pl:Nat))]) (by simp[results,Tryz.results90,go_sem]) rfl ⟨by rw[HPL.out],HR10.out⟩
end Go.Proofs.YtkmopcanaalemabGreat


namespace Go.Proofs.YtkmopcanaalemabGreat
open Go.RowKit
theorem run_copy3 {P : Program} (w : World) (dT sT ty elem : TypeId) (g dLen dCap : Nat) (a : Addr) (sLen sCap : Nat) (cur : Array Value) (t : TypeId) (cs : List Value)
    (hu : P.underlying dT = some (.slice elem)) (hs : (P.info? elem).map (·.size) = some 3)
    (hg : w.heap[g]? = some (.cells cur t (0,0))) (hn : cs.length = Nat.min sLen dLen * 3)
    (hsrc : ∀ j v,cs[j]? = some v → w.cell? (a.add j) = some v) (hfit : cs.length ≤ cur.size) (h1 : ∀ v ∈ cs,v.oneCell' = true) :
    (Builtin.copy_ #[dT,sT] ty #[.slice (some ⟨g,0,none⟩) dLen dCap,.slice (some a) sLen sCap]).run P w = .ok (goInt (Nat.min sLen dLen : Nat)) (w.setRow g (cs ++ cur.toList.drop cs.length).toArray):=by
  have hl:=run_loadCells_list (P:=P) w a cs hsrc
  have hst:=run_storeCells_at P g 0 t cs 0 cur w hg (by simpa using hfit) h1
  simp only [Nat.add_zero,Nat.zero_add,List.take_zero,List.nil_append] at hst
  cases hq : P.info? elem with
  | none=>simp [hq] at hs
  | some i =>
    have hi : i.size = 3:=by simpa [hq] using hs
    rw [hn] at hl
    simp [Builtin.copy_,run_underlying hu,Builtin.lenOf,Builtin.firstCells,sizeOf,typeInfo,hq,hi,hl,hst]
theorem copy_vals {w : World} {Ab Ao n m : Nat} {F : Nat → V} (ty : TypeId) (hA : w.heap[Ab]? = some (.cells (zeros3 n) 36)) (hF : Rv w Ao m F) :
    ∃ w',(Builtin.copy_ #[22,22] ty #[.slice (some ⟨Ab,0,none⟩) n n,.slice (some ⟨Ao,0,none⟩) m m]).run Tryz.prog w = .ok (.int .i64 ((min n m : Nat) : Int)) w' ∧
      Rv w' Ab n (fun i=>if i < min n m then F i else nil) ∧ (∀ j,w'.frozen? ⟨Ab,j,none⟩ = false) ∧ Keep (fun x=>x ≠ Ab) w w':=by
  have hlen : (cellsV F (min n m)).length = Nat.min m n * 3:=by rw [cellsV_len];show _ = min m n * 3;rw [Nat.min_comm]
  have hsz : (zeros3 n).size = n * 3:=by simp [zeros3,madeCells]
  have hr:=run_copy3 (P:=Tryz.prog) w 22 22 ty 36 Ab n n ⟨Ao,0,none⟩ m m (zeros3 n) 36 (cellsV F (min n m)) Tryz.underlying22 (by kernel_rfl) hA hlen (fun j v hj=>?_) (by rw [cellsV_len,hsz];have:=Nat.min_le_left n m;omega) (cellsV_one F _)
  · rw [show Nat.min m n = min n m from Nat.min_comm _ _] at hr
    refine ⟨w.setRow Ab (cellsV F (min n m) ++ (zeros3 n).toList.drop (cellsV F (min n m)).length).toArray,hr,⟨fun i hi j hj=>?_⟩,fun j=>?_,⟨rfl,rfl,rfl,by simp [World.setRow],fun g _ hg=>setRow_other _ _ _ _ hg⟩⟩
    · rw [cell_of_row (setRow_heap w Ab _ _ _ _ hA)]
      simp only [List.getElem?_toArray]
      by_cases q : i < min n m
      · rw [if_pos q,List.getElem?_append_left (by rw [cellsV_len];omega),cellsV_at _ _ _ (by omega)]
        rw [show (i * 3 + j) / 3 = i by omega,show (i * 3 + j) % 3 = j by omega]
      · rw [if_neg q,List.getElem?_append_right (by rw [cellsV_len];omega),List.getElem?_drop,cellsV_len]
        have e : min n m * 3 + (i * 3 + j - min n m * 3) = i * 3 + j:=by omega
        rw [e]
        have h0:=(zeros_rv hA).c i hi j hj
        rw [cell_of_row hA] at h0
        simpa using h0
    · exact H.free_row (setRow_heap w Ab _ _ _ _ hA) j
  · have hj2 : j < min n m * 3:=by have:=(List.getElem?_eq_some_iff.1 hj).1;rwa [cellsV_len] at this
    rw [cellsV_at _ _ _ hj2] at hj
    injection hj with hj
    have hadd : (⟨Ao,0,none⟩ : Addr).add j = ⟨Ao,j,none⟩:=by unfold Addr.add;split <;> simp_all
    rw [hadd,← hj]
    have:=hF.c (j / 3) (by have:=Nat.min_le_right n m;omega) (j % 3) (by omega)
    rwa [show j / 3 * 3 + j % 3 = j by omega] at this
theorem wp_copy_run {P : Program} (w : World) {o : Oper} {a : Act} {K : Act → World → Prop} {Q : Exit → Act → World → Prop} (d s : Operand) (t t' : TypeId)
    (ho : o.op = .call { callee:=.builtin .copy,args:=#[d,s],argTypes:=#[t,t'] }) (v u : Value) (hd : a.eval d = v) (hs : a.eval s = u) {v' : Value} {w' : World}
    (hr : (Builtin.copy_ #[t,t'] o.type #[v,u]).run P w = .ok v' w') (h : K (a.put o.dst v') w') : o.wp P a w K Q:=by
  unfold Oper.wp execOp
  simp only [ho,resolve,invoke,builtin,Sem.run_bind,Sem.run_pure,Result.andThen_ok,List.map_toArray,List.map_cons,List.map_nil,hd,hs,hr]
  exact h
theorem wpList_copy_run {P : Program} (w : World) {ops : Array Oper} {rest : List Oper} {o : Oper} {a : Act} {Q : Exit → Act → World → Prop} (hgd : o.guard = none) (d s : Operand) (t t' : TypeId)
    (ho : o.op = .call { callee:=.builtin .copy,args:=#[d,s],argTypes:=#[t,t'] }) (v u : Value) (hd : a.eval d = v) (hs : a.eval s = u) {v' : Value} {w' : World}
    (hr : (Builtin.copy_ #[t,t'] o.type #[v,u]).run P w = .ok v' w') (h : wpList P ops Q rest (a.put o.dst v') w') : wpList P ops Q (o :: rest) a w :=
  wpList_plain hgd fun _ hK=>wp_copy_run w d s t t' ho v u hd hs hr (hK _ _ h)
end Go.Proofs.YtkmopcanaalemabGreat
