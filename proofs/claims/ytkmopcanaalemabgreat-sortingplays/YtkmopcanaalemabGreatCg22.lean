import Derived.Test.YtkmopcanaalemabGreatCg21
import Derived.Test.YtkmopcanaalemabGreatCg03
import Derived.Deep.RegionLaw
import Derived.Deep.AppendLies
import Derived.Test.YtkmopcanaalemabGreatCg06
import Derived.Test.YtkmopcanaalemabGreatCg07
namespace Go.Proofs.YtkmopcanaalemabGreat.C
open Go.RowKit
def hs (x:Int):Nat:=((x % 18446744073709551616) % 251).toNat
theorem hs_lt (x:Int):hs x<251:=by unfold hs;omega
theorem hs_wrap (x:Int):wrap64 ((IntKind.u64.wrap x).tmod 251)=(hs x:Int):=by
 unfold hs
 rw[IntKind.wrap_u64]
 have q0:0≤x % 18446744073709551616:=by omega
 rw[Int.tmod_eq_emod_of_nonneg q0,wrap64_id _ (by omega) (by omega)]
 omega
def bk (l:List Int) (j:Nat):List Int:=l.filter (fun x=>decide (hs x=j))
theorem bk_len (l:List Int) (j:Nat):(bk l j).length≤l.length:=List.length_filter_le _ _
theorem bk_succ (l:List Int) (k:Nat) (h:k<l.length) (j:Nat):bk (l.take (k+1)) j=bk (l.take k) j++(if hs (l.getD k 0)=j then [l.getD k 0] else []):=by
 unfold bk
 rw[take_snoc l k h,List.filter_append]
 congr 1
 by_cases hq:hs (l.getD k 0)=j
 ·rw[if_pos hq];simpa using hq
 ·rw[if_neg hq];simpa using hq
theorem bk_dup (l:List Int) (k:Nat) (h:k<l.length) (u:Nat) (hu:u<(bk (l.take k) (hs (l.getD k 0))).length) (he:(bk (l.take k) (hs (l.getD k 0))).getD u 0=l.getD k 0):¬l.Nodup:=by
 intro hn
 have hm:l.getD k 0∈l.take k:=by
  have h1:=List.getElem_mem (l:=bk (l.take k) (hs (l.getD k 0))) hu
  rw[getD_eq _ u hu] at he
  rw[he] at h1
  exact (List.mem_filter.1 h1).1
 have h2:(l.take (k+1)).Nodup:=hn.sublist (List.take_sublist _ _)
 rw[take_snoc l k h,List.nodup_append] at h2
 exact h2.2.2 _ hm _ (by simp) rfl
theorem bk_new (l:List Int) (k:Nat) (h:k<l.length) (hn:(l.take k).Nodup) (hu:∀u,u<(bk (l.take k) (hs (l.getD k 0))).length→¬(bk (l.take k) (hs (l.getD k 0))).getD u 0=l.getD k 0):(l.take (k+1)).Nodup:=by
 rw[take_snoc l k h,List.nodup_append]
 refine ⟨hn,by simp,fun a ha b hb e=>?_⟩
 simp at hb
 have hm:l.getD k 0∈bk (l.take k) (hs (l.getD k 0)):=by
  refine List.mem_filter.2 ⟨?_,by simp⟩
  have :a=l.getD k 0:=by rw[e,hb];rfl
  rw[←this];exact ha
 obtain ⟨u,hlt,he⟩:=List.getElem_of_mem hm
 exact hu u hlt (by rw[getD_eq _ u hlt];exact he)
structure Bks (G:Nat) (w:World) (vs:Nat→Value) (b:Nat→List Int):Prop where
 cell:∀j,j<256→w.cell? ⟨G,j,none⟩=some (vs j)
 free:∀j,j<256→w.frozen? ⟨G,j,none⟩=false
 own:∀j,j<256→w.ownsRow (G+1) 3 1 (vs j) (b j).length ((b j).map (Value.int .i64))
 apart:∀i j,i<256→j<256→i≠j→(vs i).ownBlock=none∨(vs i).ownBlock≠(vs j).ownBlock
 lt:G<w.heap.size
theorem Bks.drew {G:Nat} {w:World} {vs:Nat→Value} {b:Nat→List Int} (h:Bks G w vs b):Bks G w.drew vs b:=⟨h.cell,h.free,h.own,h.apart,h.lt⟩
theorem Bks.at {G:Nat} {w:World} {vs:Nat→Value} {b:Nat→List Int} (h:Bks G w vs b) (j:Nat) (hj:j<256):
 ∃a cap,vs j= .slice a (b j).length cap∧∀w',Bks G w' vs b→b j≠[]→∃g off,a=some ⟨g,off,none⟩∧∀i,i<(b j).length→w'.cell? ⟨g,off+i,none⟩=some (.int .i64 ((b j).getD i 0)):=by
 obtain ⟨a,cap,e,_,_⟩:=ints_own (h.own j hj)
 refine ⟨a,cap,e,fun w' h' hne=>?_⟩
 obtain ⟨a',cap',e',_,hc⟩:=ints_own (h'.own j hj)
 rw[e] at e'
 injection e' with e1 _ _
 subst e1
 obtain ⟨g,off,q1,_,q2⟩:=hc hne
 exact ⟨g,off,q1,q2⟩
theorem gset (w:World) (b i:Nat) (v:Value):w.grownBy (w.setCell ⟨b,i,none⟩ v) (some b):=
 ⟨rfl,rfl,rfl,by simp[World.setCell],fun k _ hk=>Below.heap_setCell _ _ _ _ (fun e=>hk (by simp[e]))⟩
theorem Bks.upd {G:Nat} {w w1:World} {vs:Nat→Value} {b b':Nat→List Int} (h:Bks G w vs b) (j:Nat) (hj:j<256) (v':Value) (x:Int) (hg:w.grownBy w1 (vs j).ownBlock)
 (hown:w1.ownsRow (G+1) 3 1 v' ((b j).length+1) ((b j).map (Value.int .i64)++[.int .i64 x])) (hloc:(vs j).ownBlock=v'.ownBlock∨∃g,v'.ownBlock=some g∧w.heap.size≤g)
 (hb:b' j=b j++[x]) (ho:∀i,i≠j→b' i=b i):Bks G (w1.setCell ⟨G,j,none⟩ v') (fun i=>if i=j then v' else vs i) b':=by
 have hG:∀i,i<256→some G≠(vs i).ownBlock:=fun i hi e=>by
  have:=((h.own i hi).lt G e.symm).1
  omega
 have hG':some G≠v'.ownBlock:=fun e=>by
  have:=(hown.lt G e.symm).1
  omega
 have hc:∀i,i<256→w1.cell? ⟨G,i,none⟩=some (vs i):=fun i hi=>by rw[hg.cell_far _ h.lt (hG j hj)];exact h.cell i hi
 have hap:∀i,i<256→i≠j→(vs i).ownBlock=none∨(vs i).ownBlock≠v'.ownBlock:=fun i hi hij=>by
  rcases hloc with e | ⟨g,e,hge⟩
  ·rw[←e];exact h.apart i j hi hj hij
  ·rw[e]
   cases q:(vs i).ownBlock with
   | none=>exact .inl rfl
   | some y=>
     have:=((h.own i hi).lt y q).2
     exact .inr (fun q2=>by injection q2 with q2;omega)
 have hgs:=gset w1 G j v'
 refine ⟨fun i hi=>?_,fun i hi=>?_,fun i hi=>?_,fun i k hi hk hik=>?_,by have:=hg.size;have:=h.lt;simp;omega⟩
 ·by_cases hij:i=j
  ·subst hij
   rw[if_pos rfl]
   exact World.cell?_setCell_same _ _ _ (hc i hi)
  ·rw[if_neg hij,World.cell?_setCell_other _ _ _ _ (fun q=>by injection q with _ q2;omega)]
   exact hc i hi
 ·rw[World.frozen?_setCell,hg.frozen_far _ h.lt (hG j hj)];exact h.free i hi
 ·by_cases hij:i=j
  ·subst hij
   rw[if_pos rfl,hb]
   refine World.ownsRow.kept ?_ hgs (.inr (Ne.symm hG'))
   simpa using hown
  ·rw[if_neg hij,ho i hij]
   exact ((h.own i hi).kept hg (h.apart i j hi hj hij)).kept hgs (.inr (Ne.symm (hG i hi)))
 ·by_cases hij:i=j
  ·subst hij
   rw[if_pos rfl,if_neg (Ne.symm hik)]
   rcases hap k hk (Ne.symm hik) with q | q
   ·rw[q]
    cases v'.ownBlock with
    | none=>exact .inl rfl
    | some y=>exact .inr (by simp)
   ·exact .inr (Ne.symm q)
  ·rw[if_neg hij]
   by_cases hkj:k=j
   ·rw[if_pos hkj];exact hap i hi hij
   ·rw[if_neg hkj];exact h.apart i k hi hk hik
theorem balloc' (w:World) (o:Obj):Below w.heap.size w (w.alloc o):=(Below.refl _ _).alloc (Nat.le_refl _) o
theorem info22:(Tryz.prog.info? 46).map (fun i=>(i.zero,i.size,i.bytes))=some (some (.slice none 0 0),1,24):=by kernel_rfl
theorem make_lists (W:World):(Instr.makeSlice 74 (.int .i64 256) (.int .i64 256)).run Tryz.prog W= .ok (.slice (some ⟨W.heap.size,0,none⟩) 256 256) (W.alloc (.cells (madeCells (Value.slice none 0 0).cells (256 * 1)) 46)):=by
 obtain ⟨i0,hi,hz0,hz1,hz2⟩:=info_parts info22
 have h:=run_make (P:=Tryz.prog) W 74 46 i0 (.slice none 0 0) Tryz.underlying74 hi hz0 .i64 .i64 256 256 (by omega) (Int.le_refl _) (by rw[hz2];omega) (by omega)
 rw[hz1] at h
 simpa using h
theorem bks_made (W:World):Bks W.heap.size (W.alloc (.cells (madeCells (Value.slice none 0 0).cells (256 * 1)) 46)) (fun _=>.slice none 0 0) (fun _=>[]):=by
 refine ⟨fun j hj=>?_,fun j hj=>new_free W _ _ j,fun j hj=>World.ownsRow_nil _ _ _ _,fun i j hi hj hij=>.inl rfl,by simp⟩
 rw[cell_of_row (MapKept.heap_alloc W _).1]
 simp[madeCells,Value.cells,hj,Nat.mod_one]
set_option maxRecDepth 20000 in
set_option maxHeartbeats 2000000 in
theorem rtwice_any (l:List Int) (v:Value) (w:World) (h:Ints w.heap.size w v l) (hlen:l.length≤1000000):
 Calls Tryz.prog 130 #[v] w fun e w'=>e= .returned (.bool (decide (¬l.Nodup)))∧Below w.heap.size w w':=by
 obtain ⟨a,cap,rfl,hcap,h⟩:=h
 have HC:Hid _:=h
 have HL:Hid (l≠[]↔0<l.length):=by
  show _↔_
  cases l<;>simp
 have HD:Hid (∀k,k<l.length→∀u,u<(bk (l.take k) (hs (l.getD k 0))).length→(bk (l.take k) (hs (l.getD k 0))).getD u 0=l.getD k 0→decide (¬l.Nodup)=true):=fun k hk u hu he=>by
  simpa using bk_dup l k hk u hu he
 have HN:Hid (∀k,k<l.length→(l.take k).Nodup→(∀u,u<(bk (l.take k) (hs (l.getD k 0))).length→¬(bk (l.take k) (hs (l.getD k 0))).getD u 0=l.getD k 0)→(l.take (k+1)).Nodup):=fun k hk hn hu=>bk_new l k hk hn hu
 have HS:Hid (∀k,k<l.length→∀j,bk (l.take (k+1)) j=bk (l.take k) j++(if hs (l.getD k 0)=j then [l.getD k 0] else [])):=fun k hk j=>bk_succ l k hk j
 have HE:Hid ((l.take l.length).Nodup→decide (¬l.Nodup)=false):=fun q=>by
  rw[List.take_length] at q
  simpa using q
 have HB:Hid (∀k j,k≤l.length→(bk (l.take k) j).length≤1000000):=fun k j hk=>by
  have:=bk_len (l.take k) j
  rw[List.length_take] at this
  omega
 clear h hcap
 have hmk:=make_lists w
 have M:Bks w.heap.size (w.alloc (.cells (madeCells (Value.slice none 0 0).cells (256 * 1)) 46)) (fun _=>.slice none 0 0) (bk (l.take 0)):=bks_made w
 have m3:Below w.heap.size w (w.alloc (.cells (madeCells (Value.slice none 0 0).cells (256 * 1)) 46)):=(Below.refl _ _).alloc (Nat.le_refl _) _
 obtain ⟨W1,hW1⟩:∃W1,W1=(w.alloc (.cells (madeCells (Value.slice none 0 0).cells (256 * 1)) 46)):=⟨_,rfl⟩
 rw[←hW1] at hmk M m3
 clear hW1
 have HM:Hid _:=M
 clear M
 obtain ⟨L,hL⟩:∃L,l.length=L:=⟨_,rfl⟩
 rw[hL] at HC HL HS HB HD HN HE hlen⊢
 obtain ⟨G,hG⟩:∃G,w.heap.size=G:=⟨_,rfl⟩
 rw[hG] at hmk HM m3 HC⊢
 clear hL
 go_enter Tryz.func130,Tryz.ntmps130
 go_wp2_with fail
 go_loopw [4] (fun i wr=>∃k:Nat,i= .int .i64 k∧k≤L∧Hid ((l.take k).Nodup∧∃vs,Bks G wr vs (bk (l.take k)))∧Below G w wr) (fun i _=>L - (intOf i).toNat)
 case atStart=>exact ⟨0,rfl,by omega,⟨by simp,_,HM.out⟩,m3⟩
 case round=>
  obtain ⟨k,rfl,hk,HR,hb⟩:=hrel
  by_cases hlt:k<L
  ·have hlt':(k:Int)<(L:Int):=by omega
   obtain ⟨g,off,rfl,hg,hc⟩:=HC.out (HL.out.2 (by omega))
   have c1:∀wr,Below G w wr→wr.cell? ⟨g,off+k,none⟩=some (.int .i64 (l.getD k 0)):=fun wr hb=>by rw[hb.cell (by exact hg)];exact hc k hlt
   have c1r:=c1 wr hb
   obtain ⟨hnd,vs,hbk⟩:=HR.out
   have HD2:Hid _:=HD.out k hlt
   have HN2:Hid _:=HN.out k hlt hnd
   have HS2:Hid _:=HS.out k hlt
   have hB2:=HB.out k (hs (l.getD k 0)) hk
   have hh:=hs_wrap (l.getD k 0)
   have hj:=hs_lt (l.getD k 0)
   have HK:Hid _:=hbk
   obtain ⟨ab,capb,eb,hat⟩:=hbk.at (hs (l.getD k 0)) (by omega)
   have HA:Hid _:=hat
   have EB:Hid _:=eb
   clear hc HC HR HD HN HS HB hnd hat eb HM hmk m3 HE HL
   generalize bk (l.take k)=B at *
   generalize l.getD k 0=x at *
   generalize hs x=j at *
   have hj':(j:Int)<256:=by omega
   obtain ⟨n,hn⟩:∃n,(B j).length=n:=⟨_,rfl⟩
   have HLn:Hid _:=hn
   rw[hn] at hB2 HA EB HD2 HN2
   clear hn
   go_wp2_with fail
   go_loopw [6] (fun q wr=>∃t:Nat,q= .int .i64 t∧t≤n∧Hid (∀u,u<t→¬(B j).getD u 0=x)∧Hid (Bks G wr vs B)∧Below G w wr) (fun q _=>n - (intOf q).toNat)
   case atStart=>exact ⟨0,rfl,by omega,fun u hu=>absurd hu (by omega),HK,hb⟩
   case round=>
    obtain ⟨t,rfl,ht,HT,HK2,hb2⟩:=hrel
    have d1:=HK2.out.cell j (by omega)
    rw[show vs j=_ from EB.out] at d1
    have c1t:=c1 _ hb2
    by_cases htn:t<n
    ·have htn':(t:Int)<(n:Int):=by omega
     obtain ⟨gb,ob,rfl,hcb⟩:=HA.out _ HK2.out (fun q=>by have:=HLn.out;rw[q] at this;simp at this;omega)
     have d2:=hcb t (by have:=HLn.out;omega)
     have HD3:Hid _:=HD2.out t htn
     have HT2:Hid (¬(B j).getD t 0=x→∀u,u<t+1→¬(B j).getD u 0=x):=by
      intro q u hu
      by_cases hut:u=t
      ·subst hut;exact q
      ·exact HT.out u (by omega)
     clear hcb c1 HA HT
     generalize (B j).getD t 0=y at *
     by_cases hxy:y=x
     ·have HF:Hid _:=HD3.out hxy
      subst hxy
      clear HD3 HT2 HN2 HS2
      go_wp2_with fail
      go_region
      go_wp2_with fail
      go_ret
      exact ⟨retB HF.out,hb2.drew⟩
     ·have HT3:Hid _:=HT2.out hxy
      have hxy':(y==x)=false:=by simpa using hxy
      clear HD3 HT2 HN2 HS2
      go_wp2_with fail
      go_region
      go_wp2_with fail
      go_roundw
      case rel=>exact ⟨t+1,by go_num,by omega,HT3,HK2.out.drew,hb2.drew⟩
      case measure=>simp[intOf];omega
    ·obtain rfl:t=n:=by omega
     have HT3:Hid _:=HN2.out HT.out
     have f1:=HK2.out.free j (by omega)
     have o1:=HK2.out.own j (by omega)
     rw[show (B j).length=t from HLn.out,show vs j=_ from EB.out] at o1
     have hGs:=HK2.out.lt
     clear HN2 HD2 HT
     obtain ⟨i0,hi0,hz0,hz1,hz2⟩:=info_parts info3
     have lg:g<G:=hg
     have neG:some G≠(Value.slice ab t capb).ownBlock:=fun e=>by have:=(o1.lt G e.symm).1;omega
     have neg:some g≠(Value.slice ab t capb).ownBlock:=fun e=>by have:=(o1.lt g e.symm).1;omega
     have hUp:Hid (∀gg cap2 w1,(wr.drew.grownBy w1 (Value.slice ab t capb).ownBlock)→w1.ownsRow (G+1) 3 1 (.slice (some ⟨gg,0,none⟩) (t+1) cap2) (t+1) ((B j).map (Value.int .i64)++[.int .i64 x])→
      ((Value.slice ab t capb).ownBlock=some gg∨gg=wr.heap.size+1)→(∃vs,Bks G (w1.setCell ⟨G,j,none⟩ (.slice (some ⟨gg,0,none⟩) (t+1) cap2)) vs (bk (l.take (k+1))))∧Below G w (w1.setCell ⟨G,j,none⟩ (.slice (some ⟨gg,0,none⟩) (t+1) cap2))):=by
      intro gg cap2 w1 hgr hown hloc
      refine ⟨⟨_,HK2.out.drew.upd j (by omega) _ x (by rw[show vs j=_ from EB.out];exact hgr) (by rw[show (B j).length=t from HLn.out];exact hown) ?_ ?_ ?_⟩,?_⟩
      ·rw[show vs j=_ from EB.out]
       rcases hloc with q | q
       ·exact .inl q
       ·exact .inr ⟨gg,rfl,by rw[q];exact Nat.le_succ _⟩
      ·rw[HS2.out j,if_pos rfl]
      ·intro i hi
       rw[HS2.out i,if_neg (fun q=>hi q.symm),List.append_nil]
      ·exact (hb2.drew.grown hgr (by exact Nat.le_of_lt hGs) (fun y hy=>by have:=(o1.lt y hy).1;omega)).setCell (by simp) _
     clear HK HK2 HA HS2 EB
     go_wp2_with fail
     have d1a:(wr.alloc (.cells #[.int .i64 x] 3)).cell? ⟨G,j,none⟩=some (.slice ab t capb):=((balloc' wr _).cell (by exact hGs)).trans d1
     have f1a:(wr.alloc (.cells #[.int .i64 x] 3)).frozen? ⟨G,j,none⟩=false:=((balloc' wr _).frozen (by exact hGs)).trans f1
     go_region_law ((refine step_append_lies _ (by rfl) _ _ _ (by rfl) (G+1) 3 i0 _ 1 8 Tryz.underlying46 hi0 hz0 hz1 hz2 rfl (by omega) (.slice ab t capb) t ((B j).map (Value.int .i64)) (by rfl) ((o1.alloc _).drew) ⟨wr.heap.size,0,none⟩ 1 1 [.int .i64 x] (by rfl) (by rfl) (World.news_of_block (cs:=#[.int .i64 x]) (t:=3) (fr:=(0,0)) (heap_alloc_new wr _)) (by simp[Value.oneCell']) (by omega) (by unfold maxLen;omega) (by omega) (by simp;omega) (wr.heap.size+1) (by simp) ?_;intro gg cap2 w1 hown1 hgrow hat hlt;have d1w:=(hgrow.cell_far ⟨G,j,none⟩ (by simp;omega) neG).trans d1a;have f1w:=(hgrow.frozen_far ⟨G,j,none⟩ (by simp;omega) neG).trans f1a))
     all_goals
      go_wp2_with fail
      go_roundw
      case rel=>
       have U:=hUp.out gg cap2 w1 ((World.grownBy_alloc wr.drew _ _).trans hgrow) hown1 hat
       exact ⟨k+1,by go_num,by omega,⟨HT3.out,U.1⟩,U.2⟩
      case measure=>simp[intOf];omega
  ·obtain rfl:k=L:=by omega
   have HF:Hid _:=HE.out HR.out.1
   go_wp2
   go_ret
   exact ⟨retB HF.out,hb⟩
end Go.Proofs.YtkmopcanaalemabGreat.C


namespace Go.Proofs.YtkmopcanaalemabGreat.C
open Go.RowKit
theorem up2_unique (n:Int) (k:Nat) (h0:1≤n) (h1:n≤65536) (ha:n≤2 ^ k) (hb:k=0∨2 ^ (k - 1)<n.toNat):(2:Int) ^ k=up2 n:=by
 unfold up2 cl
 rw[if_neg (by omega),←lgN_unique n k h0 (by omega) (by have:=pow_int k;omega) hb]
set_option maxRecDepth 20000 in
set_option maxHeartbeats 2000000 in
theorem rsizes_any (l:List Int) (o:Int) (v:Value) (w:World) (h:Ints w.heap.size w v l) (hf:Fit l) (hlen:l.length≤1000000):
 Calls Tryz.prog 118 #[v,.int .i64 o] w fun e w'=>e= .returned (.tuple #[.int .i64 (szA l o),.int .i64 (szH l o),.int .i64 (szE l o)])∧Below w.heap.size w w':=by
 by_cases h0:o<0
 ·have e1:szE l o=1:=by unfold szE;rw[if_pos h0]
  have e2:szA l o=0:=by unfold szA;rw[e1,if_neg (by omega)]
  have e3:szH l o=0:=by unfold szH;rw[e1,if_neg (by omega)]
  rw[e1,e2,e3]
  obtain ⟨a,cap,rfl,hcap,h⟩:=h
  clear h hf e1 e2 e3
  generalize l.length=L at *
  go_enter Tryz.func118,Tryz.ntmps118
  go_wp2
  go_ret3
  exact ⟨rfl,Below.refl _ _⟩
 have C1:=rtwice_any l v w h hlen
 by_cases hn:l.Nodup
 ·have hd:decide (¬l.Nodup)=false:=by simpa using hn
  rw[hd] at C1
  have hok:=okC_cnt l hlen
  have hN:=chN_le l
  have C2:=fun w1 (hb:Below w.heap.size w w1)=>rcount_any l v w1 (h.go hb) hf hlen
  have C3:∀w2 G,Own17 G w2 (cnt l)→Calls Tryz.prog 131 #[.slice (some ⟨G,0,none⟩) 17 17] w2 fun e w'=>e= .returned (.tuple #[.int .i64 (chA (cntL l) 17),.int .i64 (chN (cntL l) 17),.int .i64 0])∧w'=w2:=fun w2 G q=>rchoose_ok (cntL l) _ w2 q.ints' hok
  have e1:szE l o=if 65536<o∨65536<o+rest l then 14 else 0:=by unfold szE;rw[if_neg h0,if_neg (by simpa using hn)]
  unfold szA szH
  rw[e1]
  unfold rest
  obtain ⟨a,cap,rfl,hcap,h⟩:=h
  clear h hf hcap hn hok hd e1
  generalize l.length=L at *
  generalize chN (cntL l) 17=N at *
  generalize chA (cntL l) 17=A at *
  obtain ⟨hN0,hN1⟩:=hN
  by_cases hb1:65536<o
  ·have e:(if 65536<o∨65536<o+((L:Int) - N) then (14:Int) else 0)=14:=if_pos (.inl hb1)
   rw[e,if_neg (by omega),if_neg (by omega)]
   clear e
   go_enter Tryz.func118,Tryz.ntmps118
   go_wp2_with fail
   refine C1.mono ?_
   rintro e w1 ⟨rfl,hb⟩
   go_wp2_with fail
   refine (C2 w1 hb).mono ?_
   rintro e w2 ⟨rfl,ho,hb2⟩
   go_wp2_with fail
   refine (C3 _ _ ho).mono ?_
   rintro e w3 ⟨rfl,rfl⟩
   clear ho C1 C2 C3
   go_wp2_with fail
   go_ret3
   exact ⟨rfl,bthen hb hb.size hb2⟩
  ·by_cases hb2:65536<o+(L - N)
   ·have e:(if 65536<o∨65536<o+((L:Int) - N) then (14:Int) else 0)=14:=if_pos (.inr hb2)
    rw[e,if_neg (by omega),if_neg (by omega)]
    clear e
    go_enter Tryz.func118,Tryz.ntmps118
    go_wp2_with fail
    refine C1.mono ?_
    rintro e w1 ⟨rfl,hb⟩
    go_wp2_with fail
    refine (C2 w1 hb).mono ?_
    rintro e w2 ⟨rfl,ho,hb2⟩
    go_wp2_with fail
    refine (C3 _ _ ho).mono ?_
    rintro e w3 ⟨rfl,rfl⟩
    clear ho C1 C2 C3
    go_wp2_with fail
    go_ret3
    exact ⟨rfl,bthen hb hb.size hb2⟩
   ·have e:(if 65536<o∨65536<o+((L:Int) - N) then (14:Int) else 0)=0:=if_neg (by omega)
    rw[e,if_pos rfl,if_pos rfl]
    clear e
    have HU:Hid (∀k:Nat,1≤(L:Int) - N+o→(L:Int) - N+o≤2 ^ k→(k=0∨2 ^ (k - 1)<((L:Int) - N+o).toNat)→(2:Int) ^ k=up2 (o+(L - N))):=fun k h1 h2 h3=>by
     rw[show o+((L:Int) - N)=(L:Int) - N+o by omega]
     exact up2_unique _ k h1 (by omega) h2 h3
    by_cases hz:(L:Int) - N+o=0
    ·have hz':up2 (o+(L - N))=0:=by unfold up2;rw[if_pos (by omega)]
     rw[hz']
     clear HU hz'
     go_enter Tryz.func118,Tryz.ntmps118
     go_wp2_with fail
     refine C1.mono ?_
     rintro e w1 ⟨rfl,hb⟩
     go_wp2_with fail
     refine (C2 w1 hb).mono ?_
     rintro e w2 ⟨rfl,ho,hb2⟩
     go_wp2_with fail
     refine (C3 _ _ ho).mono ?_
     rintro e w3 ⟨rfl,rfl⟩
     clear ho C1 C2 C3
     go_wp2_with fail
     go_ret3
     exact ⟨rfl,bthen hb hb.size hb2⟩
    ·have hz':((L:Int) - N+o==0)=false:=by simpa using hz
     have hM0:1≤(L:Int) - N+o:=by omega
     have hM1:(L:Int) - N+o≤65536:=by omega
     generalize up2 (o+(L - N))=H at *
     go_enter Tryz.func118,Tryz.ntmps118
     go_wp2_with fail
     refine C1.mono ?_
     rintro e w1 ⟨rfl,hb⟩
     go_wp2_with fail
     refine (C2 w1 hb).mono ?_
     rintro e w2 ⟨rfl,ho,hb2⟩
     go_wp2_with fail
     refine (C3 _ _ ho).mono ?_
     rintro e w3 ⟨rfl,rfl⟩
     clear ho C1 C2 C3
     go_wp2_with fail
     generalize (L:Int) - N+o=M at *
     go_loop [12] (fun p=>∃k:Nat,p= .int .i64 (2 ^ k)∧k≤16∧Hid (k=0∨2 ^ (k - 1)<M.toNat)) (fun p=>(65537 - intOf p).toNat)
     case atStart=>exact ⟨0,rfl,by omega,.inl rfl⟩
     case round=>
      obtain ⟨k,rfl,hk,HT⟩:=hrel
      obtain ⟨hp0,hp1⟩:=pow16 k hk
      have hpi:=pow_int k
      have HS:Hid (∀P,(2:Int) ^ k=P→P * 2=2 ^ (k+1)):=fun P hP=>by rw[Int.pow_succ,hP]
      have HQ:Hid ((2:Int) ^ k<M→k≤15∧2 ^ (k+1 - 1)<M.toNat):=fun q=>by
       refine ⟨?_,by rw[Nat.add_sub_cancel];omega⟩
       by_cases h16:k=16
       ·subst h16;omega
       ·omega
      have HF:Hid (¬(2:Int) ^ k<M→(2:Int) ^ k=H):=fun q=>HU.out k hM0 (by omega) HT.out
      obtain ⟨P,hP⟩:∃P,(2:Int) ^ k=P:=⟨_,rfl⟩
      have HS2:Hid _:=HS.out P hP
      rw[hP] at hp0 hp1 HQ HF⊢
      clear hP HS hpi HT HU
      by_cases hq:P<M
      ·have HQ2:Hid _:=HQ.out hq
       clear HQ HF
       go_wp2_with fail
       go_round
       case rel=>exact ⟨k+1,congrArg (Value.int .i64) HS2.out,by have:=HQ2.out.1;omega,.inr HQ2.out.2⟩
       case measure=>simp[intOf];omega
      ·have HF2:Hid _:=HF.out hq
       clear HQ HF
       go_wp2_with fail
       go_ret3
       exact ⟨ret3 rfl HF2.out rfl,bthen hb hb.size hb2⟩
 ·have hd:decide (¬l.Nodup)=true:=by simpa using hn
  rw[hd] at C1
  have e1:szE l o=2:=by unfold szE;rw[if_neg h0,if_pos hn]
  have e2:szA l o=0:=by unfold szA;rw[e1,if_neg (by omega)]
  have e3:szH l o=0:=by unfold szH;rw[e1,if_neg (by omega)]
  rw[e1,e2,e3]
  obtain ⟨a,cap,rfl,hcap,h⟩:=h
  clear h hf e1 e2 e3
  generalize l.length=L at *
  go_enter Tryz.func118,Tryz.ntmps118
  go_wp2_with fail
  refine C1.mono ?_
  rintro e w1 ⟨rfl,hb⟩
  go_wp2_with fail
  go_ret3
  exact ⟨rfl,hb⟩
end Go.Proofs.YtkmopcanaalemabGreat.C


namespace Go.Proofs.YtkmopcanaalemabGreat
open Go.RowKit
theorem ints_take {F : Nat → V} {m : Nat} {l : List V} (h : Is F m l) {i : Nat} (hi : i < m) : ints (l.take (i + 1)) = ints (l.take i) ++ (if (F i).1 = 2 then [(F i).2.1] else []):=by
  have e:=h.2 i hi
  rw [List.take_add_one,e]
  show ints (l.take i ++ [F i]) = _
  rw [ints_app]
  congr 1
  unfold ints
  by_cases q : (F i).1 = 2
  · simp [q]
  · simp [q]
theorem ints_push {w0 w : World} {B : Nat} {v : Value} {l : List Int} (hb : Below B w0 w) (hB : B ≤ w.heap.size) (h : w.ownsRow B 3 1 v l.length (l.map (Value.int .i64))) (x : Int) (hn : l.length ≤ 200000) :
    ∃ g c w',(Builtin.append_ #[46,46] 46 #[v,.slice (some ⟨w.heap.size,0,none⟩) 1 1]).run Tryz.prog (w.alloc (.cells #[.int .i64 x] 3)) = .ok (.slice (some ⟨g,0,none⟩) (l.length + 1) c) w' ∧ w'.ownsRow B 3 1 (.slice (some ⟨g,0,none⟩) (l.length + 1) c) (l ++ [x]).length ((l ++ [x]).map (Value.int .i64)) ∧ Below B w0 w':=by
  have b5:=b1 w (.cells #[.int .i64 x] 3)
  have h2 : (w.alloc (.cells #[.int .i64 x] 3)).ownsRow B 3 1 v l.length (l.map (Value.int .i64)):=h.kept ⟨b5.os,b5.tape,b5.output,b5.size,fun i hi _=>b5.block i hi⟩ (row:=none) (by cases v.ownBlock <;> simp)
  obtain ⟨j0,hji,hz0,hz1,hz2⟩:=info_parts info3
  obtain ⟨g2,cap3,w6,hr,hown,hgr,hat,hlt6⟩:=run_append_lies (P:=Tryz.prog) (w.alloc (.cells #[.int .i64 x] 3)) 46 46 B 3 j0 (.int .i64 0) 1 8 Tryz.underlying46 hji hz0 hz1 hz2 rfl (by omega) _ _ _ h2 ⟨w.heap.size,0,none⟩ 1 1 [.int .i64 x] rfl
      (World.news_of_block (cs:=#[.int .i64 x]) (t:=3) (fr:=(0,0)) (MapKept.heap_alloc w _).1) (by intro u hu;simp at hu;rw [hu];rfl) (by omega) (by simp only [maxLen];omega) (by omega) (by have:=b5.size;omega) _ rfl
  refine ⟨g2,cap3,w6,hr,by simpa using hown,(bthen hb hB b5).trans ⟨hgr.os,hgr.tape,hgr.output,hgr.size,fun y hy=>hgr.block y (by have:=b5.size;omega) (fun e=>?_)⟩⟩
  have:=(h.lt y e.symm).1
  omega
set_option maxRecDepth 20000 in
set_option maxHeartbeats 4000000 in
theorem rfit_any {w : World} {B : Nat} {v : Value} {m : Nat} {F : Nat → V} {l : List V} (h : Lv w B v m F) (hi : Is F m l) (hk : ∀ k,k ∈ l → KOK k) (hm : m ≤ 200000) :
    Calls Tryz.prog 95 #[v] w fun e w'=>e = .returned (.tuple #[.int .i64 (C.szA (ints l) (oth l : Nat)),.int .i64 (C.szH (ints l) (oth l : Nat)),.int .i64 (C.szE (ints l) (oth l : Nat))]) ∧ Below w.heap.size w w':=by
  have HL : Hid (Lv w B v m F):=h
  have HI : Hid (Is F m l):=hi
  have HF : Hid (C.Fit (ints l)):=ints_fit hk
  have HN : Hid ((ints l).length + oth l = m):=by show _ = _;rw [ints_len];exact hi.1
  obtain ⟨av,cv,rfl⟩:=h.form
  clear h hi hk
  go_enter Tryz.func95,Tryz.ntmps95
  go_wp2_with fail
  go_loopw [5,6] (fun lw jw wr=>∃ i : Nat,jw = .int .i64 (i : Nat) ∧ i ≤ m ∧ Hid (wr.ownsRow w.heap.size 3 1 lw (ints (l.take i)).length ((ints (l.take i)).map (Value.int .i64))) ∧ Hid (Below w.heap.size w wr)) (fun _ jw _=>m - (intOf jw).toNat)
  case atStart=>exact ⟨0,rfl,by omega,World.ownsRow_nil w _ 3 1,Below.refl _ _⟩
  case round =>
    obtain ⟨i,rfl,him,HO,HB⟩:=hrel
    obtain ⟨ak,ck,hvk⟩:=slice_shape HO.out
    subst hvk
    have hlen : (ints (l.take i)).length ≤ i:=by
      have h1:=ints_len (l.take i)
      have h2:=List.length_take_le i l
      omega
    by_cases hlt : i < m
    · have hlt' : (i : Int) < (m : Int):=by omega
      obtain ⟨g0,c0,hv,_,_,_,x0,x1,_⟩:=(HL.out.below HB.out).at hlt
      obtain ⟨rfl,rfl⟩ : av = some ⟨g0,0,none⟩ ∧ cv = c0:=by simpa using hv
      have ht:=ints_take HI.out hlt
      by_cases h2 : (F i).1 = 2
      · rw [if_pos h2] at ht
        have hb2 : ((F i).1 == 2) = true:=by simp [h2]
        obtain ⟨g,c,w6,hr,ho6,hb6⟩:=ints_push HB.out HB.out.size HO.out (F i).2.1 (by omega)
        rw [← ht] at ho6
        have HO6 : Hid (w6.ownsRow w.heap.size 3 1 (.slice (some ⟨g,0,none⟩) ((ints (l.take i)).length + 1) c) (ints (l.take (i + 1))).length ((ints (l.take (i + 1))).map (Value.int .i64))):=ho6
        have HB6 : Hid (Below w.heap.size w w6):=hb6
        clear ho6 hb6 ht h2 hv
        generalize (F i).1 = k1 at *
        generalize (F i).2.1 = k2 at *
        go_wp2_with (at_builtin;refine wp_app rfl _ _ 46 rfl 46 rfl _ _ rfl rfl hr ?_)
        go_round
        case rel=>exact ⟨i + 1,by go_num,by omega,HO6,HB6⟩
        case measure=>simp [intOf];omega
      · rw [if_neg h2,List.append_nil] at ht
        have hb2 : ((F i).1 == 2) = false:=by simpa using h2
        have HT : Hid (ints (l.take (i + 1)) = ints (l.take i)):=ht
        clear ht h2 hv
        generalize (F i).1 = k1 at *
        go_wp2_with fail
        go_round
        case rel=>exact ⟨i + 1,by go_num,by omega,by rw [HT.out];exact HO,HB⟩
        case measure=>simp [intOf];omega
    · have hle : ¬ (i : Int) < (m : Int):=by omega
      have hl : l.take i = l:=by rw [List.take_of_length_le];have:=HI.out.1;omega
      rw [hl] at HO hlen ⊢
      have CS:=C.rsizes_any (ints l) (oth l : Nat) _ wr (C.ints_own HO.out) HF.out (by have:=HN.out;omega)
      have hw1 : IntKind.i64.wrap ((m : Int) - ((ints l).length : Int)) = (oth l : Int):=by have:=HN.out;rw [IntKind.wrap_i64];omega
      go_wp2_with fail
      refine CS.mono ?_;rintro e w4 ⟨rfl,hb4⟩
      have HB4 : Hid (Below w.heap.size w w4):=bthen HB.out HB.out.size hb4
      clear hb4 CS
      go_wp2_with fail
      refine bodyPost_ret (v:=.tuple #[.int .i64 (C.szA (ints l) (oth l : Nat)),.int .i64 (C.szH (ints l) (oth l : Nat)),.int .i64 (C.szE (ints l) (oth l : Nat))]) (by simp [results,Tryz.results95,go_sem]) rfl ⟨rfl,HB4.out⟩
end Go.Proofs.YtkmopcanaalemabGreat


namespace Go.Proofs.YtkmopcanaalemabGreat
open Go.RowKit
section
variable {No : Nat → Prop} {w : World} {RT A P ka va ca : Nat} {cb : Nat → Nat} {G c : Nat} {t : TS} {s : H.St}
theorem RQ.take (h : RQ No w RT A P ka va ca cb G c t s) (hc : c ≤ 900000) (n : Int) :
    Calls Tryz.prog 48 #[.pointer (some ⟨G,0,none⟩),.int .i64 n] w fun e w'=>e = .returned (.tuple #[.int .i64 (H.takeId s n),.int .i64 (H.takeE s n)]) ∧ RQ No w' RT A P ka va ca cb G (c + 1) t (H.takeSt s n) ∧ Keep (fun g=>No g ∨ Rb.Own RT A P ka va ca cb t g) w w':=by
  refine (rtk h.rh hc h.iv n).mono ?_
  rintro e w' ⟨rfl,h1,k⟩
  exact ⟨rfl,⟨h.rb.kept k (fun x q=>.inr q),h1,h.no,h.ti,h.iv.take n,h.p0,by have:=h.p1;omega⟩,k⟩
theorem RQ.give (h : RQ No w RT A P ka va ca cb G c t s) (hc : c ≤ 900000) (id : Int) :
    Calls Tryz.prog 49 #[.pointer (some ⟨G,0,none⟩),.int .i64 id] w fun e w'=>e = .returned (.int .i64 (H.giveE s id)) ∧ RQ No w' RT A P ka va ca cb G (c + 1) t (H.giveSt s id) ∧ Keep (fun g=>No g ∨ Rb.Own RT A P ka va ca cb t g) w w':=by
  refine (rgv h.rh hc h.iv id).mono ?_
  rintro e w' ⟨rfl,h1,k⟩
  exact ⟨rfl,⟨h.rb.kept k (fun x q=>.inr q),h1,h.no,h.ti,h.iv.give id,h.p0,by have:=h.p1;omega⟩,k⟩
theorem RQ.struct (h : RQ No w RT A P ka va ca cb G c t s) {w' : World} {sb nb hint pr : Int} (k : Keep (fun g=>g ≠ RT) w w') (hsz : w'.heap.size = w.heap.size)
    (c0 : w'.cell? ⟨RT,0,none⟩ = some (.slice (some ⟨A,0,none⟩) t.p.n t.p.n)) (c1 : w'.cell? ⟨RT,1,none⟩ = some (.pointer (some ⟨P,0,none⟩))) (c2 : w'.cell? ⟨RT,2,none⟩ = some (.int .i64 sb)) (c3 : w'.cell? ⟨RT,3,none⟩ = some (.int .i64 nb)) (c4 : w'.cell? ⟨RT,4,none⟩ = some (.int .i64 hint)) (c5 : w'.cell? ⟨RT,5,none⟩ = some (.int .i64 pr)) (c6 : w'.cell? ⟨RT,6,none⟩ = some (.pointer (some ⟨G,0,none⟩))) (fz : ∀ j,w'.frozen? ⟨RT,j,none⟩ = false)
    (p0 : 0 ≤ pr) (p1 : pr ≤ (c : Int) * 65536) :
    RQ No w' RT A P ka va ca cb G c { p:=t.p,sb:=sb,nb:=nb,hint:=hint,pr:=pr } s ∧ Keep No w w':=by
  have eA:=k.block A h.rb.ltA (fun e=>h.rb.nRA e.symm)
  have hrp:=h.rb.rp.kept k h.rb.nR
  have hrh:=h.rh.frame k.size (fun g hg hn=>k.block g hg (fun e=>hn (.inr (.inl e))))
  exact ⟨⟨⟨c0,c1,c2,c3,c4,c5,c6,fz,h.rb.sl.block eA,fun j=>by rw [World.frozen?_of_block (w:=w) eA];exact h.rb.fA j,by rw [hsz];exact h.rb.ltR,by rw [hsz];exact h.rb.ltA,hrp,h.rb.nRA,h.rb.nR,h.rb.nA⟩,hrh,h.no,h.ti,h.iv,p0,p1⟩,k.sub (fun g q e=>h.no RT (.inl rfl) (e ▸ q))⟩
theorem cell_ne (w : World) (N i j : Nat) (v : Value) (h : i ≠ j) : (w.setCell ⟨N,i,none⟩ v).cell? ⟨N,j,none⟩ = w.cell? ⟨N,j,none⟩:=World.cell?_setCell_other _ _ _ _ (fun q=>by injection q with _ q2;omega)
theorem RQ.probe (h : RQ No w RT A P ka va ca cb G c t s) (x : Int) (p0 : 0 ≤ x) (p1 : x ≤ (c : Int) * 65536) :
    RQ No (w.setCell ⟨RT,5,none⟩ (.int .i64 x)) RT A P ka va ca cb G c { t with pr:=x } s ∧ Keep No w (w.setCell ⟨RT,5,none⟩ (.int .i64 x)) :=
  h.struct ((Keep.refl (fun g=>g ≠ RT) w).set (p:=⟨RT,5,none⟩) (fun q=>q rfl) _) (by simp [World.setCell]) (by rw [cell_ne _ _ _ _ _ (by omega)];exact h.rb.c0) (by rw [cell_ne _ _ _ _ _ (by omega)];exact h.rb.c1) (by rw [cell_ne _ _ _ _ _ (by omega)];exact h.rb.c2) (by rw [cell_ne _ _ _ _ _ (by omega)];exact h.rb.c3) (by rw [cell_ne _ _ _ _ _ (by omega)];exact h.rb.c4) (World.cell?_setCell_same _ _ _ h.rb.c5) (by rw [cell_ne _ _ _ _ _ (by omega)];exact h.rb.c6) (fun j=>by simpa using h.rb.fz j) p0 p1
end
end Go.Proofs.YtkmopcanaalemabGreat


namespace Go.Proofs.YtkmopcanaalemabGreat
open Go.RowKit
section
variable {No : Nat → Prop} {w : World} {RT A P ka va ca : Nat} {cb : Nat → Nat} {G c : Nat} {t : TS} {s : H.St}
abbrev Od (A P ka va ca : Nat) (cb : Nat → Nat) (t : TS) : Nat → Prop:=fun g=>g = A ∨ Rp.Own P ka va ca t.p.z t.p.g cb g
theorem RQ.renew (h : RQ No w RT A P ka va ca cb G c t s) {w1 wa wb : World} {A' P' ka' va' ca' n z : Nat} (hb : Below w.heap.size w w1) (hA : w1.heap[A']? = some (.cells (zeros3 n) 36)) (hr : Rn wa wb P' ka' va' ca' z) (hb2 : Below wb.heap.size wb w1) (hwa : w.heap.size ≤ wa.heap.size) (hgA : w.heap.size ≤ A') (hne : A' ≠ P' ∧ A' ≠ ka' ∧ A' ≠ va' ∧ A' ≠ ca') (hn : n ≤ 65536) (hz : Rt z) :
    RQ (fun g=>No g ∨ Od A P ka va ca cb t g) ((w1.setCell ⟨RT,0,none⟩ (.slice (some ⟨A',0,none⟩) n n)).setCell ⟨RT,1,none⟩ (.pointer (some ⟨P',0,none⟩))) RT A' P' ka' va' ca' (fun _=>0) G c { t with p:=fresh n z } s ∧
      Keep (fun g=>No g ∨ Od A P ka va ca cb t g) w ((w1.setCell ⟨RT,0,none⟩ (.slice (some ⟨A',0,none⟩) n n)).setCell ⟨RT,1,none⟩ (.pointer (some ⟨P',0,none⟩))):=by
  have h1:=h.rb.below hb
  have k : Keep (fun g=>g ≠ RT) w1 ((w1.setCell ⟨RT,0,none⟩ (.slice (some ⟨A',0,none⟩) n n)).setCell ⟨RT,1,none⟩ (.pointer (some ⟨P',0,none⟩))):=((Keep.refl (fun g=>g ≠ RT) w1).set (p:=⟨RT,0,none⟩) (fun q=>q rfl) _).set (p:=⟨RT,1,none⟩) (fun q=>q rfl) _
  have hsz : ((w1.setCell ⟨RT,0,none⟩ (.slice (some ⟨A',0,none⟩) n n)).setCell ⟨RT,1,none⟩ (.pointer (some ⟨P',0,none⟩))).heap.size = w1.heap.size:=by simp [World.setCell]
  have c0 : ((w1.setCell ⟨RT,0,none⟩ (.slice (some ⟨A',0,none⟩) n n)).setCell ⟨RT,1,none⟩ (.pointer (some ⟨P',0,none⟩))).cell? ⟨RT,0,none⟩ = some (.slice (some ⟨A',0,none⟩) n n):=by
    rw [cell_ne _ _ _ _ _ (by omega)];exact World.cell?_setCell_same _ _ _ h1.c0
  have c1 : ((w1.setCell ⟨RT,0,none⟩ (.slice (some ⟨A',0,none⟩) n n)).setCell ⟨RT,1,none⟩ (.pointer (some ⟨P',0,none⟩))).cell? ⟨RT,1,none⟩ = some (.pointer (some ⟨P',0,none⟩)) :=
    World.cell?_setCell_same _ _ _ (by rw [cell_ne _ _ _ _ _ (by omega)];exact h1.c1)
  have cj : ∀ j,2 ≤ j → ((w1.setCell ⟨RT,0,none⟩ (.slice (some ⟨A',0,none⟩) n n)).setCell ⟨RT,1,none⟩ (.pointer (some ⟨P',0,none⟩))).cell? ⟨RT,j,none⟩ = w1.cell? ⟨RT,j,none⟩:=fun j hj=>by
    rw [cell_ne _ _ _ _ _ (by omega),cell_ne _ _ _ _ _ (by omega)]
  have fz : ∀ j,((w1.setCell ⟨RT,0,none⟩ (.slice (some ⟨A',0,none⟩) n n)).setCell ⟨RT,1,none⟩ (.pointer (some ⟨P',0,none⟩))).frozen? ⟨RT,j,none⟩ = false:=fun j=>by simpa using h1.fz j
  generalize (w1.setCell ⟨RT,0,none⟩ (.slice (some ⟨A',0,none⟩) n n)).setCell ⟨RT,1,none⟩ (.pointer (some ⟨P',0,none⟩)) = w2 at *
  have ltA : A' < w1.heap.size:=(Array.getElem?_eq_some_iff.1 hA).1
  have ltR:=h.rb.ltR
  have eA:=k.block A' ltA (by omega)
  have hrs:=hr.rs
  have hown : ∀ x,Rp.Own P' ka' va' ca' z (g0 z) (fun _=>0) x → w.heap.size ≤ x:=fun x q=>by
    have:=hrs.ge x q
    have h2 : ¬ x < wa.heap.size:=this
    omega
  have hne2 : ∀ x,Rp.Own P' ka' va' ca' z (g0 z) (fun _=>0) x → x ≠ A':=fun x q e=>by
    rcases q with q | q | q | q | ⟨_,_,q,_⟩
    · exact hne.1 (by rw [← e,q])
    · exact hne.2.1 (by rw [← e,q])
    · exact hne.2.2.1 (by rw [← e,q])
    · exact hne.2.2.2 (by rw [← e,q])
    · exact absurd rfl q
  have hrp1 : Rp w1 P' ka' va' ca' z (g0 z) (fun _=>0):=hrs.rp.below hb2
  have hrp : Rp w2 P' ka' va' ca' z (g0 z) (fun _=>0):=hrp1.kept k (fun x q e=>by have:=hown x q;omega)
  have kw : Keep (fun g=>g ≠ RT) w w2:=(Keep.of hb).trans k
  have kO : Keep (fun g=>No g ∨ Od A P ka va ca cb t g) w w2:=kw.sub (fun g q e=>by
    rcases q with q | q | q
    · exact h.no RT (.inl rfl) (e ▸ q)
    · exact h.rb.nRA (by rw [← e,q])
    · exact h.rb.nR g q e)
  refine ⟨⟨⟨c0,c1,by rw [cj 2 (by omega)];exact h1.c2,by rw [cj 3 (by omega)];exact h1.c3,by rw [cj 4 (by omega)];exact h1.c4,by rw [cj 5 (by omega)];exact h1.c5,by rw [cj 6 (by omega)];exact h1.c6,fz,(made_vals hA).block eA,fun j=>by rw [World.frozen?_of_block (w:=w1) eA];exact free_of hA j,by rw [hsz];exact h1.ltR,by rw [hsz];exact ltA,hrp,by omega,fun x q e=>by have:=hown x q;omega,hne2⟩,?_,?_,TI.fr0 hz hn,h.iv,h.p0,h.p1⟩,kO⟩
  · refine (h.rh.frame2 kw.size (fun g hg hn=>kw.block g hg (fun e=>hn (.inr (.inl e))))).sub (fun g q=>?_)
    rcases q with (q | q | q) | q | q | q
    · exact .inl (.inl q)
    · exact .inl (.inr (.inr (.inl q)))
    · exact .inl (.inr (.inr (.inr q)))
    · exact .inl (.inr (.inl q))
    · exact .inr ⟨by rw [q];exact hgA,by rw [q,hsz];exact ltA⟩
    · exact .inr ⟨hown g q,hrp.own_lt q⟩
  · have hlt : ∀ g,No g ∨ Od A P ka va ca cb t g → g < w.heap.size:=fun g q=>by
      rcases q with q | q | q
      · exact h.nos g q
      · rw [q];exact h.rb.ltA
      · exact h.rb.rp.own_lt q
    rintro x (q | q | q) e
    · rw [q] at e
      rcases e with e | e | e
      · exact h.no RT (.inl rfl) e
      · exact h.rb.nRA e
      · exact h.rb.nR RT e rfl
    · have:=hlt x e;omega
    · have:=hlt x e;have:=hown x q;omega
end
end Go.Proofs.YtkmopcanaalemabGreat


namespace Go.Proofs.YtkmopcanaalemabGreat
open Go.RowKit
theorem step_run {ops : Array Oper} {o : Oper} {ac : Act} {K : Act → World → Prop} {Q : Exit → Act → World → Prop} {E : Prop} {W W' : World} {v u r : Value} (hgd : o.guard = none) (s y : Operand)
    (ho : o.op = .call { callee:=.builtin .append,args:=#[s,y],argTypes:=#[22,22] }) (hty : o.type = 22) (hs : ac.eval s = v) (hy : ac.eval y = u) (hr : (Builtin.append_ #[22,22] 22 #[v,u]).run Tryz.prog W = .ok r W') (h : K (ac.put o.dst r) W') :
    if Region.wanted o (yielded ops ac.tmps) = true then Oper.wp Tryz.prog o ac W K Q else E:=by
  have hw : Region.wanted o (yielded ops ac.tmps) = true:=by simp [Region.wanted,hgd]
  rw [if_pos hw]
  unfold Oper.wp execOp
  simp only [ho,hty,resolve,invoke,builtin,Sem.run_bind,Sem.run_pure,Result.andThen_ok,List.map_toArray,List.map_cons,List.map_nil,hs,hy,hr]
  exact h
theorem step_goE {ops : Array Oper} {o : Oper} {ac : Act} {K : Act → World → Prop} {Q : Exit → Act → World → Prop} {E : Prop} {W : World} (hgd : o.guard = none) (f : FuncId) (xs : Array Operand) (ats : Array TypeId)
    (ho : o.op = .call { callee:=.value (.func f),args:=xs,argTypes:=ats }) (args : Array Value) (hx : #[] ++ xs.map ac.eval ++ #[] = args) (eg : ∀ args w,(callFunc f args).run Tryz.prog w = .ok (.enter f args) w)
    {R : Ending → World → Prop} (C : Calls Tryz.prog f args W R) (hK : ∀ e w',R e w' → ∃ v,e = .returned v ∧ K (ac.put o.dst v) w') :
    if Region.wanted o (yielded ops ac.tmps) = true then Oper.wp Tryz.prog o ac W K Q else E:=by
  have hw : Region.wanted o (yielded ops ac.tmps) = true:=by simp [Region.wanted,hgd]
  rw [if_pos hw]
  obtain ⟨dst,op,ty,pos,after,guard⟩:=o
  simp only at ho
  subst ho
  unfold Oper.wp
  rw [execOp_call_go,hx,eg,Oper.upon_enter]
  refine C.mono fun e w' h=>?_
  obtain ⟨v,rfl,h'⟩:=hK e w' h
  exact h'
theorem enters79 : ∀ args w,(callFunc 96 args).run Tryz.prog w = .ok (.enter 96 args) w:=enters_of Tryz.func96 (by kernel_rfl) rfl
theorem enters78 : ∀ args w,(callFunc 95 args).run Tryz.prog w = .ok (.enter 95 args) w:=enters_of Tryz.func95 (by kernel_rfl) rfl
def cpI (o : Pa) (n z i : Nat) : Pa:=⟨n,fun j=>if j < i then o.F j else nil,z,g0 z⟩
theorem cpI_zero (o : Pa) (n z : Nat) : cpI o n z 0 = fresh n z:=by simp [cpI,fresh]
theorem cpI_succ (o : Pa) (n z i : Nat) : { cpI o n z i with F:=upd (cpI o n z i).F i (o.F i) } = cpI o n z (i + 1):=by
  suffices hF : upd (fun j=>if j < i then o.F j else nil) i (o.F i) = fun j=>if j < i + 1 then o.F j else nil by
    show Pa.mk n (upd (fun j=>if j < i then o.F j else nil) i (o.F i)) z (g0 z) = _
    rw [hF]
    rfl
  funext j
  by_cases e : j = i
  · rw [e,upd_at,if_pos (by omega)]
  · rw [upd_ne _ _ e]
    by_cases q : j < i
    · rw [if_pos q,if_pos (by omega)]
    · rw [if_neg q,if_neg (by omega)]
theorem cpI_end (o : Pa) (n z : Nat) : cpI o n z (min n o.n) = cpy o (fresh n z):=rfl
theorem cpI_ti {o : Pa} (h : TI o) {n z i : Nat} (hn : n ≤ 65536) (hz : Rt z) (hi : i ≤ o.n) : TI (cpI o n z i):=by
  have f:=TI.fr0 hz hn
  refine ⟨f.inv,hz,hn,fun j _=>?_,f.xv,f.out⟩
  show fm (if j < i then o.F j else nil) = true
  split
  · exact h.fv j (by omega)
  · exact fm_nil
theorem rfit_app {w W : World} {B b m : Nat} {v : Value} {F : Nat → V} {p : Pa} {k : V} (hL : Lv W B v m F) (hi : Is F m (pres p)) (hx : Bx W b k) (hB : B ≤ W.heap.size) (hwB : w.heap.size ≤ B) (hb : Below w.heap.size w W) (ha : Ask p k) (hm : m ≤ 190000) :
    ∃ g c w',(Builtin.append_ #[22,22] 22 #[v,.slice (some ⟨b,0,none⟩) 1 1]).run Tryz.prog W = .ok (.slice (some ⟨g,0,none⟩) (m + 1) c) w' ∧
      Calls Tryz.prog 95 #[.slice (some ⟨g,0,none⟩) (m + 1) c] w' fun e w''=>e = .returned (.tuple #[.int .i64 (C.szA (ints (pres p ++ [k])) (oth (pres p ++ [k]) : Nat)),.int .i64 (C.szH (ints (pres p ++ [k])) (oth (pres p ++ [k]) : Nat)),.int .i64 (rsE p k)]) ∧ Below w.heap.size w w'':=by
  obtain ⟨g,c,w',hr,h1,h2,h3,h4⟩:=hL.app2 k hx (by omega) hB
  refine ⟨g,c,w',hr,(rfit_any h1 (hi.snoc k) ha.ok (by omega)).mono ?_⟩
  rintro e w'' ⟨rfl,hb2⟩
  have b1 : Below w.heap.size W w':=⟨h2.os,h2.tape,h2.output,h2.size,fun y hy=>h2.block y (by omega) (fun e=>by have:=(hL.own.lt y e.symm).1;omega)⟩
  exact ⟨rfl,bthen (hb.trans b1) (by have:=h2.size;have:=hb.size;omega) hb2⟩
theorem RQ.three {No : Nat → Prop} {w : World} {RT A P ka va ca : Nat} {cb : Nat → Nat} {G c : Nat} {t : TS} {s : H.St} (h : RQ No w RT A P ka va ca cb G c t s) (x y z : Int) :
    RQ No (((w.setCell ⟨RT,2,none⟩ (.int .i64 x)).setCell ⟨RT,3,none⟩ (.int .i64 y)).setCell ⟨RT,4,none⟩ (.int .i64 z)) RT A P ka va ca cb G c { p:=t.p,sb:=x,nb:=y,hint:=z,pr:=t.pr } s ∧ Keep No w (((w.setCell ⟨RT,2,none⟩ (.int .i64 x)).setCell ⟨RT,3,none⟩ (.int .i64 y)).setCell ⟨RT,4,none⟩ (.int .i64 z)) :=
  h.struct ((((Keep.refl (fun g=>g ≠ RT) w).set (p:=⟨RT,2,none⟩) (fun q=>q rfl) _).set (p:=⟨RT,3,none⟩) (fun q=>q rfl) _).set (p:=⟨RT,4,none⟩) (fun q=>q rfl) _) (by simp [World.setCell])
    (by rw [cell_ne _ _ _ _ _ (by omega),cell_ne _ _ _ _ _ (by omega),cell_ne _ _ _ _ _ (by omega)];exact h.rb.c0) (by rw [cell_ne _ _ _ _ _ (by omega),cell_ne _ _ _ _ _ (by omega),cell_ne _ _ _ _ _ (by omega)];exact h.rb.c1)
    (by rw [cell_ne _ _ _ _ _ (by omega),cell_ne _ _ _ _ _ (by omega)];exact World.cell?_setCell_same _ _ _ h.rb.c2) (by rw [cell_ne _ _ _ _ _ (by omega)];exact World.cell?_setCell_same _ _ _ (by rw [cell_ne _ _ _ _ _ (by omega)];exact h.rb.c3))
    (World.cell?_setCell_same _ _ _ (by rw [cell_ne _ _ _ _ _ (by omega),cell_ne _ _ _ _ _ (by omega)];exact h.rb.c4)) (by rw [cell_ne _ _ _ _ _ (by omega),cell_ne _ _ _ _ _ (by omega),cell_ne _ _ _ _ _ (by omega)];exact h.rb.c5) (by rw [cell_ne _ _ _ _ _ (by omega),cell_ne _ _ _ _ _ (by omega),cell_ne _ _ _ _ _ (by omega)];exact h.rb.c6) (fun j=>by simpa using h.rb.fz j) h.p0 h.p1
end Go.Proofs.YtkmopcanaalemabGreat
