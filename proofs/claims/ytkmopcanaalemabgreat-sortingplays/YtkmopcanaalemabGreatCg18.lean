import Derived.Test.YtkmopcanaalemabGreatCg08
import Derived.Test.YtkmopcanaalemabGreatCg17
import Derived.Test.YtkmopcanaalemabGreatCg09
import Derived.Test.YtkmopcanaalemabGreatCg04
namespace Go.Proofs.YtkmopcanaalemabGreat
open Go.RowKit
structure P2 (w W : World) (N : Nat) (x y : V) : Prop where
  r0 : Bx W N x
  r1 : Bx W (N + 1) y
  bel : Below N w W
theorem P2.mk2 {w W : World} {N : Nat} (hB : Below N w W) (r0 : R3 W N nil) (r1 : R3 W (N + 1) nil) (x y : V) : P2 w (set3 (set3 W N x) (N + 1) y) N x y:=by
  have k1 : Keep (fun g=>g ≠ N) W (set3 W N x):=(Keep.refl _ W).set3 (fun q=>q rfl) x
  have q1:=r1.kept k1 (by show N + 1 ≠ N;omega)
  have k2 : Keep (fun g=>g ≠ N + 1) (set3 W N x) (set3 (set3 W N x) (N + 1) y):=(Keep.refl _ _).set3 (fun q=>q rfl) y
  have q0:=(r0.set x).kept k2 (by show N ≠ N + 1;omega)
  have hs:=r0.bx.lt
  have kk : Keep (fun g=>g < N) W (set3 (set3 W N x) (N + 1) y):=((Keep.refl (fun g=>g < N) W).set3 (N:=N) (Nat.lt_irrefl N) x).set3 (N:=N + 1) (fun q=>by omega) y
  exact ⟨q0.bx,(q1.set y).bx,hB.trans (kk.below (Nat.le_of_lt hs) (fun g q=>q))⟩
set_option maxRecDepth 20000 in
set_option maxHeartbeats 4000000 in
theorem pair_in {w : World} {T A b a S : Nat} {t : TS} (h : Tm w T A b a S t) (hn : t.p.n ≤ 65536) (j : Nat) (hj : j < t.p.n) :
    Calls Tryz.prog 36 #[tp T,.int .i64 ((j : Int) + 1)] w fun e w'=>e = .returned (.tuple #[vv (kn ((j : Int) + 1)),vv (t.p.F j)]) ∧ Below w.heap.size w w':=by
  have R0:=(R3.made w nil).below (b1 _ (vb 0 0 ⟨#[]⟩))
  have R1:=R3.made (w.alloc (vb 0 0 ⟨#[]⟩)) nil
  have eX : (w.alloc (vb 0 0 ⟨#[]⟩)).heap.size = w.heap.size + 1:=by simp
  rw [eX] at R1
  have B0:=b2 w (vb 0 0 ⟨#[]⟩) (vb 0 0 ⟨#[]⟩)
  have R0' : R3 ((w.alloc (vb 0 0 ⟨#[]⟩)).alloc (vb 0 0 ⟨#[]⟩)) w.heap.size nil:=R0
  have R1' : R3 ((w.alloc (vb 0 0 ⟨#[]⟩)).alloc (vb 0 0 ⟨#[]⟩)) (w.heap.size + 1) nil:=R1
  obtain ⟨W0,hW0⟩ : ∃ W0,(w.alloc (vb 0 0 ⟨#[]⟩)).alloc (vb 0 0 ⟨#[]⟩) = W0:=⟨_,rfl⟩
  rw [hW0] at B0 R0' R1'
  have h0:=h.below B0
  have C1:=number_any ((j : Int) + 1) W0.drew
  have c1 : W0.cell? ⟨T,1,none⟩ = some (.slice (some ⟨A,0,none⟩) t.p.n t.p.n):=h0.pm.c0
  have s0 : W0.cell? ⟨A,j * 3,none⟩ = some (.int .i64 (t.p.F j).1):=h0.pm.sl.c j hj 0 (by omega)
  have s1 : W0.cell? ⟨A,j * 3 + 1,none⟩ = some (.int .i64 (t.p.F j).2.1):=h0.pm.sl.c j hj 1 (by omega)
  have s2 : W0.cell? ⟨A,j * 3 + 2,none⟩ = some (.string (t.p.F j).2.2):=h0.pm.sl.c j hj 2 (by omega)
  have HSZ : Hid (∀ W,Below W0.heap.size W0 W → Below w.heap.size w W):=fun W hW=>bthen B0 B0.size hW
  have lT:=h.pm.ltB
  have lA:=h.pm.ltA
  have HF : Hid (∀ W,Below W0.heap.size W0 W → ∀ y : V,(R3 W w.heap.size nil ∧ R3 W (w.heap.size + 1) nil ∧ W.cell? ⟨T,1,none⟩ = some (.slice (some ⟨A,0,none⟩) t.p.n t.p.n) ∧ W.cell? ⟨A,j * 3,none⟩ = some (.int .i64 (t.p.F j).1) ∧ W.cell? ⟨A,j * 3 + 1,none⟩ = some (.int .i64 (t.p.F j).2.1) ∧ W.cell? ⟨A,j * 3 + 2,none⟩ = some (.string (t.p.F j).2.2)) ∧
      (R3 (set3 W w.heap.size y) (w.heap.size + 1) nil ∧ (set3 W w.heap.size y).cell? ⟨T,1,none⟩ = some (.slice (some ⟨A,0,none⟩) t.p.n t.p.n) ∧ (set3 W w.heap.size y).cell? ⟨A,j * 3,none⟩ = some (.int .i64 (t.p.F j).1) ∧ (set3 W w.heap.size y).cell? ⟨A,j * 3 + 1,none⟩ = some (.int .i64 (t.p.F j).2.1) ∧ (set3 W w.heap.size y).cell? ⟨A,j * 3 + 2,none⟩ = some (.string (t.p.F j).2.2)) ∧
      P2 w (set3 (set3 W w.heap.size y) (w.heap.size + 1) (t.p.F j)) w.heap.size y (t.p.F j)):=fun W hW y=>by
    have h1:=h0.below hW
    have k : Keep (fun g=>g ≠ w.heap.size) W (set3 W w.heap.size y):=(Keep.refl _ W).set3 (fun q=>q rfl) y
    have eT:=k.block T h1.pm.ltB (by show T ≠ _;omega)
    have eA:=k.block A h1.pm.ltA (by show A ≠ _;omega)
    refine ⟨⟨R0'.below hW,R1'.below hW,h1.pm.c0,h1.pm.sl.c j hj 0 (by omega),h1.pm.sl.c j hj 1 (by omega),h1.pm.sl.c j hj 2 (by omega)⟩,⟨(R1'.below hW).kept k (by show _ + 1 ≠ _;omega),?_,?_,?_,?_⟩,P2.mk2 (bthen B0 B0.size hW) (R0'.below hW) (R1'.below hW) y _⟩
    · rw [World.cell?_of_block (w:=W) eT];exact h1.pm.c0
    · rw [World.cell?_of_block (w:=W) eA];exact h1.pm.sl.c j hj 0 (by omega)
    · rw [World.cell?_of_block (w:=W) eA];exact h1.pm.sl.c j hj 1 (by omega)
    · rw [World.cell?_of_block (w:=W) eA];exact h1.pm.sl.c j hj 2 (by omega)
  clear h h0 R0 R1 R0' R1' B0 eX lT lA
  unfold vb at hW0
  unfold vv vl tp at *
  generalize t.p.F j = x at *
  generalize t.p.n = n at *
  generalize hsz : w.heap.size = N at *
  have HN : Hid (w.heap.size = N):=hsz
  have hj1 : ¬ ((j : Int) + 1 < 1):=by omega
  have hj2 : (j : Int) + 1 ≤ (n : Int):=by omega
  have hj3 : (j : Int) < (n : Int):=by omega
  have hj4 : ¬ ((j : Int) < 0):=by omega
  have hw0 : IntKind.i64.wrap (j : Int) = (j : Int):=by rw [IntKind.wrap_i64];omega
  have hw1 : IntKind.i64.wrap ((j : Int) + 1 - 1) = (j : Int):=by rw [IntKind.wrap_i64];omega
  go_enter Tryz.func36,Tryz.ntmps36
  go_wp2_with fail
  go_region_with (go_at_call 76;refine C1.mono ?_;rintro e W1 ⟨rfl,bb⟩;have bb1 : Below W0.heap.size W0 W1:=bthen (bdrew1 W0) (Nat.le_refl _) bb;obtain ⟨⟨q0,q1,d1,e0,e1,e2⟩,⟨q1',d1',e0',e1',e2'⟩,pp2⟩:=HF.out W1 bb1 (2,(j : Int) + 1,⟨#[]⟩);have n0:=q0.bx.c0;have n1:=q0.bx.c1;have n2:=q0.bx.c2;have nf:=q0.fz;obtain ⟨W2,hW2⟩ : ∃ W2,set3 W1 N (2,(j : Int) + 1,⟨#[]⟩) = W2:=⟨_,rfl⟩;rw [hW2] at q1' d1' e0' e1' e2' pp2;have m0:=q1'.bx.c0;have m1:=q1'.bx.c1;have m2:=q1'.bx.c2;have mf:=q1'.fz;obtain ⟨W3,hW3⟩ : ∃ W3,set3 W2 (N + 1) x = W3:=⟨_,rfl⟩;rw [hW3] at pp2;unfold set3 at hW2 hW3;have HB1 : Hid (P2 w W3 N (2,(j : Int) + 1,⟨#[]⟩) x):=pp2;clear q0 q1 q1' bb bb1 pp2)
  all_goals
    go_wp2_with fail
    have v0:=HB1.out.r0.c0
    have v1:=HB1.out.r0.c1
    have v2:=HB1.out.r0.c2
    have v3:=HB1.out.r1.c0
    have v4:=HB1.out.r1.c1
    have v5:=HB1.out.r1.c2
    refine bodyPost_ret (v:=.tuple #[.agg #[.int .i64 2,.int .i64 ((j : Int) + 1),.string ⟨#[]⟩],.agg #[.int .i64 x.1,.int .i64 x.2.1,.string x.2.2]]) (by simp [results,Tryz.results36,go_sem,v0,v1,v2,v3,v4,v5]) rfl ⟨rfl,HB1.out.bel⟩
end Go.Proofs.YtkmopcanaalemabGreat


namespace Go.Proofs.YtkmopcanaalemabGreat
open Go.RowKit
theorem nd_len {α : Type} : ∀ {l l' : List α},l.Nodup → (∀ x,x ∈ l → x ∈ l') → l.length ≤ l'.length
  | [],_,_,_=>Nat.zero_le _
  | a :: l,l',hn,hs=>by
    obtain ⟨s,t,rfl⟩:=List.append_of_mem (hs a (by simp))
    have h:=nd_len (l:=l) (l':=s ++ t) (List.nodup_cons.1 hn).2 (fun x hx=>by
      have:=hs x (by simp [hx])
      have hne : x ≠ a:=fun e=>(List.nodup_cons.1 hn).1 (e ▸ hx)
      simp only [List.mem_append,List.mem_cons] at this ⊢
      rcases this with q | q | q
      · exact .inl q
      · exact absurd q hne
      · exact .inr q)
    simp only [List.length_append,List.length_cons] at h ⊢
    omega
theorem Fits.bound {l : List V} {A Z : Nat} (h : Fits l A Z) (hl : l.length ≤ 65536) : A ≤ 2 * l.length ∧ Z ≤ 2 * l.length:=by
  have hi:=ints_len l
  have hw : C.wi (ints l) A ≤ (ints l).length:=by
    unfold C.wi
    have:=List.countP_le_length (p:=fun x=>decide (1 ≤ x ∧ x ≤ (A : Int))) (l:=ints l)
    omega
  have ho : outK A l ≤ l.length:=List.countP_le_length
  constructor
  · by_cases h0 : A = 0
    · omega
    · have:=h.dense.half (by omega);omega
  · have hu:=h.up
    rcases C.up2_facts (outK A l : Nat) (by omega) (by omega) with ⟨q1,q2⟩ | ⟨q1,q2,q3,_⟩
    · rw [q2] at hu;omega
    · omega
theorem rs_ok {p : Pa} {k : V} (h : ∀ k',k' ∈ pres p ++ [k] → KOK k') (hn : (pres p ++ [k]).Nodup) (hl : (pres p ++ [k]).length ≤ 7000) : rsE p k = 0 ∧ rsA p k ≤ 14000 ∧ rsZ p k ≤ 14000:=by
  rcases cens h hn with q | ⟨q1,q2,_⟩
  · exfalso
    have hi:=ints_len (pres p ++ [k])
    have hd:=(C.dense_of (ints (pres p ++ [k])) (ints_fit h)).n
    unfold rsE at q
    have hw : 0 ≤ C.chN (C.cntL (ints (pres p ++ [k]))) 17:=by rw [← hd];unfold C.wi;omega
    rcases C.szE_cases (ints (pres p ++ [k])) (oth (pres p ++ [k]) : Nat) with ⟨e,_⟩ | e
    · rw [e] at q;cases q
    · unfold C.szE C.rest at q
      split at q
      · cases q
      · split at q
        · cases q
        · split at q
          · rename_i h1;omega
          · cases q
  · have:=q2.bound (by omega)
    exact ⟨q1,by omega,by omega⟩
theorem due_zero {t : TS} {s : H.St} {k v : V} (h : TI t.p) (hr : Rng k) (hd : Due t.p k v) (hR : (reh (one t k v) s k).2.2 = 0) : (tset t s k v).2.2 = 0:=by
  obtain ⟨d4,d5,hk0,he⟩:=(due_iff h hr).1 hd
  have hk : KOK k:=⟨d4,hk0,hr.1,hr.2⟩
  have e : (tset t s k v).2.2 = (pset (reh (one t k v) s k).1.p k v).2.2:=by
    unfold tset
    rw [if_neg (fun q=>q ⟨d4,d5⟩),if_neg hk0,if_neg (fun q=>q he),if_neg (fun q=>q hR)]
  rw [e]
  obtain ⟨hA,hv,hv0,hnew,_,_,_,ha⟩:=h.full hk he
  have h1 : TI (one t k v).p:=h.set hr hv
  have hA1 : ¬ inA (one t k v).p.n k:=by show ¬ inA (pset t.p k v).1.n k;rw [(pset_nz t.p k v).1];exact hA
  have ep : pset t.p k v = ({ t.p with g:=(put t.p.z t.p.g k v).1 },(put t.p.z t.p.g k v).2.1,(put t.p.z t.p.g k v).2.2):=by unfold pset;rw [if_neg hA]
  have hnew1 : ∀ i,i < (one t k v).p.z → (one t k v).p.g.K i ≠ k:=fun i hi e=>by
    have hi2 : i < t.p.z:=by rw [← (pset_nz t.p k v).2];exact hi
    have he' : (put t.p.z t.p.g k v).2.2 = 12:=by rw [ep] at he;exact he
    have e2:=(put_12 h.inv h.rt hk he').2.2.2.2.1
    have e3 : (pset t.p k v).1.g.K i = k:=e
    rw [ep] at e3
    have e4 : (put t.p.z t.p.g k v).1.K i = k:=e3
    rw [e2] at e4
    exact hnew i hi2 e4
  have e0 : rsE (one t k v).p k = 0:=by
    unfold reh at hR
    by_cases q : rsE (one t k v).p k = 0
    · exact q
    · rw [if_pos q] at hR;exact absurd hR q
  have e1 : (reh (one t k v) s k).1.p = fill (one t k v).p (fresh (rsA (one t k v).p k) (rsZ (one t k v).p k)):=by
    unfold reh at hR ⊢
    rw [if_neg (fun q=>q e0)] at hR ⊢
    by_cases q : tpE s (rsA (one t k v).p k) (rsZ (one t k v).p k) = 0
    · rw [if_neg (fun x=>x q)]
    · rw [if_pos q] at hR;exact absurd hR q
  rw [e1]
  exact (h1.behind hk hv hv0 hA1 hnew1 ha e0).2.2.2.2.2
theorem take0 {s : H.St} {n : Int} (h0 : 0 ≤ n) (h1 : n ≤ s.lim - s.live) : H.takeE s n = 0:=by
  unfold H.takeE;rw [if_neg (by omega),if_neg (by omega)]
end Go.Proofs.YtkmopcanaalemabGreat


namespace Go.Proofs.YtkmopcanaalemabGreat
open Go.RowKit
theorem put_e {z:Nat} {g:G} {k v:V} (hk:fm k=true) (hv:fm v=true) (hk0:k.1≠0):(put z g k v).2.2=0∨(put z g k v).2.2=12:=by
 rw[put,if_pos ⟨hk,hv⟩,if_neg hk0]
 split
 ·first | (right;rfl) | (split<;>first | (left;rfl) | (right;rfl))
 ·split
  ·left;rfl
  ·split
   ·left;rfl
   ·rename_i x _ _ _ _
    show full _=0∨full _=12
    unfold full
    split
    ·left;rfl
    ·right;rfl
theorem set_one {t:TS} {s:H.St} {k v:V} (hk:fm k=true) (hv:fm v=true) (hk0:k.1≠0) (he:(pset t.p k v).2.2≠12):tset t s k v=(one t k v,s,0):=by
 unfold tset
 rw[if_neg (fun q=>q ⟨hk,hv⟩),if_neg hk0,if_pos he]
 have e0:(pset t.p k v).2.2=0:=by
  unfold pset at he⊢
  by_cases hA:inA t.p.n k
  ·rw[if_pos hA]
  ·rw[if_neg hA] at he⊢
   exact (put_e hk hv hk0).resolve_right he
 rw[e0]
theorem set_held {t:TS} {s:H.St} {k v:V} (h:TI t.p) (hk:KOK k) (hv:fm v=true) (hp:(pget t.p k).1≠0):tset t s k v=(one t k v,s,0):=
 set_one hk.1 hv hk.2.1 (fun e=>hp (by rw[(h.full hk e).2.2.2.2.2.1];rfl))
structure S3 (t:TS) (k:Nat):Prop where
 n:t.p.n≤130
 z:t.p.z≤130
 pr:(pres t.p).length≤k
theorem rs_small {p:Pa} {k:V} (h:∀k',k'∈pres p++[k]→KOK k') (hn:(pres p++[k]).Nodup) (hl:(pres p++[k]).length≤65):rsE p k=0∧rsA p k≤130∧rsZ p k≤130:=by
 have h0:=(rs_ok h hn (by omega)).1
 rcases cens h hn with q | ⟨q1,q2,_⟩
 ·rw[q] at h0;cases h0
 ·have:=q2.bound (by omega)
  exact ⟨q1,by omega,by omega⟩
theorem set_zero3 {t:TS} {s:H.St} {k v:V} {m:Nat} (h:TI t.p) (hr:Rng k) (hk:fm k=true) (hv:fm v=true) (hk0:k.1≠0) (tb:TB t s 4) (iv:H.Inv 0 s) (hl:s.lim=3000) (sm:S3 t m) (hm:m≤64):(tset t s k v).2.2=0:=by
 by_cases he:(pset t.p k v).2.2=12
 ·have hk':KOK k:=⟨hk,hk0,hr.1,hr.2⟩
  have hd:=(due_iff h hr).2 ⟨hk,hv,hk0,he⟩
  obtain ⟨_,_,_,_,_,_,hpp,ha⟩:=h.full hk' he
  refine due_zero h hr hd ?_
  have hlen:(pres (one t k v).p++[k]).length≤65:=by
   have e:pres (one t k v).p=pres t.p:=hpp
   have:=sm.pr
   rw[e,List.length_append]
   simp only[List.length_singleton]
   omega
  obtain ⟨r1,r2,r3⟩:=rs_small (p:=(one t k v).p) ha.ok ha.nd hlen
  have hlv:=tb.live
  have hn:=sm.n
  have hz:=sm.z
  have t1:H.takeE s (rsA (one t k v).p k:Nat)=0:=take0 (by omega) (by omega)
  obtain ⟨_,a2,a3,_⟩:=blk_take iv t1
  have t2:H.takeE (H.takeSt s (rsA (one t k v).p k:Nat)) (3 * (rsZ (one t k v).p k:Nat))=0:=take0 (by omega) (by omega)
  have t3:tpE s (rsA (one t k v).p k:Nat) (rsZ (one t k v).p k:Nat)=0:=by unfold tpE;rw[if_neg (fun q=>q t1)];exact t2
  unfold reh
  rw[if_neg (fun q=>q r1),if_neg (fun q=>q t3)]
 ·rw[set_one hk hv hk0 he]
theorem S3.set {t:TS} {s:H.St} {m:Nat} {k v:V} (h:S3 t m) (hm:m≤64) (ti:TI t.p) (hr:Rng k) (ti':TI (tset t s k v).1.p):S3 (tset t s k v).1 (m+1):=by
 have hp:(pres (tset t s k v).1.p).length≤m+1:=by
  have h1:(pres (tset t s k v).1.p).length≤(k::pres t.p).length:=nd_len ti'.pres_nd (fun k' hk'=>by
   obtain ⟨q1,q2⟩:=ti'.mem_pres.1 hk'
   by_cases e:k'=k
   ·simp[e]
   ·refine List.mem_cons_of_mem _ (ti.mem_pres.2 ⟨q1,?_⟩)
    obtain ⟨m1,m2⟩:=tset_map (s:=s) (k:=k) (v:=v) ti hr
    by_cases q:(tset t s k v).2.2=0
    ·rw[(m1 q).2.2.2 k' q1 e] at q2;exact q2
    ·rw[m2 q k'] at q2;exact q2)
  have:=h.pr
  simp only[List.length_cons] at h1
  omega
 by_cases hd:Due t.p k v∧(tset t s k v).2.2=0
 ·have hf:=(set_due ti hr hd.1 hd.2 ti').1
  have:=hf.bound (by omega)
  exact ⟨by omega,by omega,hp⟩
 ·obtain ⟨e1,e2⟩:=set_same (s:=s) ti hr hd
  exact ⟨by rw[e1];exact h.n,by rw[e2];exact h.z,hp⟩
def Gv (v:V):Prop:=fm v=true∧v.1≠0
def Mt (n:Nat) (t:TS) (_s:H.St) (f:Int→V):Prop:=TI t.p∧∀k,1≤k→k≤(n:Int)→pget t.p (kn k)=f k∧Gv (f k)
theorem KOK_pos {i:Int} (h0:1≤i) (h1:i≤(9223372036854775807:Int)):KOK (kn i):=⟨fm_kn i,by simp,by simp;omega,by simp;omega⟩
theorem hd_mt {n:Nat} (hn:n≤65536):U.Hd n Gv (Mt n) where
 gd:=fun _ _ _ k h h1 h2=>(h.2 k h1 h2).2
 rd:=fun _ _ _ k h h1 h2=>(h.2 k h1 h2).1
 pr:=fun _ _ _ _ h=>h
 st:=fun t s f k v h h1 h2 hv=>by
   have hk:KOK (kn k):=KOK_pos h1 (by omega)
   have e:=set_held (s:=s) (v:=v) h.1 hk hv.1 (by rw[(h.2 k h1 h2).1];exact (h.2 k h1 h2).2.2)
   have e0:(tset t s (kn k) v).2.2=0:=by rw[e]
   have hr:Rng (kn k):=⟨by show -9223372036854775808≤k;omega,by show k≤9223372036854775807;omega⟩
   have hm:=(tset_map (s:=s) (v:=v) h.1 hr).1 e0
   refine ⟨e0,?_,fun j j1 j2=>?_⟩
   ·rw[e];exact h.1.set hr hv.1
   ·unfold U.sw1
    by_cases q:j=k
    ·subst q
     rw[if_pos rfl]
     exact ⟨hm.2.2.1,hv⟩
    ·rw[if_neg q,hm.2.2.2 (kn j) (KOK_pos j1 (by omega)) (fun z=>q (by
      have :(kn j).2.1=(kn k).2.1:=by rw[z]
      exact this))]
     exact h.2 j j1 j2
end Go.Proofs.YtkmopcanaalemabGreat


namespace Go.Proofs.YtkmopcanaalemabGreat
open Go.RowKit
theorem Okn.new {No : Nat → Prop} {w : World} {S hb c n z : Nat} {vb : Value} {s : H.St} {x y : Int} (o : Okn s x y n z) (h : H.Hp No w S hb c vb s) (hc : c ≤ 700000) (iv : H.Inv 0 s) :
    Calls Tryz.prog 24 #[.pointer (some ⟨S,0,none⟩),.int .i64 x,.int .i64 y] w fun e w'=>∃ T A b a,e = .returned (.tuple #[.pointer (some ⟨T,0,none⟩),.int .i64 0]) ∧ TT No w' T A b a S hb (c + 3) (newT n z (H.takeId (H.takeSt s 4) (n : Nat)) (H.takeId (H.takeSt (H.takeSt s 4) (n : Nat)) (3 * (z : Nat)))) (nS s x y) ∧ Keep No w w':=by
  obtain ⟨m,rfl,hm,hz⟩:=o.hy
  obtain ⟨e3,e4⟩:=tpE_two (z:=(z : Nat)) o.e2
  rw [if_neg (fun q=>q o.e3)] at e4
  rw [o.es,← e4,o.ex]
  exact new_good h hc iv n m z o.hn hm hz o.hz o.e1 (e3.trans o.e3)
theorem Okn.rnew {No : Nat → Prop} {w : World} {S c n z : Nat} {s : H.St} {x y : Int} (o : Okn s x y n z) (h : RH No w S c s) (hc : c ≤ 700000) (iv : H.Inv 0 s) :
    Calls Tryz.prog 25 #[.pointer (some ⟨S,0,none⟩),.int .i64 x,.int .i64 y] w fun e w'=>∃ RT A P ka va ca,e = .returned (.tuple #[.pointer (some ⟨RT,0,none⟩),.int .i64 0]) ∧ RH (fun g=>No g ∨ g = RT ∨ g = A ∨ g = P ∨ g = ka ∨ g = va ∨ g = ca) w' S (c + 3) (nS s x y) ∧ Keep No w w' ∧
      Nr w w' n z RT A P ka va ca S (H.takeId (H.takeSt s 4) (n : Nat)) (H.takeId (H.takeSt (H.takeSt s 4) (n : Nat)) (3 * (z : Nat))):=by
  obtain ⟨m,rfl,hm,hz⟩:=o.hy
  rw [o.es,o.ex]
  exact rnew_good h hc iv n m z o.hn hm hz o.hz.le o.e1 o.e2 o.e3
structure Bgn (w w' : World) (M T A b a S hb RT RA P ka va ca G n z : Nat) (t : TS) (s : H.St) : Prop where
  tt : TT (fun g=>g < w.heap.size ∨ (M ≤ g ∧ g < w'.heap.size)) w' T A b a S hb 3 t s
  rh : RH (fun g=>g < M ∨ g = RT ∨ g = RA ∨ g = P ∨ g = ka ∨ g = va ∨ g = ca) w' G 3 s
  nr : ∃ W,M ≤ W.heap.size ∧ Nr W w' n z RT RA P ka va ca G t.sb t.nb
  bel : Below w.heap.size w w'
  le : w.heap.size ≤ M
  iv : H.Inv 0 s
  et : t = newT n z t.sb t.nb
  rt : Rt z
  en : n ≤ 65536
end Go.Proofs.YtkmopcanaalemabGreat


namespace Go.Proofs.YtkmopcanaalemabGreat
open Go.RowKit
theorem Okn.tb {s:H.St} {x y:Int} {n z:Nat} (o:Okn s x y n z) (iv:H.Inv 0 s) {t:TS} (et:t=newT n z t.sb t.nb) (e1:t.sb=H.takeId (H.takeSt s 4) (n:Nat)) (e2:t.nb=H.takeId (H.takeSt (H.takeSt s 4) (n:Nat)) (3 * (z:Nat))):TB t (nS s x y) (s.live+4):=by
 obtain ⟨m,rfl,hm,hz⟩:=o.hy
 have hn:t.p.n=n:=by rw[et];rfl
 have hzz:t.p.z=z:=by rw[et];rfl
 have hin:inP x∧inP (m:Int):=by
  rw[o.ex]
  exact ⟨⟨by omega,by have:=o.hn;omega⟩,⟨by omega,by omega⟩⟩
 have eS:nS s x (m:Nat)=H.takeSt (H.takeSt (H.takeSt s 4) (n:Nat)) (3 * (z:Nat)):=by
  unfold nS
  rw[if_neg (fun q=>q hin),if_neg (fun q=>q o.e1),hz,o.ex]
  obtain ⟨q1,q2⟩ | ⟨q1,q2,q3,q4⟩ | ⟨q1,q2,q3,q4⟩:=tp_cases (H.takeSt s 4) (n:Nat) (z:Nat)
  ·exact absurd o.e2 q1
  ·exact absurd o.e3 q2
  ·rw[if_neg (fun q=>q q3),q4]
 obtain ⟨a1,a2,a3,a4⟩:=blk_take iv o.e1
 obtain ⟨c1,c2,c3,c4⟩:=blk_take (iv.take 4) o.e2
 obtain ⟨d1,d2,d3,d4⟩:=blk_take ((iv.take 4).take (n:Nat)) o.e3
 have m1:=d4 _ _ c1
 rw[eS]
 refine ⟨by rw[hn,e1];exact m1.1,by rw[hzz,e2];exact d1,fun e=>?_,by rw[d2,c2,a2,hn,hzz]⟩
 rw[e1] at e⊢
 rw[e2] at e
 exact m1.2 e
def nlast (F:Nat→V):Nat→Int
 | 0=>0
 | k+1=>if fm (F k)=true then (k:Int)+1 else nlast F k
def bgm (F:Nat→V) (k:Nat) (x:V):V:=if x.1=2∧1≤x.2.1∧x.2.1≤(k:Int)∧fm (F (x.2.1 - 1).toNat)=true then F (x.2.1 - 1).toNat else nil
structure Bj (F:Nat→V) (k:Nat) (t:TS) (s:H.St):Prop where
 tb:TB t s 4
 lim:s.lim=3000
 sm:S3 t k
 mp:∀x,KOK x→pget t.p x=bgm F k x
theorem kn_of {x:V} (h:fm x=true) (h2:x.1=2):x=kn x.2.1:=by
 obtain ⟨k,n,s⟩:=x
 simp only at h2
 subst h2
 have h1:inF 2 n s=true:=h
 unfold inF at h1
 have e:s=⟨#[]⟩:=bytes_iff.1 (by
  simp[ByteArray.toList_eq] at h1⊢
  simpa using h1)
 rw[e]
theorem Bj.set {F:Nat→V} {k:Nat} {t:TS} {s:H.St} (h:Bj F k t s) (ti:TI t.p) (iv:H.Inv 0 s) (hv:fm (F k)=true) (hk:k≤62) (ti':TI (tset t s (kn ((k:Int)+1)) (F k)).1.p):Bj F (k+1) (tset t s (kn ((k:Int)+1)) (F k)).1 (tset t s (kn ((k:Int)+1)) (F k)).2.1:=by
 have hr:Rng (kn ((k:Int)+1)):=⟨by show -9223372036854775808≤(k:Int)+1;omega,by show (k:Int)+1≤9223372036854775807;omega⟩
 have e0:(tset t s (kn ((k:Int)+1)) (F k)).2.2=0:=set_zero3 ti hr (fm_kn _) hv (by simp) h.tb iv h.lim h.sm (by omega)
 have tb:=h.tb.set iv (kn ((k:Int)+1)) (F k)
 obtain ⟨_,_,m1,m2⟩:=(tset_map (s:=s) (v:=F k) ti hr).1 e0
 refine ⟨tb.1,tb.2.trans h.lim,h.sm.set (by omega) ti hr ti',fun x hx=>?_⟩
 by_cases q:x=kn ((k:Int)+1)
 ·subst q
  rw[m1]
  unfold bgm
  have e:((k:Int)+1 - 1).toNat=k:=by omega
  rw[if_pos ⟨rfl,by show 1≤(k:Int)+1;omega,by show (k:Int)+1≤((k+1:Nat):Int);omega,by show fm (F ((k:Int)+1 - 1).toNat)=true;rw[e];exact hv⟩]
  show F k=F ((k:Int)+1 - 1).toNat
  rw[e]
 ·rw[m2 x hx q,h.mp x hx]
  unfold bgm
  by_cases z:x.1=2∧1≤x.2.1∧x.2.1≤(k:Int)∧fm (F (x.2.1 - 1).toNat)=true
  ·rw[if_pos z,if_pos ⟨z.1,z.2.1,by omega,z.2.2.2⟩]
  ·rw[if_neg z,if_neg (fun y=>z ⟨y.1,y.2.1,by
    have y3:=y.2.2.1
    by_cases w:x.2.1=(k:Int)+1
    ·exact absurd (by rw[kn_of hx.1 y.1,w]) q
    ·omega,y.2.2.2⟩)]
theorem Bj.skip {F:Nat→V} {k:Nat} {t:TS} {s:H.St} (h:Bj F k t s) (hv:¬fm (F k)=true):Bj F (k+1) t s:=by
 refine ⟨h.tb,h.lim,⟨h.sm.n,h.sm.z,Nat.le_succ_of_le h.sm.pr⟩,fun x hx=>?_⟩
 rw[h.mp x hx]
 unfold bgm
 by_cases z:x.1=2∧1≤x.2.1∧x.2.1≤(k:Int)∧fm (F (x.2.1 - 1).toNat)=true
 ·rw[if_pos z,if_pos ⟨z.1,z.2.1,by omega,z.2.2.2⟩]
 ·rw[if_neg z,if_neg (fun y=>z ⟨y.1,y.2.1,by
   have y3:=y.2.2.1
   by_cases w:x.2.1=(k:Int)+1
   ·exfalso
    have e:(x.2.1 - 1).toNat=k:=by omega
    rw[e] at y
    exact hv y.2.2.2
   ·omega,y.2.2.2⟩)]
theorem Bj.mt {F:Nat→V} {n:Nat} {t:TS} {s:H.St} (h:Bj F n t s) (ti:TI t.p) (hn:n≤60) (hg:∀j,j<n→Gv (F j)):Mt n t s (fun k=>F (k - 1).toNat):=by
 refine ⟨ti,fun k k1 k2=>?_⟩
 have hg':=hg (k - 1).toNat (by omega)
 rw[h.mp (kn k) (KOK_pos k1 (by omega))]
 unfold bgm
 rw[if_pos ⟨rfl,k1,k2,hg'.1⟩]
 exact ⟨rfl,hg'⟩
theorem ok3:∃n z,Okn (H.newSt 3000) 0 0 n z∧n=0∧z=0:=by
 have h4:H.takeE (H.newSt 3000) 4=0:=by kernel_rfl
 have he:nE (H.newSt 3000) 0 0=0:=by kernel_rfl
 obtain ⟨n,z,o⟩:=okn he
 refine ⟨n,z,o,?_,?_⟩
 ·have:=o.ex;omega
 ·obtain ⟨m,hm,_,hz⟩:=o.hy
  have e:m=0:=by omega
  subst e
  have u:C.up2 0=0:=by kernel_rfl
  simp only[Int.ofNat_zero] at hz
  have :C.up2 ((0:Nat):Int)=(z:Int):=hz
  have u':C.up2 ((0:Nat):Int)=0:=u
  omega
end Go.Proofs.YtkmopcanaalemabGreat


namespace Go.Proofs.YtkmopcanaalemabGreat
open Go.RowKit
structure Rb (w:World) (RT A P ka va ca:Nat) (cb:Nat→Nat) (G:Nat) (t:TS):Prop where
 c0:w.cell? ⟨RT,0,none⟩=some (.slice (some ⟨A,0,none⟩) t.p.n t.p.n)
 c1:w.cell? ⟨RT,1,none⟩=some (.pointer (some ⟨P,0,none⟩))
 c2:w.cell? ⟨RT,2,none⟩=some (.int .i64 t.sb)
 c3:w.cell? ⟨RT,3,none⟩=some (.int .i64 t.nb)
 c4:w.cell? ⟨RT,4,none⟩=some (.int .i64 t.hint)
 c5:w.cell? ⟨RT,5,none⟩=some (.int .i64 t.pr)
 c6:w.cell? ⟨RT,6,none⟩=some (.pointer (some ⟨G,0,none⟩))
 fz:∀j,w.frozen? ⟨RT,j,none⟩=false
 sl:Rv w A t.p.n t.p.F
 fA:∀j,w.frozen? ⟨A,j,none⟩=false
 ltR:RT<w.heap.size
 ltA:A<w.heap.size
 rp:Rp w P ka va ca t.p.z t.p.g cb
 nRA:RT≠A
 nR:∀x,Rp.Own P ka va ca t.p.z t.p.g cb x→x≠RT
 nA:∀x,Rp.Own P ka va ca t.p.z t.p.g cb x→x≠A
def Rb.Own (RT A P ka va ca:Nat) (cb:Nat→Nat) (t:TS) (x:Nat):Prop:=x=RT∨x=A∨Rp.Own P ka va ca t.p.z t.p.g cb x
theorem Rb.kept {No:Nat→Prop} {w w':World} {RT A P ka va ca:Nat} {cb:Nat→Nat} {G:Nat} {t:TS} (h:Rb w RT A P ka va ca cb G t) (k:Keep No w w') (hn:∀x,Rb.Own RT A P ka va ca cb t x→No x):Rb w' RT A P ka va ca cb G t:=by
 have eR:=k.block RT h.ltR (hn RT (.inl rfl))
 have eA:=k.block A h.ltA (hn A (.inr (.inl rfl)))
 exact ⟨by rw[World.cell?_of_block (w:=w) eR];exact h.c0,by rw[World.cell?_of_block (w:=w) eR];exact h.c1,by rw[World.cell?_of_block (w:=w) eR];exact h.c2,by rw[World.cell?_of_block (w:=w) eR];exact h.c3,by rw[World.cell?_of_block (w:=w) eR];exact h.c4,by rw[World.cell?_of_block (w:=w) eR];exact h.c5,by rw[World.cell?_of_block (w:=w) eR];exact h.c6,fun j=>by rw[World.frozen?_of_block (w:=w) eR];exact h.fz j,h.sl.block eA,fun j=>by rw[World.frozen?_of_block (w:=w) eA];exact h.fA j,Nat.lt_of_lt_of_le h.ltR k.size,Nat.lt_of_lt_of_le h.ltA k.size,h.rp.kept k (fun x q=>hn x (.inr (.inr q))),h.nRA,h.nR,h.nA⟩
theorem Rb.below {w w':World} {RT A P ka va ca:Nat} {cb:Nat→Nat} {G:Nat} {t:TS} (h:Rb w RT A P ka va ca cb G t) (k:Below w.heap.size w w'):Rb w' RT A P ka va ca cb G t:=h.kept (No:=fun _=>True) (Keep.of k) (fun _ _=>trivial)
set_option maxRecDepth 20000 in
set_option maxHeartbeats 2000000 in
theorem rwithin_any {RT A:Nat} {n:Nat} (k:V) (w:World) (h:w.cell? ⟨RT,0,none⟩=some (.slice (some ⟨A,0,none⟩) n n)) (hlt:RT<w.heap.size):
 Calls Tryz.prog 54 #[.pointer (some ⟨RT,0,none⟩),vv k] w fun e w'=>e= .returned (.bool (decide (inA n k)))∧Below w.heap.size w w':=by
 have c0':(w.alloc (vb k.1 k.2.1 k.2.2)).cell? ⟨RT,0,none⟩=some (.slice (some ⟨A,0,none⟩) n n):=by
  rw[World.cell?_of_block (w:=w) (Below.heap_alloc _ _ _ hlt)];exact h
 have HE:Hid (decide (inA n k)=decide (k.1=2∧k.2.2.toList=[]∧1≤k.2.1∧k.2.1≤(n:Int))):=by
  show _=_
  unfold inA
  have :k.2.2=⟨#[]⟩↔k.2.2.toList=[]:=by rw[←bytes_iff];simp[ByteArray.toList_eq]
  simp only[this]
 clear h
 obtain ⟨k0,k1,k2⟩:=k
 unfold vv vl
 unfold vb at *
 simp only at *
 have HB:Hid _:=b1 w (.cells #[.int .i64 k0,.int .i64 k1,.string k2] 36)
 by_cases h1:k0=2
 ·subst h1
  by_cases h2:k2.toList=[]
  ·have g2:(k2.toList==[])=true:=by simp[h2]
   by_cases h3:1≤k1
   ·have g3:decide (1≤k1)=true:=by simp[h3]
    by_cases h4:k1≤(n:Int)
    ·have g4:decide (k1≤(n:Int))=true:=by simp[h4]
     have E:Hid (decide (inA n (2,k1,k2))=true):=HE.out.trans (decide_eq_true ⟨rfl,h2,h3,h4⟩)
     clear HE
     go_enter Tryz.func54,Tryz.ntmps54
     go_wp2_with fail
     go_quiet (fail)
     go_wp2_with fail
     go_ret
     rw[E.out]
     exact ⟨rfl,bthen HB.out (by simp) (bdrew _ _ _)⟩
    ·have g4:decide (k1≤(n:Int))=false:=by simp[h4]
     have E:Hid (decide (inA n (2,k1,k2))=false):=HE.out.trans (decide_eq_false (fun q=>h4 q.2.2.2))
     clear HE
     go_enter Tryz.func54,Tryz.ntmps54
     go_wp2_with fail
     go_quiet (fail)
     go_wp2_with fail
     go_ret
     rw[E.out]
     exact ⟨rfl,bthen HB.out (by simp) (bdrew _ _ _)⟩
   ·have g3:decide (1≤k1)=false:=by simp[h3]
    have E:Hid (decide (inA n (2,k1,k2))=false):=HE.out.trans (decide_eq_false (fun q=>h3 q.2.2.1))
    clear HE c0'
    go_enter Tryz.func54,Tryz.ntmps54
    go_wp2_with fail
    go_quiet (fail)
    go_wp2_with fail
    go_ret
    rw[E.out]
    exact ⟨rfl,bthen HB.out (by simp) (bdrew _ _ _)⟩
  ·have g2:(k2.toList==[])=false:=by simpa using h2
   have E:Hid (decide (inA n (2,k1,k2))=false):=HE.out.trans (decide_eq_false (fun q=>h2 q.2.1))
   clear HE c0'
   go_enter Tryz.func54,Tryz.ntmps54
   go_wp2_with fail
   go_quiet (fail)
   go_wp2_with fail
   go_ret
   rw[E.out]
   exact ⟨rfl,bthen HB.out (by simp) (bdrew _ _ _)⟩
 ·have g1:(k0==2)=false:=by simpa using h1
  have E:Hid (decide (inA n (k0,k1,k2))=false):=HE.out.trans (decide_eq_false (fun q=>h1 q.1))
  clear HE c0'
  go_enter Tryz.func54,Tryz.ntmps54
  go_wp2_with fail
  go_quiet (fail)
  go_wp2_with fail
  go_ret
  rw[E.out]
  exact ⟨rfl,bthen HB.out (by simp) (bdrew _ _ _)⟩
set_option maxHeartbeats 1000000 in
theorem rpsize_any {P ka va ca z:Nat} {g:G} {cb:Nat→Nat} (w:World) (h:Rp w P ka va ca z g cb):Calls Tryz.prog 75 #[.pointer (some ⟨P,0,none⟩)] w fun e w'=>e= .returned (.int .i64 (z:Nat))∧w'=w:=by
 have c0:=h.s0
 clear h
 go_enter Tryz.func75,Tryz.ntmps75
 go_wp2_with fail
 go_ret
 exact ⟨rfl,rfl⟩
end Go.Proofs.YtkmopcanaalemabGreat


namespace Go.Proofs.YtkmopcanaalemabGreat
open Go.RowKit
set_option maxHeartbeats 1000000 in
theorem rof_any (s:ByteArray) (w:World) (hs:s.size≤9223372036854775807):
 Calls Tryz.prog 117 #[.string s] w fun e w'=>e= .returned (.int .i64 (fnv s.data.toList))∧w'=w:=by
 go_enter Tryz.func117,Tryz.ntmps117
 go_wp2
 go_loop [3,4] (fun h i=>∃k:Nat,k≤s.size∧i= .int .i64 k∧∃m:Nat,h= .int .i64 (m:Nat)∧Hid (m=fnv (s.data.toList.take k))) (fun _ i=>s.size - (intOf i).toNat)
 case atStart=>exact ⟨0,Nat.zero_le _,rfl,2166136261,rfl,rfl⟩
 case round=>
  obtain ⟨k,hk,rfl,m,rfl,HM⟩:=hrel
  by_cases hlt:k<s.size
  ·have hm:m<4294967296:=by rw[HM.out];exact fnv_lt _
   have h1:Hid _:=step_i64 m s[k] hm
   have HM2:Hid (fnv1 m s[k]=fnv (s.data.toList.take (k+1))):=by
    show _=_
    rw[take_snoc s k hlt,fnv_snoc,HM.out]
   clear HM
   go_wp2
   go_round
   case rel=>exact ⟨k+1,by omega,by go_num,fnv1 m s[k],congrArg (Value.int .i64) h1.out,HM2⟩
   case measure=>simp[intOf];omega
  ·have HT:=take_all s k hlt
   rw[HT] at HM
   have hm:m<4294967296:=by rw[HM.out];exact fnv_lt _
   clear HT
   go_wp2
   go_ret
   exact ⟨ret1 (by rw[HM.out]),rfl⟩
set_option maxHeartbeats 600000 in
theorem rplace_any (k n:Int) (s:ByteArray) (z:Int) (w:World) (hn0:-9223372036854775808≤n) (hn1:n≤9223372036854775807) (hF:inF k n s=true) (hP:pw z=true) (hk0:k≠0):
 Calls Tryz.prog 94 #[vl k n s,.int .i64 z] w fun e w'=>e= .returned (.int .i64 (mp k n s z))∧w'=w.alloc (vb k n s):=by
 unfold vl vb at *
 obtain ⟨hz0,hz1⟩:=pw_bounds z hP
 have HK:Hid _:=inF_kind k n s hF
 clear hF hP
 rcases HK.out with h | ⟨h,hn⟩ | h | ⟨h,hs⟩ | ⟨h,hn⟩
 ·exact absurd h hk0
 ·subst h
  clear hk0
  have e1:mp 1 n s z=n % z:=by simp[mp]
  rw[e1]
  clear e1
  have HT:Hid (n.tmod z=n % z):=Int.tmod_eq_emod_of_nonneg (by omega)
  by_cases hz:z=1
  ·subst hz
   go_enter Tryz.func94,Tryz.ntmps94
   go_wp2
   go_ret;exact ⟨ret1 (by first | rfl | exact HT.out | omega),rfl⟩
  ·go_enter Tryz.func94,Tryz.ntmps94
   go_wp2
   go_ret;exact ⟨ret1 (by first | rfl | exact HT.out | omega),rfl⟩
 ·subst h
  clear hk0
  have e1:mp 2 n s z=(n % 18446744073709551616) % dm z:=by simp[mp]
  rw[e1]
  clear e1
  by_cases hz:z=1
  ·subst hz
   have hd:dm 1=1:=rfl
   rw[hd]
   clear hd
   go_enter Tryz.func94,Tryz.ntmps94
   go_wp2
   go_ret;exact ⟨ret1 (by first | rfl | omega),rfl⟩
  ·have hd:dm z=z - 1:=by unfold dm;rw[if_neg hz]
   rw[hd]
   clear hd
   go_enter Tryz.func94,Tryz.ntmps94
   go_wp2
   go_ret;refine ⟨ret1 ?_,rfl⟩
   exact wtm _ _ (by omega) (by omega)
 ·subst h
  clear hk0
  have e1:mp 3 n s z=(fnv s.data.toList:Int) % z:=by simp[mp]
  have C3:=fun w=>rof_any s w (by omega)
  obtain ⟨f,hf⟩:∃f,(fnv s.data.toList)=f:=⟨_,rfl⟩
  rw[hf] at C3 e1
  clear hf
  rw[e1]
  clear e1
  by_cases hz:z=1
  ·subst hz
   go_enter Tryz.func94,Tryz.ntmps94
   go_wp2_with (go_at_call 117;refine (C3 _).mono ?_;rintro e w' ⟨rfl,rfl⟩)
   go_ret;exact ⟨ret1 (by first | rfl | omega | (simp;done)),rfl⟩
  ·go_enter Tryz.func94,Tryz.ntmps94
   go_wp2_with (go_at_call 117;refine (C3 _).mono ?_;rintro e w' ⟨rfl,rfl⟩)
   go_ret;exact ⟨ret1 (by first | rfl | exact Int.tmod_eq_emod_of_nonneg (by omega)),rfl⟩
 ·have e1:mp k n s z=((4 * n+k) % 18446744073709551616) % dm z:=by
   rw[mp,if_neg (by omega),if_neg (by omega),if_neg (by omega)]
  rw[e1]
  clear e1
  have hu:n % 18446744073709551616=n:=by omega
  by_cases hz:z=1
  ·subst hz
   have hd:dm 1=1:=rfl
   rw[hd]
   clear hd
   rcases h with h | h | h
   all_goals
    subst h
    go_enter Tryz.func94,Tryz.ntmps94
    go_wp2
    go_ret;exact ⟨ret1 (by first | rfl | omega),rfl⟩
  ·have hd:dm z=z - 1:=by unfold dm;rw[if_neg hz]
   rw[hd]
   clear hd
   rcases h with h | h | h
   all_goals
    subst h
    go_enter Tryz.func94,Tryz.ntmps94
    go_wp2
    go_ret;refine ⟨ret1 ?_,rfl⟩
    rw[wtm2 _ _ _ (by omega) (by omega)]
set_option maxHeartbeats 2000000 in
theorem rkey_any {S ka va ca z:Nat} {g:G} {cb:Nat→Nat} (k:V) (w:World) (h:Rp w S ka va ca z g cb):Calls Tryz.prog 116 #[pp S,vl k.1 k.2.1 k.2.2] w fun e w'=>e= .returned (.bool (decide (z≠0) && (fm k && decide (k.1≠0))))∧Below w.heap.size w w':=by
 have CK:=rcheck_any k.1 k.2.1 k.2.2
 rw[chk_of] at CK
 have c0:=h.s0
 have hS:=h.lt.1
 have HB1:Hid (Below w.heap.size w (w.alloc (vb k.1 k.2.1 k.2.2))):=b1 _ _
 have HB2:Hid (Below w.heap.size w ((w.alloc (vb k.1 k.2.1 k.2.2)).alloc (vb k.1 k.2.1 k.2.2))):=b2 _ _ _
 clear h
 unfold pp vl vb at *
 by_cases hz:z=0
 ·subst hz
  have e:(decide ((0:Nat)≠0) && (fm k && decide (k.1≠0)))=false:=rfl
  rw[e]
  clear e CK
  have c0':w.cell? ⟨S,0,none⟩=some (.slice (some ⟨ka,0,none⟩) 0 0):=c0
  go_enter Tryz.func116,Tryz.ntmps116
  go_wp2_with fail
  go_ret
  exact ⟨rfl,HB1.out⟩
 ·have hz':(0:Int)<(z:Int):=by omega
  rw[decide_eq_true (show z≠0 from hz),Bool.true_and]
  cases hf:fm k
  ·rw[hf,if_neg (by simp)] at CK
   rw[Bool.false_and]
   go_enter Tryz.func116,Tryz.ntmps116
   go_wp2_with fail
   refine (CK _).mono ?_;rintro e w' ⟨rfl,rfl⟩
   go_wp2_with fail
   go_ret
   exact ⟨rfl,HB2.out⟩
  ·rw[hf,if_pos rfl] at CK
   rw[Bool.true_and]
   clear hf
   go_enter Tryz.func116,Tryz.ntmps116
   go_wp2_with fail
   refine (CK _).mono ?_;rintro e w' ⟨rfl,rfl⟩
   go_wp2_with fail
   go_ret
   exact ⟨ret_bool (by rw[Bool.eq_iff_iff];simp),HB2.out⟩
end Go.Proofs.YtkmopcanaalemabGreat
