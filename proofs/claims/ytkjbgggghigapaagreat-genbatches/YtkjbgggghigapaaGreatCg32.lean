import Derived.Test.YtkjbgggghigapaaGreatCg31
namespace Go.Proofs.YtkjbgggghigapaaGreat
open Go.RowKit
theorem Gp.unit {w:World} {vU vG:Value} {us:List Gu} {gl:List Tx} (h:Gp w vU vG us gl) {i:Nat} {u:Gu} (hu:us[i]?=some u):∃g n c k,vU= .slice (some ⟨g,0,none⟩) us.length n∧w.cell? ⟨g,i * 5,none⟩=some (.string ⟨u.nm.toArray⟩)∧w.cell? ⟨g,i * 5+1,none⟩=some (.int .i64 u.pa)∧w.cell? ⟨g,i * 5+2,none⟩=some (.int .i64 u.sl)∧w.cell? ⟨g,i * 5+3,none⟩=some c∧w.cell? ⟨g,i * 5+4,none⟩=some k∧w.ownsRow 0 79 3 c u.cs.length (vcl u.cs)∧w.ownsRow 0 48 4 k u.cd.length (icl u.cd):=by
 obtain ⟨vc,vk,h1,h2,h3,h4,h5⟩:=h.ex
 have hl:=(List.getElem?_eq_some_iff.1 hu).1
 obtain ⟨c,hc⟩:∃c,vc[i]?=some c:=⟨_,List.getElem?_eq_getElem (by rw[h2];exact hl)⟩
 obtain ⟨k,hk⟩:∃k,vk[i]?=some k:=⟨_,List.getElem?_eq_getElem (by rw[h3];exact hl)⟩
 obtain ⟨q0,q1,q2,q3,q4⟩:=ucl_at us vc vk i u c k hu hc hk
 obtain ⟨g,n,e,-,-⟩:=h1.form (by omega)
 have A:∀(j:Nat) (v:Value),(ucl us vc vk)[j]?=some v→w.cell? ⟨g,j,none⟩=some v:=fun j v hj=>by
  obtain ⟨g',e',r⟩:=own_at h1 j v hj
  rw[e] at e'
  have e2:g=g':=by simpa [Value.ownBlock] using e'
  rw[e2];exact r
 exact ⟨g,n,c,k,e,A _ _ q0,A _ _ q1,A _ _ q2,A _ _ q3,A _ _ q4,h4 i u c hu hc,h5 i u k hu hk⟩
theorem icl_cells:∀(l:List In) (j:Nat) (i:In),l[j]?=some i→(icl l)[j * 4]?=some (.int .i64 i.1)∧(icl l)[j * 4+1]?=some (.int .i64 i.2.1)∧(icl l)[j * 4+2]?=some (.int .i64 i.2.2.1)∧(icl l)[j * 4+3]?=some (.int .i64 i.2.2.2)
 | [],j,i,h=>by simp at h
 | x::l,0,i,h=>by simp at h;subst h;exact ⟨rfl,rfl,rfl,rfl⟩
 | x::l,j+1,i,h=>by
   obtain ⟨h0,h1,h2,h3⟩:=icl_cells l j i (by simpa using h)
   refine ⟨?_,?_,?_,?_⟩
   ·rw[show (j+1) * 4=j * 4+4 by omega];simpa only[icl,List.flatMap_cons,ic1,List.cons_append,List.nil_append,List.getElem?_cons_succ] using h0
   ·rw[show (j+1) * 4+1=j * 4+1+4 by omega];simpa only[icl,List.flatMap_cons,ic1,List.cons_append,List.nil_append,List.getElem?_cons_succ] using h1
   ·rw[show (j+1) * 4+2=j * 4+2+4 by omega];simpa only[icl,List.flatMap_cons,ic1,List.cons_append,List.nil_append,List.getElem?_cons_succ] using h2
   ·rw[show (j+1) * 4+3=j * 4+3+4 by omega];simpa only[icl,List.flatMap_cons,ic1,List.cons_append,List.nil_append,List.getElem?_cons_succ] using h3
theorem ins_at {w:World} {g n m:Nat} {l:List In} (h:w.ownsRow 0 48 4 (.slice (some ⟨g,0,none⟩) n m) l.length (icl l)) {j:Nat} {i:In} (hj:l[j]?=some i):w.cell? ⟨g,j * 4,none⟩=some (.int .i64 i.1)∧w.cell? ⟨g,j * 4+1,none⟩=some (.int .i64 i.2.1)∧w.cell? ⟨g,j * 4+2,none⟩=some (.int .i64 i.2.2.1)∧w.cell? ⟨g,j * 4+3,none⟩=some (.int .i64 i.2.2.2):=by
 obtain ⟨q0,q1,q2,q3⟩:=icl_cells l j i hj
 have A:∀(j:Nat) (v:Value),(icl l)[j]?=some v→w.cell? ⟨g,j,none⟩=some v:=fun j v hj=>by
  obtain ⟨g',e',r⟩:=own_at h j v hj
  have e2:g=g':=by simpa [Value.ownBlock] using e'
  rw[e2];exact r
 exact ⟨A _ _ q0,A _ _ q1,A _ _ q2,A _ _ q3⟩
def exW:List UInt8:=[119,104,105,108,101,32,120,32,100,111,32,98,114,101,97,107,32,101,110,100]
theorem exW_pr:prT exW=(one 20 [] 0 0 (one 25 [] 0 0 ((one 6 [120] 0 6 .nil).app (one 20 [] 0 11 (one 29 [] 0 11 .nil)))),0,0):=by
 rw[←prTF_eq];kernel_rfl
theorem exW_ch:chT exW=(([⟨[],0,0,0,[]⟩],[[120]]),0,0):=by
 rw[←chTF_eq];kernel_rfl
theorem exW_mk (lf:Int→Int→Int) (S U:Nat):(mkU (gn lf ((one 20 [] 0 0 (one 25 [] 0 0 ((one 6 [120] 0 6 .nil).app (one 20 [] 0 11 (one 29 [] 0 11 .nil))))).siz+1)) .nil (one 20 [] 0 0 (one 25 [] 0 0 ((one 6 [120] 0 6 .nil).app (one 20 [] 0 11 (one 29 [] 0 11 .nil))))) 0 (gsS [⟨[],0,0,0,[]⟩] [[120]] S U)).us=
 [⟨[],0,0,[],[(1,1+lf 0 0 - 1,0,0),(8,1,0,0),(19,7,0,0),(34,0,0,0),(1,1+lf 0 0 - 1+lf 0 11 - 1,0,0),(18,7,0,0),(18,1,0,0),(22,0,0,0),(25,0,0,0)]⟩]:=by kernel_rfl
theorem exW_gn (S U:Nat):∃a b,genU exW S U=[⟨[],0,0,[],[(1,a,0,0),(8,1,0,0),(19,7,0,0),(34,0,0,0),(1,b,0,0),(18,7,0,0),(18,1,0,0),(22,0,0,0),(25,0,0,0)]⟩]:=by
 have h:=exW_mk (lfT exW) S U
 unfold genU okRep genS
 rw[exW_pr,exW_ch]
 exact ⟨_,_,h⟩
set_option maxRecDepth 20000 in
set_option maxHeartbeats 8000000 in
theorem fixed_any (w:World):Calls Tryz.prog 10 #[] w fun e w'=>e= .returned (.bool true)∧Below w.heap.size w w':=by
 have C:=Gen_any exW (by decide) w
 unfold GnP at C
 rw[exW_ch] at C
 go_enter Tryz.func10,Tryz.ntmps10
 go_wp2_with fail
 refine C.mono ?_
 rintro e v1 ⟨vU,vG,S,U,rfl,hG,hB⟩
 obtain ⟨a,b,he⟩:=exW_gn S U
 rw[he] at hG
 obtain ⟨aG,cG,rfl⟩:=row_form hG.gr
 obtain ⟨g,n,-,-,rfl,-,-,-,-,-,-,-⟩:=hG.unit (i:=0) rfl
 have BB:=b2 v1 (.cells #[.slice (some ⟨g,0,none⟩) 1 n,.slice aG (genG exW).length cG] 25) (.cells #[.int .i64 0,.int .i64 0] 28)
 have HB:Hid (Below w.heap.size w ((v1.alloc (.cells #[.slice (some ⟨g,0,none⟩) 1 n,.slice aG (genG exW).length cG] 25)).alloc (.cells #[.int .i64 0,.int .i64 0] 28))):=bthen hB hB.size BB
 have hG2:=hG.below BB
 obtain ⟨g',n',c,k,eq,-,-,-,-,d4,-,hk⟩:=hG2.unit (i:=0) rfl
 obtain ⟨rfl,rfl⟩:g=g'∧n=n':=by simpa using eq
 obtain ⟨gk,nk,rfl,-,-⟩:=hk.form (by show 0<9;omega)
 obtain ⟨a0,a1,a2,a3⟩:=ins_at hk (j:=2) rfl
 obtain ⟨b0,b1',b2',b3⟩:=ins_at hk (j:=5) rfl
 obtain ⟨c0,c1,c2,c3⟩:=ins_at hk (j:=6) rfl
 obtain ⟨e0,e1,e2,e3⟩:=ins_at hk (j:=8) rfl
 generalize (genG exW).length=nG at *
 clear hG hG2 hk hB BB he C
 go_wp2
 go_ret
 exact ⟨rfl,HB.out⟩
end Go.Proofs.YtkjbgggghigapaaGreat


namespace Go.Proofs.YtkjbgggghigapaaGreat
def repB:Nat→List UInt8
 | 0=>[]
 | n+1=>repB n++[55,44,32]
def txtB (n:Nat):List UInt8:=[120,32,61,32,123]++repB n++[125]
def btF (n:Int):List In→Int→Int→Bool
 | [],next,waits=>decide (next=n+1) && decide (waits=0)
 | i::r,next,waits=>
   if i.1=26 then (if i.2.1=n∧i.2.2.1=0 then btF n r next waits else false)
   else if i.1=2 then btF n r next (waits+1)
   else if i.1=28 then (if i.2.1=waits∧i.2.2.1=next∧1≤i.2.1∧i.2.1≤50 then btF n r (next+i.2.1) 0 else false)
   else btF n r next waits
def btU (n:Nat):List Gu→Bool
 | [u]=>(decide (n=0) || decide (u.cs.length=1)) && btF (n:Nat) u.cd 1 0
 | _=>false
def btO (lf:Int→Int→Int) (S U:Nat) (n:Nat):Bool:=
 let t:=prTF (txtB n)
 let r:=if t.2.1=0 then chF t.1 else (([],[]),t.2.1,t.2.2)
 decide (r.2.1=0) && decide (r.2.2=0) && btU n (mkU (gn lf (t.1.siz+1)) .nil t.1 0 (gsS r.1.1 r.1.2 S U)).us
end Go.Proofs.YtkjbgggghigapaaGreat
