import Derived.Test.YtkmopcanaalemabGreatCg35
import Derived.ProofKit
import Derived.OpenShut
import Derived.ChangeSlices
import Derived.ChangeOld
import Derived.SizedLaws
import Derived.Deep.Slices
import Derived.Deep.Fields
import Derived.Deep.Strs
namespace Go.Proofs.YtkmopcanaalemabGreat
open Go.RowKit Go.ChangeShapes Go.WideShapes Go.ChangeAt Go.Deep
theorem cells3:Tryz.prog.cellsOf 3=1:=by kernel_rfl
theorem cells4:Tryz.prog.cellsOf 4=1:=by kernel_rfl
theorem cells9:Tryz.prog.cellsOf 9=1:=by kernel_rfl
theorem cells22:Tryz.prog.cellsOf 22=1:=by kernel_rfl
theorem cells23:Tryz.prog.cellsOf 23=1:=by kernel_rfl
theorem cells36:Tryz.prog.cellsOf 36=3:=by kernel_rfl
theorem cells25:Tryz.prog.cellsOf 25=3:=by kernel_rfl
theorem laidOut:laidOutB Tryz.prog=true:=by kernel_rfl
theorem elem_val {H:Type} {enc:TypeId×Value→H} {W:World} {base:Nat} {sp:Nat→Bool} {held:Bool} {fuel:Nat} {cs:List Value} {x:DataW H×List MemPlace}
 (hlen:cs.length=3) (hf:DataW.trod enc Tryz.prog W base sp held fuel 36 cs=some x):
 ∃(k n:Int) (s:ByteArray),cs=[.int .i64 k,.int .i64 n,.string s]∧(Lit.int .i64 n).wf=true:=by
 obtain ⟨c0,c1,c2,rfl⟩:∃c0 c1 c2,cs=[c0,c1,c2]:=by
  match cs,hlen with
  | [c0,c1,c2],_=>exact ⟨c0,c1,c2,rfl⟩
 obtain ⟨y0,y1,y2,m,hx,_,t0,t1,t2⟩:=trod_struct3 Tryz.underlying36 hf
 obtain ⟨k,e0,f0,g0⟩:=DataW.trod_int Tryz.underlying3 t0
 obtain ⟨n,e1,f1,g1⟩:=DataW.trod_int Tryz.underlying3 t1
 obtain ⟨s,e2,f2,g2⟩:=DataW.trod_string Tryz.underlying9 t2
 simp[cells3,cells9] at e0 e1 e2
 subst e0 e1 e2
 exact ⟨k,n,s,rfl,g1⟩
theorem add_none {b off:Nat} (i:Nat):(Addr.add ⟨b,off,none⟩ i)=⟨b,off+i,none⟩:=by
 by_cases hj0:i=0
 ·subst hj0;rfl
 ·simp[Addr.add,hj0]
theorem spot_none {W:World} {a:Addr} {v:Value} (h:W.cell? a=some v):a.spot=none:=by
 obtain ⟨b,off,spot⟩:=a
 cases spot with
 | none=>rfl
 | some q=>unfold World.cell? at h;split at h<;>simp at h
set_option maxRecDepth 100000 in
theorem open_vals16 {H:Type} {enc:TypeId×Value→H} {W:World} {base:Nat} {held:Bool} {fuel:Nat} {c:Value} {x:DataW H×List MemPlace} (t3:DataW.trod enc Tryz.prog W base (fun _=>true) held fuel 22 [c]=some x):
 ∃(a:Option Addr) (L cap:Nat) (F:Nat→V),c= .slice a L cap∧L≤9223372036854775807∧Vin W a L F:=by
 rcases open_slice Tryz.underlying22 t3 with ⟨h0,_⟩ | ⟨a,len,cap,m,n,D,Pl,h0,hb,hl,hm,hmm,hx,he⟩
 ·simp at h0
  subst h0
  exact ⟨none,0,0,fun _=>nil,rfl,by omega,⟨fun i hi=>absurd hi (Nat.not_lt_zero _)⟩⟩
 ·simp only[if_true] at hmm
  subst hmm
  simp at h0
  subst h0
  have each:∀i,i<m→∃q:V,W.cell? (a.add (i * 3))=some (.int .i64 q.1)∧W.cell? (a.add (i * 3+1))=some (.int .i64 q.2.1)∧W.cell? (a.add (i * 3+2))=some (.string q.2.2):=by
   intro i hi
   obtain ⟨cs',h1,h2⟩:=he i hi
   rw[cells36] at h1
   obtain ⟨_,hlen,hcell⟩:=World.cells?_some h1
   obtain ⟨k,n,s,rfl,_⟩:=elem_val hlen h2
   have c0:=hcell 0 (by omega)
   have c1:=hcell 1 (by omega)
   have c2:=hcell 2 (by omega)
   rw[Addr.add_add] at c0 c1 c2
   exact ⟨(k,n,s),c0,c1,c2⟩
  obtain ⟨F,hF⟩:∃F:Nat→V,∀i,i<m→W.cell? (a.add (i * 3))=some (.int .i64 (F i).1)∧W.cell? (a.add (i * 3+1))=some (.int .i64 (F i).2.1)∧W.cell? (a.add (i * 3+2))=some (.string (F i).2.2):=
   ⟨fun i=>if h:i<m then (each i h).choose else nil,fun i hi=>by
    simp only[dif_pos hi]
    exact (each i hi).choose_spec⟩
  refine ⟨some a,len,m,F,rfl,by unfold maxLen at hm;omega,⟨fun i hi=>?_⟩⟩
  have hc0:=(hF 0 (by omega)).1
  have ha:a.add (0 * 3)=a:=rfl
  rw[ha] at hc0
  obtain ⟨b,off,spot⟩:=a
  have hs:spot=none:=spot_none hc0
  subst hs
  obtain ⟨q0,q1,q2⟩:=hF i (by omega)
  rw[add_none] at q0 q1 q2
  exact ⟨b,off,rfl,World.block_lt_of_cell? W _ hc0,q0,by rw[Nat.add_assoc];exact q1,by rw[Nat.add_assoc];exact q2⟩
set_option maxRecDepth 100000 in
theorem open_bools16 {H:Type} {enc:TypeId×Value→H} {W:World} {base:Nat} {held:Bool} {fuel:Nat} {c:Value} {x:DataW H×List MemPlace} (t3:DataW.trod enc Tryz.prog W base (fun _=>true) held fuel 23 [c]=some x):
 ∃(a:Option Addr) (L cap:Nat) (An:Nat→Bool),c= .slice a L cap∧L≤9223372036854775807∧Bin W a L An:=by
 rcases open_slice Tryz.underlying23 t3 with ⟨h0,_⟩ | ⟨a,len,cap,m,n,D,Pl,h0,hb,hl,hm,hmm,hx,he⟩
 ·simp at h0
  subst h0
  exact ⟨none,0,0,fun _=>false,rfl,by omega,⟨fun i hi=>absurd hi (Nat.not_lt_zero _)⟩⟩
 ·simp only[if_true] at hmm
  subst hmm
  simp at h0
  subst h0
  have each:∀i,i<m→∃q:Bool,W.cell? (a.add i)=some (.bool q):=by
   intro i hi
   obtain ⟨cs',h1,h2⟩:=he i hi
   rw[cells4] at h1
   obtain ⟨_,hlen,hcell⟩:=World.cells?_some h1
   obtain ⟨c0,rfl⟩:∃c0,cs'=[c0]:=by
    match cs',hlen with
    | [c0],_=>exact ⟨c0,rfl⟩
   obtain ⟨q,e0,_⟩:=DataW.trod_bool Tryz.underlying4 h2
   simp at e0
   subst e0
   have c0:=hcell 0 (by omega)
   rw[Addr.add_add,Nat.mul_one] at c0
   exact ⟨q,c0⟩
  obtain ⟨F,hF⟩:∃F:Nat→Bool,∀i,i<m→W.cell? (a.add i)=some (.bool (F i)):=
   ⟨fun i=>if h:i<m then (each i h).choose else false,fun i hi=>by
    simp only[dif_pos hi]
    exact (each i hi).choose_spec⟩
  refine ⟨some a,len,m,F,rfl,by unfold maxLen at hm;omega,⟨fun i hi=>?_⟩⟩
  have hc0:=hF 0 (by omega)
  have ha:a.add 0=a:=rfl
  rw[ha] at hc0
  obtain ⟨b,off,spot⟩:=a
  have hs:spot=none:=spot_none hc0
  subst hs
  have q0:=hF i (by omega)
  rw[add_none] at q0
  exact ⟨b,off,rfl,World.block_lt_of_cell? W _ hc0,q0⟩
set_option maxRecDepth 100000 in
theorem open_case16 {H:Type} {enc:TypeId×Value→H} {W:World} {base b0:Nat} {held:Bool} {r:Reach} {v:Value} {d:DataW H} {ps:List MemPlace}
 (hval:Value.okWide Tryz.prog W r b0 25 v) (hd:DataW.Trod enc Tryz.prog W base (fun _=>true) held 25 v d ps):
 ∃(av aa:Option Addr) (L cv La ca:Nat) (nv:Int) (F:Nat→V) (An:Nat→Bool),v= .agg #[.slice av L cv,.int .i64 nv,.slice aa La ca]∧L≤9223372036854775807∧La≤9223372036854775807∧Vin W av L F∧Bin W aa La An:=by
 obtain ⟨cs,rfl,h2⟩:=okWide_struct Tryz.underlying25 hval
 rw[cells25] at h2
 obtain ⟨ll⟩:=cs
 obtain ⟨c0,c1,c2,rfl⟩:∃c0 c1 c2,ll=[c0,c1,c2]:=by
  match ll,h2 with
  | [c0,c1,c2],_=>exact ⟨c0,c1,c2,rfl⟩
 obtain ⟨fuel,hf⟩:=hd
 obtain ⟨y0,y1,y2,m,hx,_,t0,t1,t3⟩:=trod_struct3 Tryz.underlying25 hf
 obtain ⟨x,e1,f1,g1⟩:=DataW.trod_int Tryz.underlying3 t1
 simp[Value.cells,cells3] at e1
 subst e1
 rw[cells22] at t0
 rw[cells23] at t3
 obtain ⟨av,L,cv,F,e2,hL,hV⟩:=open_vals16 (c:=c0) (by simpa [Value.cells] using t0)
 obtain ⟨aa,La,ca,An,e3,hLa,hB⟩:=open_bools16 (c:=c2) (by simpa [Value.cells] using t3)
 subst e2 e3
 exact ⟨av,aa,L,cv,La,ca,x,F,An,rfl,hL,hLa,hV,hB⟩
end Go.Proofs.YtkmopcanaalemabGreat
