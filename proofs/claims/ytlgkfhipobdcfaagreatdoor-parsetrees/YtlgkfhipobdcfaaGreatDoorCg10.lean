import Derived.Test.YtlgkfhipobdcfaaGreatDoorCg09
import Derived.Test.YtlgkfhipobdcfaaGreatDoorCg07
namespace Go.Proofs.YtlgkfhipobdcfaaGreatDoor
open Go.RowKit
def HC : Prop:=∀ (b m : Nat) (T l : List Tok) (W : World),PS b m T l W → Calls Tryz.prog 22 #[.pointer (some ⟨b,0,none⟩)] W (PN b m T W (chk l))
theorem GT.ends {l : List UInt8} : ∀ (r : List Tok) (a : Nat),GT l a r → Ends r
  | [],_,h=>h.elim
  | [t],_,h=>⟨[],t,rfl,h.1⟩
  | t :: u :: r,a,h=>by
    obtain ⟨p,e,h1,h2⟩:=GT.ends (u :: r) _ h.2
    exact ⟨t :: p,e,by rw [h1];rfl,h2⟩
theorem OT.nxt {l : List UInt8} {a : Nat} {t : Tok} (h : OT l a t) : t.p < nxt t:=by
  unfold Go.Proofs.YtlgkfhipobdcfaaGreatDoor.nxt
  split
  · omega
  · rename_i hk
    have:=List.length_pos_iff.2 (h.tx hk).1
    omega
theorem GT.len {l : List UInt8} : ∀ (r : List Tok) (a : Nat),GT l a r → r.length + a ≤ l.length + 1
  | [],_,h=>h.elim
  | [t],a,h=>by have:=h.2.2.2;simp;omega
  | t :: u :: r,a,h=>by
    have h1:=GT.len (u :: r) _ h.2
    have h2:=h.1.nxt
    have h3:=h.1.lo
    simp only [List.length_cons] at h1 ⊢
    omega
def noF : F:=one 0 [] 0 0 .nil
def outT : PR → F × Int × Int
  | .ok f _=>(f,0,0)
  | .bad p=>(noF,4,p)
  | .out=>(noF,0,0)
def prT (l : List UInt8) : F × Int × Int :=
  if (scT l).2.1 ≠ 0 then (noF,(scT l).2.1,(scT l).2.2) else outT (chk (scT l).1)
theorem PS.make {w : World} {v : Value} {ts : List Tok} {b base : Nat} (own : w.ownsRow base 79 4 v ts.length (cellsT ts)) (hp : Bx b 53 #[v,.int .i64 0] w) (hlt : ∀ g,v.ownBlock = some g → g < b) (ends : Ends ts) (small : ts.length ≤ 20001) : PS b (b + 1) ts ts w:=by
  have hb:=hp.lt
  rcases own.2 with ⟨rfl,h0⟩ | ⟨g,cap,cur,rfl,h2,h3,r1,r2,r3,r4⟩
  · exact absurd (List.eq_nil_of_length_eq_zero h0) ends.ne
  · have hg:=hlt g rfl
    refine ⟨⟨g,cap,hp.c 0 _ rfl,by omega,by omega,fun j u hu=>?_⟩,⟨0,hp.c 1 _ rfl,rfl,by simp⟩,hp.f 1,⟨by omega,by omega⟩,ends,small⟩
    rw [cell_of_row w g j cur 79 (0,0) h3]
    rw [← r4] at hu
    rw [List.getElem?_take] at hu
    split at hu
    · simpa using hu
    · cases hu
theorem pa_yes (v : Value) (w : World) : (Instr.typeAssert (.iface 50 v) 20 50 true).run Tryz.prog w = .ok (.tuple #[v,.bool true]) w:=by
  have hu:=Tryz.underlying50
  unfold Instr.typeAssert
  simp_all [run_underlying hu,go_sem,Result.andThen]
theorem pa_nil (w : World) : (Instr.typeAssert .nilIface 20 50 true).run Tryz.prog w = .ok (.tuple #[.agg #[.int .i64 0,.int .i64 0],.bool false]) w:=by
  have hu:=Tryz.underlying50
  have hz : ∀ w,(zeroValue 50).run Tryz.prog w = .ok (.agg #[.int .i64 0,.int .i64 0]) w:=fun w=>by kernel_rfl
  unfold Instr.typeAssert
  simp_all [run_underlying hu,go_sem,Result.andThen]
set_option maxHeartbeats 2000000 in
theorem pcatch_idle (a : Nat) (w : World) :
    CallsD Tryz.prog 21 #[.pointer (some ⟨a,0,none⟩),.pointer (some ⟨a + 1,0,none⟩)] .returning w fun e u' w'=>e = .returned (.tuple #[]) ∧ u' = .returning ∧ Below w.heap.size w w':=by
  have hta:=pa_nil
  refine callsD_of_wpS Tryz.func21 rfl fun c₀ cs hu=>?_
  apply wpS_seq
  apply wpS_region
  simp [wpOpsS,go_sem,recoverD,hu,Tryz.ntmps21,Exit.thenS,hta]
  refine wpS_of_wp ?_
  change Code.wp Tryz.prog _ _ ⟨#[.pointer (some ⟨a,0,none⟩),.pointer (some ⟨a + 1,0,none⟩),.pointer (some ⟨w.heap.size,0,none⟩),.bool false,.tuple #[.agg #[.int .i64 0,.int .i64 0],.bool false],.nilIface,.tuple #[.agg #[.int .i64 0,.int .i64 0],.bool false],.agg #[.int .i64 0,.int .i64 0],.bool false,undef,undef,undef],[]⟩ _
  go_wp2
  refine ⟨rfl,.returning,by cases c₀;simp_all,.tuple #[],by simp [results,Tryz.results21,go_sem],rfl,rfl,(Below.refl _ _).alloc (Nat.le_refl _) _⟩
theorem arr12 (p0 p1 v2 v3 v4 v5 v6 v7 v8 : Value) : #[p0,p1] ++ (((((((Array.replicate 10 undef).setIfInBounds 3 v5).setIfInBounds 4 v6).setIfInBounds 2 v4).setIfInBounds 5 v7).setIfInBounds 6 v8).setIfInBounds 0 v2).setIfInBounds 1 v3 = #[p0,p1,v2,v3,v4,v5,v6,v7,v8,undef,undef,undef]:=by kernel_rfl
set_option maxHeartbeats 4000000 in
theorem pcatch_panicking (a : Nat) (c x : Int) (older : List PanicEntry) (w : World) {u0 u1 u2 u3 u4 f0 f1 : Value} (h0 : Bx a 24 #[u0,u1,u2,u3,u4] w) (h1 : Bx (a + 1) 27 #[f0,f1] w) :
    CallsD Tryz.prog 21 #[.pointer (some ⟨a,0,none⟩),.pointer (some ⟨a + 1,0,none⟩)] (.panicking ({ v:=.iface 50 (.agg #[.int .i64 c,.int .i64 x]),recovered:=false } :: older)) w fun e u' w' =>
      e = .returned (.tuple #[]) ∧ u' = .panicking ({ v:=.iface 50 (.agg #[.int .i64 c,.int .i64 x]),recovered:=true } :: older) ∧ Bx a 24 #[.int .i64 0,.string ⟨#[]⟩,.int .i64 0,.int .i64 0,.slice none 0 0] w' ∧ Bx (a + 1) 27 #[.int .i64 c,.int .i64 x] w' ∧ Below a w w':=by
  have hta:=pa_yes
  have hlt:=h1.lt
  obtain ⟨g0,g1,g2,g3,g4⟩:=h0.fiveA
  obtain ⟨k0,k1,k2,k3,k4⟩:=h0.frozen5A
  have e0:=fun o=>(h1.alloc o).c 0 _ rfl
  have e1:=fun o=>(h1.alloc o).c 1 _ rfl
  have l0:=fun o=>(h1.alloc o).f 0
  have l1:=fun o=>(h1.alloc o).f 1
  refine callsD_of_wpS Tryz.func21 rfl fun c₀ cs hu=>?_
  apply wpS_seq
  apply wpS_region
  simp [wpOpsS,go_sem,recoverD,hu,Tryz.ntmps21,Exit.thenS,hta]
  refine wpS_of_wp ?_
  rw [arr12]
  go_wp2
  go_region
  all_goals
    refine ⟨rfl,.panicking ({ v:=.iface 50 (.agg #[.int .i64 c,.int .i64 x]),recovered:=true } :: older),by cases c₀;simp_all,.tuple #[],by simp [results,Tryz.results21,go_sem],rfl,rfl,?_⟩
    exact ⟨(((((h0.alloc _).five_put _ _ _ _ _).set (by omega) _).set (by omega) _).drew),((((h1.alloc _).five_set (by omega) _ _ _ _ _).put (j:=0) _).put (j:=1) _).drew,(((((((((Below.refl a w).alloc (by omega) _).setCell (Nat.le_refl _) _).setCell (Nat.le_refl _) _).setCell (Nat.le_refl _) _).setCell (Nat.le_refl _) _).setCell (Nat.le_refl _) _).setCell (Nat.le_succ _) _).setCell (Nat.le_succ _) _).drew⟩
set_option maxHeartbeats 4000000 in
theorem fin9 {Post : Ending → World → Prop} {W : World} {a : Nat} {k n p : Int} {t : ByteArray} {sa : Option Addr} {sl sc : Nat} {c x : Int} {x0 x1 x4 x5 x6 x7 x8 x9 x10 x11 x12 x13 x14 x15 x16 x17 x18 x19 x20 : Value} (h0 : Bx a 24 #[.int .i64 k,.string t,.int .i64 n,.int .i64 p,.slice sa sl sc] W) (h1 : Bx (a + 1) 27 #[.int .i64 c,.int .i64 x] W)
    (h : Post (.returned (.tuple #[.agg #[.int .i64 k,.string t,.int .i64 n,.int .i64 p,.slice sa sl sc],.agg #[.int .i64 c,.int .i64 x]])) W) :
    bodyPostD Tryz.prog Tryz.f9 Post Exit.ret ⟨#[x0,x1,.pointer (some ⟨a,0,none⟩),.pointer (some ⟨a + 1,0,none⟩),x4,x5,x6,x7,x8,x9,x10,x11,x12,x13,x14,x15,x16,x17,x18,x19,x20],[]⟩ W:=by
  obtain ⟨z0,z1,z2,z3,z4⟩:=h0.five
  have y0:=h1.c 0 _ rfl
  have y1:=h1.c 1 _ rfl
  simp [bodyPostD,Leaves,results,Tryz.results9,go_sem,z0,z1,z2,z3,z4,y0,y1]
  exact h
set_option maxHeartbeats 4000000 in
theorem Parse_fault (s : ByteArray) (w : World) (hs : s.size ≤ 9223372036854775807) (ts : List Tok) (c x : Int) (hsc : scT s.data.toList = (ts,c,x)) (hc : ¬ c = 0) :
    Calls Tryz.prog 9 #[.string s] w fun e W'=>e = .returned (.tuple #[(.agg #[.int .i64 (0),.string ⟨#[]⟩,.int .i64 (0),.int .i64 (0),.slice none 0 0]),.agg #[.int .i64 c,.int .i64 x]]) ∧ Below w.heap.size w W':=by
  have hmf : ∀ (fn : Fn) (first cap : Array Value) (w : World),(Instr.makeFunc fn first cap).run Tryz.prog w = .ok (.func fn first cap) w:=fun _ _ _ _=>rfl
  have CS:=Scan_any s ((w.alloc (.cells #[.int .i64 0,.string ⟨#[]⟩,.int .i64 0,.int .i64 0,.slice none 0 0] 24)).alloc (.cells #[.int .i64 0,.int .i64 0] 27)) hs
  rw [hsc] at CS
  have hnq : ∀ W,(binOp .neq 27 (.agg #[.int .i64 c,.int .i64 x]) (.agg #[.int .i64 0,.int .i64 0])).run Tryz.prog W = .ok (.bool true) W:=fun W=>by rw [neq27];simp [hc]
  have B0:=(Bx.new w 24 #[.int .i64 0,.string ⟨#[]⟩,.int .i64 0,.int .i64 0,.slice none 0 0]).alloc (.cells #[.int .i64 0,.int .i64 0] 27)
  have B1:=Bx.new (w.alloc (.cells #[.int .i64 0,.string ⟨#[]⟩,.int .i64 0,.int .i64 0,.slice none 0 0] 24)) 27 #[.int .i64 0,.int .i64 0]
  have e1 : (w.alloc (.cells #[.int .i64 0,.string ⟨#[]⟩,.int .i64 0,.int .i64 0,.slice none 0 0] 24)).heap.size = w.heap.size + 1:=by simp
  rw [e1] at B1
  have K0 : Below w.heap.size w ((w.alloc (.cells #[.int .i64 0,.string ⟨#[]⟩,.int .i64 0,.int .i64 0,.slice none 0 0] 24)).alloc (.cells #[.int .i64 0,.int .i64 0] 27)):=((Below.refl _ w).alloc (Nat.le_refl _) _).alloc (by simp) _
  clear e1
  go_enter_defers Tryz.func9,Tryz.ntmps9
  go_wp2_with (go_at_call 20;refine CS.mono ?_;rintro e w1 ⟨v,rfl,hown,hB⟩;have C0:=B0.below hB;have C1:=B1.below hB;have KB:=K0.trans (hB.mono K0.size);obtain ⟨av,cv,rfl⟩:=slice_shape hown;obtain ⟨q0,q1,q2,q3,q4⟩:=C0.five;obtain ⟨f0,f1,f2,f3,f4⟩:=C0.frozen5;have r0:=C1.c 0 _ rfl;have r1:=C1.c 1 _ rfl;have g0:=C1.f 0;have g1:=C1.f 1;clear hown hB)
  go_region
  all_goals
    go_wp2
    have D0:=((((C0.set (b:=w.heap.size + 1) (o:=0) (by omega) (.int .i64 c)).set (b:=w.heap.size + 1) (o:=1) (by omega) (.int .i64 x)).five_put (.int .i64 0) (.string ⟨#[]⟩) (.int .i64 0) (.int .i64 0) (.slice none 0 0)).set (b:=w.heap.size + 1) (o:=0) (by omega) (.int .i64 c)).set (b:=w.heap.size + 1) (o:=1) (by omega) (.int .i64 x)
    have D1:=((((C1.put (j:=0) (.int .i64 c)).put (j:=1) (.int .i64 x)).five_set (Y:=w.heap.size) (by omega) (.int .i64 0) (.string ⟨#[]⟩) (.int .i64 0) (.int .i64 0) (.slice none 0 0)).put (j:=0) (.int .i64 c)).put (j:=1) (.int .i64 x)
    have K9:=((((((((((KB.setCell (p:=⟨w.heap.size + 1,0,none⟩) (Nat.le_succ _) (.int .i64 c)).setCell (p:=⟨w.heap.size + 1,1,none⟩) (Nat.le_succ _) (.int .i64 x)).setCell (p:=⟨w.heap.size,0,none⟩) (Nat.le_refl _) (.int .i64 0)).setCell (p:=⟨w.heap.size,1,none⟩) (Nat.le_refl _) (.string ⟨#[]⟩)).setCell (p:=⟨w.heap.size,2,none⟩) (Nat.le_refl _) (.int .i64 0)).setCell (p:=⟨w.heap.size,3,none⟩) (Nat.le_refl _) (.int .i64 0)).setCell (p:=⟨w.heap.size,4,none⟩) (Nat.le_refl _) (.slice none 0 0)).setCell (p:=⟨w.heap.size + 1,0,none⟩) (Nat.le_succ _) (.int .i64 c)).setCell (p:=⟨w.heap.size + 1,1,none⟩) (Nat.le_succ _) (.int .i64 x))).drew
    have D2:=D0.drew
    have D3:=D1.drew
    generalize World.drew _ = W3 at D2 D3 K9 ⊢
    exact fin9 D2 D3 ⟨rfl,K9⟩
set_option maxRecDepth 20000 in
set_option maxHeartbeats 8000000 in
theorem Parse_go (HC0 : HC) (s : ByteArray) (w : World) (hs : s.size ≤ 9223372036854775807) (ts : List Tok) (hsc : scT s.data.toList = (ts,0,0)) (ends : Ends ts) (small : ts.length ≤ 20001) (R : PR) (hR : chk ts = R) (hno : R ≠ .out) :
    Calls Tryz.prog 9 #[.string s] w fun e W'=>∃ k t n p a c ks cd x,e = .returned (.tuple #[(.agg #[.int .i64 (k),.string ⟨(t).toArray⟩,.int .i64 (n),.int .i64 (p),.slice a ks.len c]),.agg #[.int .i64 cd,.int .i64 x]]) ∧ (one k t n p ks,cd,x) = outT R ∧ TN 24 W' (fun g=>w.heap.size ≤ g) k t n p (.slice a ks.len c) ks ∧ Below w.heap.size w W':=by
  have hmf : ∀ (fn : Fn) (first cap : Array Value) (w : World),(Instr.makeFunc fn first cap).run Tryz.prog w = .ok (.func fn first cap) w:=fun _ _ _ _=>rfl
  have CS:=Scan_any s ((w.alloc (.cells #[.int .i64 0,.string ⟨#[]⟩,.int .i64 0,.int .i64 0,.slice none 0 0] 24)).alloc (.cells #[.int .i64 0,.int .i64 0] 27)) hs
  rw [hsc] at CS
  have hnq : ∀ W,(binOp .neq 27 (.agg #[.int .i64 0,.int .i64 0]) (.agg #[.int .i64 0,.int .i64 0])).run Tryz.prog W = .ok (.bool false) W:=fun W=>by rw [neq27];simp
  have B0:=(Bx.new w 24 #[.int .i64 0,.string ⟨#[]⟩,.int .i64 0,.int .i64 0,.slice none 0 0]).alloc (.cells #[.int .i64 0,.int .i64 0] 27)
  have B1:=Bx.new (w.alloc (.cells #[.int .i64 0,.string ⟨#[]⟩,.int .i64 0,.int .i64 0,.slice none 0 0] 24)) 27 #[.int .i64 0,.int .i64 0]
  have e1 : (w.alloc (.cells #[.int .i64 0,.string ⟨#[]⟩,.int .i64 0,.int .i64 0,.slice none 0 0] 24)).heap.size = w.heap.size + 1:=by simp
  have e2 : ((w.alloc (.cells #[.int .i64 0,.string ⟨#[]⟩,.int .i64 0,.int .i64 0,.slice none 0 0] 24)).alloc (.cells #[.int .i64 0,.int .i64 0] 27)).heap.size = w.heap.size + 2:=by simp
  rw [e1] at B1
  have K0 : Below w.heap.size w ((w.alloc (.cells #[.int .i64 0,.string ⟨#[]⟩,.int .i64 0,.int .i64 0,.slice none 0 0] 24)).alloc (.cells #[.int .i64 0,.int .i64 0] 27)):=((Below.refl _ w).alloc (Nat.le_refl _) _).alloc (by simp) _
  rw [e2] at CS
  have HE2 : Hid (((w.alloc (.cells #[.int .i64 0,.string ⟨#[]⟩,.int .i64 0,.int .i64 0,.slice none 0 0] 24)).alloc (.cells #[.int .i64 0,.int .i64 0] 27)).heap.size = w.heap.size + 2):=e2
  clear e1 e2
  go_enter_defers Tryz.func9,Tryz.ntmps9
  go_wp2_with (go_at_call 20;refine CS.mono ?_;rintro e w1 ⟨v,rfl,hown,hB⟩;rw [← HE2.out] at hB;have C0:=B0.below hB;have C1:=B1.below hB;have KB:=K0.trans (hB.mono K0.size);have hz1 : w.heap.size + 2 ≤ w1.heap.size:=(by have:=hB.size;have:=HE2.out;omega);obtain ⟨av,cv,rfl⟩:=slice_shape hown;obtain ⟨q0,q1,q2,q3,q4⟩:=C0.five;obtain ⟨f0,f1,f2,f3,f4⟩:=C0.frozen5;have r0:=C1.c 0 _ rfl;have r1:=C1.c 1 _ rfl;have g0:=C1.f 0;have g1:=C1.f 1)
  have C2:=(C0.set (b:=w.heap.size + 1) (o:=0) (by omega) (.int .i64 0)).set (b:=w.heap.size + 1) (o:=1) (by omega) (.int .i64 0)
  have C3:=(C1.put (j:=0) (.int .i64 0)).put (j:=1) (.int .i64 0)
  have hw2 : ((w1.setCell ⟨w.heap.size + 1,0,none⟩ (.int .i64 0)).setCell ⟨w.heap.size + 1,1,none⟩ (.int .i64 0)).ownsRow (w.heap.size + 2) 79 4 (.slice av ts.length cv) ts.length (cellsT ts):=ownsRow_setCell_below (ownsRow_setCell_below hown (by show w.heap.size + 1 < _;omega) _) (by show w.heap.size + 1 < _;omega) _
  have hKK : Below w.heap.size w ((w1.setCell ⟨w.heap.size + 1,0,none⟩ (.int .i64 0)).setCell ⟨w.heap.size + 1,1,none⟩ (.int .i64 0)):=(KB.setCell (Nat.le_succ _) _).setCell (Nat.le_succ _) _
  have hzs : ((w1.setCell ⟨w.heap.size + 1,0,none⟩ (.int .i64 0)).setCell ⟨w.heap.size + 1,1,none⟩ (.int .i64 0)).heap.size = w1.heap.size:=by simp
  obtain ⟨W2,hW2⟩ : ∃ W2,(w1.setCell ⟨w.heap.size + 1,0,none⟩ (.int .i64 0)).setCell ⟨w.heap.size + 1,1,none⟩ (.int .i64 0) = W2:=⟨_,rfl⟩
  rw [hW2] at C2 C3 hw2 hKK hzs ⊢
  have B5:=Bx.new W2 53 #[.slice av ts.length cv,.int .i64 0]
  rw [hzs] at B5
  have P5:=PS.make (own_below hw2 ((Below.refl _ W2).alloc (Nat.le_refl _) (.cells #[.slice av ts.length cv,.int .i64 0] 53))) B5 (fun g e=>by have:=(hw2.lt g e).2;omega) ends small
  have CC5:=HC0 _ _ ts ts _ P5
  rw [hR] at CC5
  have C4:=C2.alloc (.cells #[.slice av ts.length cv,.int .i64 0] 53)
  have C5:=C3.alloc (.cells #[.slice av ts.length cv,.int .i64 0] 53)
  have hK5:=hKK.alloc (by have:=hKK.size;omega) (.cells #[.slice av ts.length cv,.int .i64 0] 53)
  obtain ⟨W5,hW5⟩ : ∃ W5,W2.alloc (.cells #[.slice av ts.length cv,.int .i64 0] 53) = W5:=⟨_,rfl⟩
  rw [hW5] at CC5 C4 C5 hK5 ⊢
  clear C0 C1 C2 C3 KB hown hB hw2 hKK B5 P5 q0 q1 q2 q3 q4 f0 f1 f2 f3 f4 r0 r1 g0 g1 CS B0 B1 K0 HE2 hW2 hW5 hzs
  refine CC5.mono ?_
  cases R with
  | out=>exact absurd rfl hno
  | bad p =>
    rintro e w6 ⟨he,hk6⟩
    unfold refp at he
    subst he
    have D0:=C4.ky hk6 (by omega)
    have D1:=C5.ky hk6 (by omega)
    have hK6 : Below w.heap.size w w6:=hK5.trans ⟨hk6.os,hk6.tape,hk6.output,hk6.size,fun g hg=>hk6.block g (by have:=hK5.size;omega) (by omega)⟩
    go_wp2
    refine leaves_cons (f:=21) (args:=#[.pointer (some ⟨w.heap.size,0,none⟩),.pointer (some ⟨w.heap.size + 1,0,none⟩)]) (by simp) (by simp [go_sem]) ?_
    refine (pcatch_panicking w.heap.size 4 p [] w6 D0 D1).mono ?_
    rintro e u' w7 ⟨rfl,rfl,E0,E1,hB7⟩
    obtain ⟨z0,z1,z2,z3,z4⟩:=E0.five
    have y0:=E1.c 0 _ rfl
    have y1:=E1.c 1 _ rfl
    simp [Leaves,settle,results,Tryz.results9,go_sem,z0,z1,z2,z3,z4,y0,y1,outT]
    exact ⟨0,[],0,0,none,0,.nil,4,p,⟨⟨rfl,rfl,rfl,rfl,rfl,rfl,rfl⟩,rfl,rfl⟩,⟨rfl,rfl,rfl⟩,TN.leaf _ _ _ _ _ _ _,hK6.trans hB7⟩
  | ok f l =>
    rintro e w6 ⟨k,tt,n,p,a1,c1,ks,rfl,rfl,hTN,hTk⟩
    have D0:=C4.ky hTk.ky (by omega)
    have D1:=C5.ky hTk.ky (by omega)
    have hz5 : W5.heap.size ≤ w6.heap.size:=hTk.ky.size
    have hz4:=C5.lt
    have hK6 : Below w.heap.size w w6:=hK5.trans ⟨hTk.ky.os,hTk.ky.tape,hTk.ky.output,hTk.ky.size,fun g hg=>hTk.ky.block g (by have:=hK5.size;omega) (by omega)⟩
    obtain ⟨q0,q1,q2,q3,q4⟩:=D0.five
    obtain ⟨f0,f1,f2,f3,f4⟩:=D0.frozen5
    have r0:=D1.c 0 _ rfl
    have r1:=D1.c 1 _ rfl
    have g0:=D1.f 0
    have g1:=D1.f 1
    go_wp2
    have E0:=((D0.five_put (.int .i64 k) (.string ⟨tt.toArray⟩) (.int .i64 n) (.int .i64 p) (.slice a1 ks.len c1)).set (b:=w.heap.size + 1) (o:=0) (by omega) (.int .i64 0)).set (b:=w.heap.size + 1) (o:=1) (by omega) (.int .i64 0)
    have E1:=((D1.five_set (Y:=w.heap.size) (by omega) (.int .i64 k) (.string ⟨tt.toArray⟩) (.int .i64 n) (.int .i64 p) (.slice a1 ks.len c1)).put (j:=0) (.int .i64 0)).put (j:=1) (.int .i64 0)
    have K9:=((((((hK6.setCell (p:=⟨w.heap.size,0,none⟩) (Nat.le_refl _) (.int .i64 k)).setCell (p:=⟨w.heap.size,1,none⟩) (Nat.le_refl _) (.string ⟨tt.toArray⟩)).setCell (p:=⟨w.heap.size,2,none⟩) (Nat.le_refl _) (.int .i64 n)).setCell (p:=⟨w.heap.size,3,none⟩) (Nat.le_refl _) (.int .i64 p)).setCell (p:=⟨w.heap.size,4,none⟩) (Nat.le_refl _) (.slice a1 ks.len c1)).setCell (p:=⟨w.heap.size + 1,0,none⟩) (Nat.le_succ _) (.int .i64 0)).setCell (p:=⟨w.heap.size + 1,1,none⟩) (Nat.le_succ _) (.int .i64 0)
    have hT6:=((hTN.five (X:=w.heap.size) (by omega) (.int .i64 k) (.string ⟨tt.toArray⟩) (.int .i64 n) (.int .i64 p) (.slice a1 ks.len c1)).set (X:=w.heap.size + 1) (o:=0) (by omega) (.int .i64 0)).set (X:=w.heap.size + 1) (o:=1) (by omega) (.int .i64 0)
    obtain ⟨W7,hW7⟩ : ∃ W7,((((((w6.setCell ⟨w.heap.size,0,none⟩ (.int .i64 k)).setCell ⟨w.heap.size,1,none⟩ (.string ⟨tt.toArray⟩)).setCell ⟨w.heap.size,2,none⟩ (.int .i64 n)).setCell ⟨w.heap.size,3,none⟩ (.int .i64 p)).setCell ⟨w.heap.size,4,none⟩ (.slice a1 ks.len c1)).setCell ⟨w.heap.size + 1,0,none⟩ (.int .i64 0)).setCell ⟨w.heap.size + 1,1,none⟩ (.int .i64 0) = W7:=⟨_,rfl⟩
    rw [hW7] at E0 E1 K9 hT6 ⊢
    clear hW7 q0 q1 q2 q3 q4 f0 f1 f2 f3 f4 r0 r1 g0 g1 D0 D1
    refine leaves_cons (f:=21) (args:=#[.pointer (some ⟨w.heap.size,0,none⟩),.pointer (some ⟨w.heap.size + 1,0,none⟩)]) (by simp) (by simp [go_sem]) ?_
    refine (pcatch_idle w.heap.size W7).mono ?_
    rintro e u' w8 ⟨rfl,rfl,hB8⟩
    obtain ⟨z0,z1,z2,z3,z4⟩:=(E0.below hB8).five
    have y0:=(E1.below hB8).c 0 _ rfl
    have y1:=(E1.below hB8).c 1 _ rfl
    refine ⟨.tuple #[(.agg #[.int .i64 (k),.string ⟨(tt).toArray⟩,.int .i64 (n),.int .i64 (p),.slice a1 ks.len c1]),.agg #[.int .i64 0,.int .i64 0]],by simp [results,Tryz.results9,go_sem,z0,z1,z2,z3,z4,y0,y1],?_⟩
    exact ⟨k,tt,n,p,a1,c1,ks,0,0,rfl,rfl,(hT6.below hB8).mono (fun g hg _=>by omega),K9.trans (hB8.mono K9.size)⟩
theorem Parse_any (HC0 : HC) (s : ByteArray) (w : World) (hs : s.size ≤ 9223372036854775807) :
    Calls Tryz.prog 9 #[.string s] w fun e W'=>∃ k t n p a c ks,e = .returned (.tuple #[(.agg #[.int .i64 (k),.string ⟨(t).toArray⟩,.int .i64 (n),.int .i64 (p),.slice a ks.len c]),.agg #[.int .i64 (prT s.data.toList).2.1,.int .i64 (prT s.data.toList).2.2]]) ∧ (prT s.data.toList).1 = one k t n p ks ∧ TN 24 W' (fun g=>w.heap.size ≤ g) k t n p (.slice a ks.len c) ks ∧ Below w.heap.size w W':=by
  obtain ⟨⟨ts,cd,x⟩,hsc⟩ : ∃ r,scT s.data.toList = r:=⟨_,rfl⟩
  by_cases hc : cd = 0
  · subst hc
    obtain ⟨h1,h2,h3⟩:=scT_ok s.data.toList (by rw [hsc])
    rw [hsc] at h1 h3
    simp only at h1 h3
    subst h3
    have hl:=GT.len _ _ h1
    rw [scT_len] at h2 hl
    have hno:=chk_some ts
    refine (Parse_go HC0 s w hs ts hsc (GT.ends _ _ h1) (by omega) _ rfl hno).mono fun e W' ⟨k,t,n,p,a,c,ks,cd,x,he,hq,hT,hB⟩=>?_
    have : prT s.data.toList = (one k t n p ks,cd,x):=by
      unfold prT
      rw [hsc,hq]
      simp
    rw [this]
    exact ⟨k,t,n,p,a,c,ks,he,rfl,hT,hB⟩
  · refine (Parse_fault s w hs ts cd x hsc hc).mono fun e W' ⟨he,hB⟩=>?_
    have : prT s.data.toList = (noF,cd,x):=by
      unfold prT
      rw [hsc]
      simp only [ne_eq]
      rw [if_pos hc]
    rw [this]
    exact ⟨0,[],0,0,none,0,.nil,he,rfl,TN.leaf _ _ _ _ _ _ _,hB⟩
end Go.Proofs.YtlgkfhipobdcfaaGreatDoor





namespace Go.Proofs.YtlgkfhipobdcfaaGreatDoor
open Go.RowKit
def F.siz : F → Nat
  | .nil=>0
  | .cons _ _ _ _ ks r=>ks.siz + r.siz + 1
def F.hgt : F → Nat
  | .nil=>0
  | .cons _ _ _ _ ks r=>max (ks.hgt + 1) r.hgt
theorem F.len_siz : ∀ f : F,f.len ≤ f.siz
  | .nil=>Nat.le_refl _
  | .cons _ _ _ _ ks r=>by have:=r.len_siz;simp only [F.len,F.siz];omega
theorem F.hgt_siz : ∀ f : F,f.hgt ≤ f.siz
  | .nil=>Nat.le_refl _
  | .cons _ _ _ _ ks r=>by have:=r.hgt_siz;have:=ks.hgt_siz;simp only [F.hgt,F.siz];omega
structure Rw (w : World) (P : Nat → Prop) (a : Option Addr) (i : Nat) (r : F) : Prop where
  ex : ∃ xs,KF 24 w P xs r ∧ (xs ≠ [] → ∃ g,a = some ⟨g,0,none⟩ ∧ g < w.heap.size ∧ ∀ j u,xs[j]? = some u → w.cell? ⟨g,i * 5 + j,none⟩ = some u)
theorem TN.rw0 {w : World} {P : Nat → Prop} {k : Int} {t : List UInt8} {n p : Int} {a : Option Addr} {c : Nat} {ks : F} (h : TN 24 w P k t n p (.slice a ks.len c) ks) : Rw w P a 0 ks:=by
  obtain ⟨_,xs,own,hk⟩:=h.out
  refine ⟨xs,hk,fun hne=>?_⟩
  rcases own.2 with ⟨e1,e2⟩ | ⟨g,cap,cur,e1,_,h3,_,_,_,r4⟩
  · have:=own.1;rw [e2] at this;exact absurd (List.eq_nil_of_length_eq_zero (by omega)) hne
  · injection e1 with e1 e2 e3
    refine ⟨g,e1,(Array.getElem?_eq_some_iff.1 h3).1,fun j u hu=>?_⟩
    rw [cell_of_row w g _ cur 24 (0,0) h3,Nat.zero_mul,Nat.zero_add]
    rw [← r4,List.getElem?_take] at hu
    split at hu
    · simpa using hu
    · cases hu
theorem Rw.next {w : World} {P : Nat → Prop} {a : Option Addr} {i : Nat} {k : Int} {t : List UInt8} {n p : Int} {ks r : F} (h : Rw w P a i (.cons k t n p ks r)) : ∃ g a' c',a = some ⟨g,0,none⟩ ∧ g < w.heap.size ∧ w.cell? ⟨g,i * 5,none⟩ = some (.int .i64 k) ∧ w.cell? ⟨g,i * 5 + 1,none⟩ = some (.string ⟨t.toArray⟩) ∧ w.cell? ⟨g,i * 5 + 2,none⟩ = some (.int .i64 n) ∧ w.cell? ⟨g,i * 5 + 3,none⟩ = some (.int .i64 p) ∧ w.cell? ⟨g,i * 5 + 4,none⟩ = some (.slice a' ks.len c') ∧
    TN 24 w P k t n p (.slice a' ks.len c') ks ∧ Rw w P a (i + 1) r:=by
  obtain ⟨xs,hk,hx⟩:=h.ex
  cases hk with
  | @cons _ _ _ _ v xs' rest _ _ own hP hk hr =>
    obtain ⟨g,e,hg,hc⟩:=hx (by simp)
    have hs : ∃ a' c',v = .slice a' ks.len c':=by
      rcases own.2 with ⟨rfl,e2⟩ | ⟨g',cap,cur,rfl,_⟩
      · exact ⟨none,0,by rw [e2]⟩
      · exact ⟨_,_,rfl⟩
    obtain ⟨a',c',rfl⟩:=hs
    refine ⟨g,a',c',e,hg,hc 0 _ rfl,hc 1 _ rfl,hc 2 _ rfl,hc 3 _ rfl,hc 4 _ rfl,⟨.cons own hP hk .nil⟩,⟨rest,hr,fun _=>⟨g,e,hg,fun j u hu=>?_⟩⟩⟩
    have:=hc (j + 5) u (by simpa using hu)
    rw [show (i + 1) * 5 + j = i * 5 + (j + 5) by omega]
    exact this
theorem Rw.below {w w' : World} {P : Nat → Prop} {a : Option Addr} {i : Nat} {r : F} (h : Rw w P a i r) (hb : Below w.heap.size w w') : Rw w' P a i r:=by
  obtain ⟨xs,hk,hx⟩:=h.ex
  refine ⟨xs,hk.keep fun g _ hl=>hb.block g hl,fun hne=>?_⟩
  obtain ⟨g,e,hg,hc⟩:=hx hne
  exact ⟨g,e,Nat.lt_of_lt_of_le hg hb.size,fun j u hu=>(World.cell?_of_block (hb.block g hg)).trans (hc j u hu)⟩
set_option maxRecDepth 20000 in
set_option maxHeartbeats 4000000 in
theorem height_any : ∀ (N : Nat) (ks : F),ks.siz ≤ N → N ≤ 1000000 → ∀ (w : World) (P : Nat → Prop) (k : Int) (t : List UInt8) (n p : Int) (a : Option Addr) (c : Nat),Rw w P a 0 ks →
    Calls Tryz.prog 15 #[(.agg #[.int .i64 (k),.string ⟨(t).toArray⟩,.int .i64 (n),.int .i64 (p),.slice a ks.len c])] w fun e w'=>e = .returned (.int .i64 ((ks.hgt + 1 : Nat) : Int)) ∧ Below w.heap.size w w':=by
  intro N
  induction N using Nat.strongRecOn with
  | _ N IH =>
    intro ks hs hN w P k t n p a c hR
    have hl:=ks.len_siz
    have hh:=ks.hgt_siz
    have B0:=Bx.new w 24 #[.int .i64 k,.string ⟨t.toArray⟩,.int .i64 n,.int .i64 p,.slice a ks.len c]
    obtain ⟨p0,p1,p2,p3,p4⟩:=B0.five
    have K0 : Below w.heap.size w (w.alloc (.cells #[.int .i64 (k),.string ⟨(t).toArray⟩,.int .i64 (n),.int .i64 (p),.slice a ks.len c] 24)):=(Below.refl _ w).alloc (Nat.le_refl _) _
    go_enter Tryz.func15,Tryz.ntmps15
    go_wp2_with fail
    go_loopw [3,5,9] (fun hv _ iv wx=>∃ (i h : Nat) (r : F),iv = .int .i64 (i : Nat) ∧ hv = .int .i64 (h : Nat) ∧ i + r.len = ks.len ∧ Hid (max h r.hgt = ks.hgt ∧ r.siz ≤ ks.siz ∧ Rw wx P a i r ∧ Below w.heap.size w wx)) (fun _ _ iv _=>ks.len - (intOf iv).toNat)
    case atStart=>exact ⟨0,0,ks,rfl,rfl,by omega,by omega,Nat.le_refl _,hR.below K0,K0⟩
    case round =>
      obtain ⟨i,h,r,rfl,rfl,hi,HR⟩:=hrel
      cases r with
      | nil =>
        have h1 : ¬ (i : Int) < (ks.len : Int):=by simp only [F.len] at hi;omega
        have hm : h = ks.hgt:=by have:=HR.out.1;simp only [F.hgt] at this;omega
        have wh : IntKind.i64.wrap ((h : Int) + 1) = (h : Int) + 1:=by rw [IntKind.wrap_i64];omega
        go_wp2
        go_ret
        exact ⟨rfl,HR.out.2.2.2⟩
      | cons k' t' n' p' ks' r' =>
        simp only [F.len] at hi
        obtain ⟨hm,hz,hr,hb⟩:=HR.out
        simp only [F.siz] at hz
        obtain ⟨g,a',c',rfl,hg,c0,c1,c2,c3,c4,hT,hr'⟩:=hr.next
        have h1 : (i : Int) < (ks.len : Int):=by omega
        have wi : IntKind.i64.wrap ((i : Int) + 1) = (i : Int) + 1:=by rw [IntKind.wrap_i64];omega
        have K1 : Below wr.heap.size wr (wr.alloc (.cells #[.int .i64 (k'),.string ⟨(t').toArray⟩,.int .i64 (n'),.int .i64 (p'),.slice a' ks'.len c'] 24)):=(Below.refl _ wr).alloc (Nat.le_refl _) _
        have C:=IH ks'.siz (by omega) ks' (Nat.le_refl _) (by omega) (wr.alloc (.cells #[.int .i64 (k'),.string ⟨(t').toArray⟩,.int .i64 (n'),.int .i64 (p'),.slice a' ks'.len c'] 24)) P k' t' n' p' a' c' (hT.rw0.below K1)
        have HN : Hid (max h (max (ks'.hgt + 1) r'.hgt) = ks.hgt ∧ r'.siz ≤ ks.siz ∧ Rw wr P (some ⟨g,0,none⟩) (i + 1) r' ∧ Below w.heap.size w wr ∧ Below wr.heap.size wr (wr.alloc (.cells #[.int .i64 (k'),.string ⟨(t').toArray⟩,.int .i64 (n'),.int .i64 (p'),.slice a' ks'.len c'] 24))):=⟨hm,by omega,hr',hb,K1⟩
        have hms : ks.len - (i + 1) < ks.len - i:=by omega
        clear hm hz hr hb hT hr' K1 HR
        go_wp2_with fail
        refine C.mono ?_;rintro e w1 ⟨rfl,hb1⟩
        have HB1 : Hid (Below wr.heap.size wr w1):=HN.out.2.2.2.2.trans (hb1.mono HN.out.2.2.2.2.size)
        clear C hb1
        go_wp2
        go_round
        case rel =>
          refine ⟨i + 1,max h (ks'.hgt + 1),r',by first | rfl | simp,?_,by omega,by have:=HN.out.1;omega,HN.out.2.1,HN.out.2.2.1.below HB1.out,HN.out.2.2.2.1.trans (HB1.out.mono HN.out.2.2.2.1.size)⟩
          first | rfl | (simp;omega) | (congr 1;omega)
        case measure=>first | omega | (simp only [intOf];omega) | (simp;omega)
end Go.Proofs.YtlgkfhipobdcfaaGreatDoor


namespace Go.Proofs.YtlgkfhipobdcfaaGreatDoor
open Go.RowKit
structure Od (b m : Nat) (T l : List Tok) (W : World) (X : Nat) (t : Tok) (w : World) : Prop where
  tk : Tk b m T l W w
  res : Bx W.heap.size 24 #[.int .i64 0,.string ⟨#[]⟩,.int .i64 0,.int .i64 0,.slice none 0 0] w
  box : Bx X 79 #[.int .i64 t.k,.string ⟨t.t.toArray⟩,.int .i64 t.v,.int .i64 t.p] w
  lt : b < W.heap.size ∧ m ≤ W.heap.size ∧ W.heap.size < X
section
variable {b m : Nat} {T l l' : List Tok} {W : World} {X : Nat} {t : Tok} {w w' : World}
theorem Od.below (h : Od b m T l W X t w) (hb : Below w.heap.size w w') : Od b m T l W X t w':=⟨h.tk.below hb,h.res.below hb,h.box.below hb,h.lt⟩
theorem Od.alloc (h : Od b m T l W X t w) (o : Obj) : Od b m T l W X t (w.alloc o):=⟨h.tk.alloc o,h.res.alloc o,h.box.alloc o,h.lt⟩
theorem Od.drew (h : Od b m T l W X t w) : Od b m T l W X t w.drew:=⟨h.tk.drew,h.res.drew,h.box.drew,h.lt⟩
theorem Od.took (h : Od b m T l W X t w) (hT : Tk b m T l' w w') : Od b m T l' W X t w':=by
  have hlt:=h.lt
  exact ⟨h.tk.trans hT,h.res.ky hT.ky (by omega),h.box.ky hT.ky (by omega),h.lt⟩
theorem PS.od {b m : Nat} {T l : List Tok} {W w1 : World} {t : Tok} {cur : Array Value} (h : PS b m T (t :: l) W) (e : cur = #[.int .i64 0,.string ⟨#[]⟩,.int .i64 0,.int .i64 0,.slice none 0 0]) (hb : Below (W.alloc (.cells cur 24)).heap.size (W.alloc (.cells cur 24)) w1) : Od b m T (t :: l) W w1.heap.size t (w1.alloc (.cells #[.int .i64 t.k,.string ⟨t.t.toArray⟩,.int .i64 t.v,.int .i64 t.p] 79)):=by
  subst e
  have hlt:=h.lt
  have hs:=hb.size
  simp at hs
  exact ⟨((h.tk.alloc _).below hb).alloc _,((Bx.new W 24 _).below hb).alloc _,Bx.new _ _ _,by omega⟩
end
end Go.Proofs.YtlgkfhipobdcfaaGreatDoor
