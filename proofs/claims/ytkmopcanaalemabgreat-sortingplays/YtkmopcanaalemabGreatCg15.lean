import Derived.Test.YtkmopcanaalemabGreatCg13
import Derived.Test.YtkmopcanaalemabGreatCg14
import Derived.BigRegion
import Derived.Deep.DeepCutAuto
import Derived.Test.YtkmopcanaalemabGreatCg10
namespace Go.Proofs.YtkmopcanaalemabGreat
open Go.RowKit
theorem part_any {No : Nat → Prop} {w : World} {B : Nat} {wv : Value} {T A b a S hb c : Nat} {d : SD} (h : So No w B wv T A b a S hb c d) (hc : c ≤ 500000) (b1 : -2305843009213693952 ≤ d.1.lo) (b2 : d.1.lo ≤ 2305843009213693952) (b3 : -2305843009213693952 ≤ d.1.up) (b4 : d.1.up ≤ 2305843009213693952) (b7 : -2305843009213693952 ≤ d.1.i) (b8 : d.1.i ≤ 2305843009213693952) (hwl : d.1.wt.length ≤ 900000) (hr : ∀ r ∈ d.1.wt,r.1 < r.2 → -4611686018427387904 ≤ r.1 ∧ r.2 ≤ 4611686018427387904) :
    Calls Tryz.prog 105 #[.pointer (some ⟨B,0,none⟩)] w (GP No w B T S hb (c + 18) (partR d)):=by
  by_cases hcd : d.1.up - d.1.i ≤ d.1.i - d.1.lo
  · exact part_le h hc b1 b2 b3 b4 b7 b8 hwl hr hcd
  · exact part_gt h hc b1 b2 b3 b4 b7 b8 hwl hr hcd
end Go.Proofs.YtkmopcanaalemabGreat


namespace Go.Proofs.YtkmopcanaalemabGreat
open Go.RowKit
theorem rise_gp {No:Nat→Prop} {w:World} {B:Nat} {wv:Value} {T A b a S hb c:Nat} {d:SD} (h:So No w B wv T A b a S hb c d) (hc:c≤900000) (h1:-4611686018427387904≤d.1.i) (h2:d.1.i≤4611686018427387904):Calls Tryz.prog 104 #[.pointer (some ⟨B,0,none⟩)] w (GP No w B T S hb (c+1) (riseR d)):=
 (rise_any h hc h1 h2).mono fun _ _ hh=>⟨hh.1,⟨_,_,_,_,hh.2.1⟩,hh.2.2⟩
theorem fall_gp {No:Nat→Prop} {w:World} {B:Nat} {wv:Value} {T A b a S hb c:Nat} {d:SD} (h:So No w B wv T A b a S hb c d) (hc:c≤900000) (h1:-4611686018427387904≤d.1.j) (h2:d.1.j≤4611686018427387904):Calls Tryz.prog 103 #[.pointer (some ⟨B,0,none⟩)] w (GP No w B T S hb (c+1) (fallR d)):=
 (fall_any h hc h1 h2).mono fun _ _ hh=>⟨hh.1,⟨_,_,_,_,hh.2.1⟩,hh.2.2⟩
theorem split_two {d:SD} (h:d.1.up - d.1.lo=2):splitR d=leaveR d:=by unfold splitR;rw[if_pos h]
theorem split_three {d:SD} (h:¬d.1.up - d.1.lo=2) {v1 v2:V} (h1:rdV d d.1.p=v1) (h2:rdV (rdD d d.1.p) (d.1.up - 1)=v2) {d3:SD} (e3:({d.1 with pv:=v1,y:=v2},(rdD (rdD d d.1.p) (d.1.up - 1)).2)=d3):
 splitR d=if putE d3 d.1.p v2 (d.1.up - 1) v1≠0 then (endD (d3.1,(putD d3 d.1.p v2 (d.1.up - 1) v1).2) (putE d3 d.1.p v2 (d.1.up - 1) v1),endT (putE d3 d.1.p v2 (d.1.up - 1) v1)) else riseR ({d3.1 with i:=d3.1.lo,j:=d3.1.up - 1},(putD d3 d.1.p v2 (d.1.up - 1) v1).2):=by
 have e0:splitR d=if putE d3 d.1.p v2 (d.1.up - 1) v1≠0 then (endD (putD d3 d.1.p v2 (d.1.up - 1) v1) (putE d3 d.1.p v2 (d.1.up - 1) v1),endT (putE d3 d.1.p v2 (d.1.up - 1) v1)) else riseR ({(putD d3 d.1.p v2 (d.1.up - 1) v1).1 with i:=(putD d3 d.1.p v2 (d.1.up - 1) v1).1.lo,j:=(putD d3 d.1.p v2 (d.1.up - 1) v1).1.up - 1},(putD d3 d.1.p v2 (d.1.up - 1) v1).2):=by
  subst e3 h1 h2
  unfold splitR
  rw[if_neg h]
  rfl
 rw[e0]
 have e1:(putD d3 d.1.p v2 (d.1.up - 1) v1).1=d3.1:=by rw[putD_eta]
 rw[e1]
 rfl
set_option maxRecDepth 20000 in
set_option maxHeartbeats 4000000 in
theorem split_any {No:Nat→Prop} {w:World} {B:Nat} {wv:Value} {T A b a S hb c:Nat} {d:SD} (h:So No w B wv T A b a S hb c d) (hc:c≤500000) (b1:-2305843009213693952≤d.1.lo) (b2:d.1.lo≤2305843009213693952) (b3:-2305843009213693952≤d.1.up) (b4:d.1.up≤2305843009213693952) (b5:-2305843009213693952≤d.1.p) (b6:d.1.p≤2305843009213693952) (hr:∀r∈d.1.wt,r.1<r.2→-4611686018427387904≤r.1∧r.2≤4611686018427387904):
 Calls Tryz.prog 102 #[.pointer (some ⟨B,0,none⟩)] w (GP No w B T S hb (c+17) (splitR d)):=by
 obtain ⟨N2,s0,HF0⟩:=h.tell2
 have HF:Hid _:=HF0
 obtain ⟨W0,hW0⟩:∃W0,w.alloc z8=W0:=⟨_,rfl⟩
 rw[hW0] at HF s0
 unfold z8 at hW0
 clear HF0
 have a1:W0.cell? ⟨B,1,none⟩=some (.int .i64 d.1.lo):=s0.so.cell (j:=1) rfl
 have a2:W0.cell? ⟨B,2,none⟩=some (.int .i64 d.1.up):=s0.so.cell (j:=2) rfl
 have a5:W0.cell? ⟨B,5,none⟩=some (.int .i64 d.1.p):=s0.so.cell (j:=5) rfl
 have a6:W0.cell? ⟨B,6,none⟩=some (.int .i64 d.1.i):=s0.so.cell (j:=6) rfl
 have a7:W0.cell? ⟨B,7,none⟩=some (.int .i64 d.1.j):=s0.so.cell (j:=7) rfl
 have wu:IntKind.i64.wrap (d.1.up - 1)=d.1.up - 1:=by rw[IntKind.wrap_i64];omega
 have wl:IntKind.i64.wrap (d.1.up - d.1.lo)=d.1.up - d.1.lo:=by rw[IntKind.wrap_i64];omega
 obtain ⟨R,hR⟩:∃R,splitR d=R:=⟨_,rfl⟩
 rw[hR]
 unfold GP
 by_cases h2:d.1.up - d.1.lo=2
 ·have C:=fun m=>(s0.drewN m).of0 (f:=99) (xs:=#[.pointer (some ⟨B,0,none⟩)]) (bself _) (fun q=>leave_any q (by omega) hr)
  have eR:leaveR d=R:=(split_two h2).symm.trans hR
  rw[eR] at C
  have h2':(d.1.up - d.1.lo==2)=true:=by simpa using h2
  clear h s0 hR eR hr h2
  go_enter Tryz.func102,Tryz.ntmps102
  go_wp2_with fail
  go_quiet (fail)
  go_wp2_with fail
  refine (C _).mono ?_
  rintro e w4 ⟨rfl,wv4,A4,b4,a4,s4⟩
  obtain ⟨r4,r5,s5,k5⟩:=HF.out w4 wv4 A4 b4 a4 _ _ R.2 s4
  have HZ:Hid (_∧_∧_):=⟨r5,s5,k5⟩
  obtain ⟨tl,htl⟩:∃tl,R.2=tl:=⟨_,rfl⟩
  rw[htl] at HZ⊢
  obtain ⟨W5,hW5⟩:∃W5,set8 w4 w.heap.size tl=W5:=⟨_,rfl⟩
  rw[hW5] at HZ
  unfold set8 at hW5
  unfold tolV
  obtain ⟨n0,n1,n2,n3,n4,n5,n6,n7⟩:=r4.eight
  simp only[nil] at n0 n1 n2 n3 n4 n5 n6 n7
  have nf:=fun j=>r4.free j
  clear r4 r5 s5 k5 s4 HF C
  go_wp2
  obtain ⟨q1,q2,q3⟩:=HZ.out
  obtain ⟨r0,r1,r2,r3,r4,r5,r6,r7⟩:=q1.eight
  exact bodyPost_ret (v:=tolV tl) (by simp[results,Tryz.results102,go_sem,r0,r1,r2,r3,r4,r5,r6,r7,tolV]) rfl ⟨by first | rfl | rw[htl],⟨_,_,_,_,q2.more (by omega)⟩,q3⟩
 ·have h2':(d.1.up - d.1.lo==2)=false:=by simpa using h2
  have HR0:Hid (∀v1 v2,rdV d d.1.p=v1∧rdV (rdD d d.1.p) (d.1.up - 1)=v2→(if putE ({d.1 with pv:=v1,y:=v2},(rdD (rdD d d.1.p) (d.1.up - 1)).2) d.1.p v2 (d.1.up - 1) v1≠0 then (endD (({d.1 with pv:=v1,y:=v2}:SS),(putD ({d.1 with pv:=v1,y:=v2},(rdD (rdD d d.1.p) (d.1.up - 1)).2) d.1.p v2 (d.1.up - 1) v1).2) (putE ({d.1 with pv:=v1,y:=v2},(rdD (rdD d d.1.p) (d.1.up - 1)).2) d.1.p v2 (d.1.up - 1) v1),endT (putE ({d.1 with pv:=v1,y:=v2},(rdD (rdD d d.1.p) (d.1.up - 1)).2) d.1.p v2 (d.1.up - 1) v1)) else riseR ({d.1 with pv:=v1,y:=v2,i:=d.1.lo,j:=d.1.up - 1},(putD ({d.1 with pv:=v1,y:=v2},(rdD (rdD d d.1.p) (d.1.up - 1)).2) d.1.p v2 (d.1.up - 1) v1).2))=R):=fun v1 v2 hv=>(split_three h2 hv.1 hv.2 rfl).symm.trans hR
  go_enter Tryz.func102,Tryz.ntmps102
  go_wp2_with fail
  go_quiet (fail)
  go_wp2_with fail
  have C1:=fun m=>s0.rd (by omega) (d.1.p) (by omega) (by omega) m
  obtain ⟨v1,hv1⟩:∃v,rdV (d) (d.1.p)=v:=⟨_,rfl⟩
  obtain ⟨v2,hv2⟩:∃v,rdV (rdD (d) (d.1.p)) (d.1.up - 1)=v:=⟨_,rfl⟩
  rw[hv1] at C1
  have HV:Hid (rdV (d) (d.1.p)=v1∧rdV (rdD (d) (d.1.p)) (d.1.up - 1)=v2):=⟨hv1,hv2⟩
  have HC2:Hid (∀w2,Sk N2 W0 w2 B wv T A b a S hb (c+1) (rdD (d) (d.1.p))→Calls Tryz.prog 100 #[.pointer (some ⟨B,0,none⟩),.int .i64 (d.1.up - 1)] w2 fun e w'=>e= .returned (.agg #[.int .i64 v2.1,.int .i64 v2.2.1,.string v2.2.2])∧Sk N2 W0 w' B wv T A b a S hb (c+1+1) (rdD (rdD (d) (d.1.p)) (d.1.up - 1))):=fun w2 k2=>(by
   have:=k2.rd0 (by omega) (d.1.up - 1) (by omega) (by omega)
   rw[hv2] at this
   exact this)
  clear hv1 hv2 h hR h2 s0
  go_cut [] (fun wx=>Sk N2 W0 wx B wv T A b a S hb (c+2) ({(d).1 with pv:=v1,y:=v2},(rdD (rdD (d) (d.1.p)) (d.1.up - 1)).2))
  case first=>
   go_region_with (first
    | (go_at_call 100;(fail_if_success (have kz:=k2));refine (C1 _).mono ?_;rintro e w2 ⟨rfl,k2⟩;have d1:w2.cell? ⟨B,1,none⟩=some (.int .i64 (d).1.lo):=k2.so.cell (j:=1) rfl;have d2:w2.cell? ⟨B,2,none⟩=some (.int .i64 (d).1.up):=k2.so.cell (j:=2) rfl;have d5:w2.cell? ⟨B,5,none⟩=some (.int .i64 (d).1.p):=k2.so.cell (j:=5) rfl;have d6:w2.cell? ⟨B,6,none⟩=some (.int .i64 (d).1.i):=k2.so.cell (j:=6) rfl;have d7:w2.cell? ⟨B,7,none⟩=some (.int .i64 (d).1.j):=k2.so.cell (j:=7) rfl)
    | (go_at_call 100;refine (HC2.out w2 k2).mono ?_;rintro e w3 ⟨rfl,k3⟩;have d14:w3.cell? ⟨B,14,none⟩=some (.int .i64 (d).1.pv.1):=k3.so.cell (j:=14) rfl;have d15:w3.cell? ⟨B,15,none⟩=some (.int .i64 (d).1.pv.2.1):=k3.so.cell (j:=15) rfl;have d16:w3.cell? ⟨B,16,none⟩=some (.string (d).1.pv.2.2):=k3.so.cell (j:=16) rfl;have d11:w3.cell? ⟨B,11,none⟩=some (.int .i64 (d).1.y.1):=k3.so.cell (j:=11) rfl;have d12:w3.cell? ⟨B,12,none⟩=some (.int .i64 (d).1.y.2.1):=k3.so.cell (j:=12) rfl;have d13:w3.cell? ⟨B,13,none⟩=some (.string (d).1.y.2.2):=k3.so.cell (j:=13) rfl;have dfz:=k3.so.free))
   all_goals
    go_wp2_with fail
    go_meet
    exact ((k3.more (by omega)).st3 14 v1 {(d).1 with pv:=v1} rfl rfl).st3 11 v2 {(d).1 with pv:=v1,y:=v2} rfl rfl
  case rest=>
   clear C1 HC2 hr
   have hR:=HR0.out v1 v2 HV.out
   clear HR0 HV
   have C5:=hcut.pu0 (bdrew1 wc) (by omega) d.1.p (d.1.up - 1) v2 v1 (by omega) (by omega) (by omega) (by omega)
   obtain ⟨E,hE⟩:∃E,putE ({d.1 with pv:=v1,y:=v2},(rdD (rdD d d.1.p) (d.1.up - 1)).2) d.1.p v2 (d.1.up - 1) v1=E:=⟨_,rfl⟩
   obtain ⟨P2,hP2⟩:∃P2,(putD ({d.1 with pv:=v1,y:=v2},(rdD (rdD d d.1.p) (d.1.up - 1)).2) d.1.p v2 (d.1.up - 1) v1).2=P2:=⟨_,rfl⟩
   rw[hE,hP2] at C5 hR
   clear hE hP2
   have e1:wc.cell? ⟨B,1,none⟩=some (.int .i64 d.1.lo):=hcut.so.cell (j:=1) rfl
   have e2:wc.cell? ⟨B,2,none⟩=some (.int .i64 d.1.up):=hcut.so.cell (j:=2) rfl
   have e5:wc.cell? ⟨B,5,none⟩=some (.int .i64 d.1.p):=hcut.so.cell (j:=5) rfl
   have e6:wc.cell? ⟨B,6,none⟩=some (.int .i64 d.1.i):=hcut.so.cell (j:=6) rfl
   have e7:wc.cell? ⟨B,7,none⟩=some (.int .i64 d.1.j):=hcut.so.cell (j:=7) rfl
   have e11:wc.cell? ⟨B,11,none⟩=some (.int .i64 v2.1):=hcut.so.cell (j:=11) rfl
   have e12:wc.cell? ⟨B,12,none⟩=some (.int .i64 v2.2.1):=hcut.so.cell (j:=12) rfl
   have e13:wc.cell? ⟨B,13,none⟩=some (.string v2.2.2):=hcut.so.cell (j:=13) rfl
   have e14:wc.cell? ⟨B,14,none⟩=some (.int .i64 v1.1):=hcut.so.cell (j:=14) rfl
   have e15:wc.cell? ⟨B,15,none⟩=some (.int .i64 v1.2.1):=hcut.so.cell (j:=15) rfl
   have e16:wc.cell? ⟨B,16,none⟩=some (.string v1.2.2):=hcut.so.cell (j:=16) rfl
   clear hcut a1 a2 a5 a6 a7
   by_cases hE0:E=0
   ·subst hE0
    rw[if_neg (by simp)] at hR
    have HR:Hid (_=R):=hR
    clear hR
    go_wp2_with fail
    refine wp_tail 19 (by kernel_rfl) (by kernel_rfl) ?_
    simp only[List.take_succ_cons,List.take_zero,List.drop_succ_cons,List.drop_zero]
    repeat still_step
    refine wpStill_nil ?_
    go_wp2_with fail
    refine C5.mono ?_
    rintro e w5 ⟨rfl,A5,b5,a5,k5⟩
    have g1:w5.cell? ⟨B,1,none⟩=some (.int .i64 d.1.lo):=k5.so.cell (j:=1) rfl
    have g2:w5.cell? ⟨B,2,none⟩=some (.int .i64 d.1.up):=k5.so.cell (j:=2) rfl
    have g5:w5.cell? ⟨B,5,none⟩=some (.int .i64 d.1.p):=k5.so.cell (j:=5) rfl
    have g6:w5.cell? ⟨B,6,none⟩=some (.int .i64 d.1.i):=k5.so.cell (j:=6) rfl
    have g7:w5.cell? ⟨B,7,none⟩=some (.int .i64 d.1.j):=k5.so.cell (j:=7) rfl
    have g0:=k5.so.free
    have s7:=(k5.st1 6 d.1.lo {d.1 with pv:=v1,y:=v2,i:=d.1.lo} rfl rfl).st1 7 (d.1.up - 1) {d.1 with pv:=v1,y:=v2,i:=d.1.lo,j:=d.1.up - 1} rfl rfl
    obtain ⟨W7,hW7⟩:∃W7,(w5.setCell ⟨B,6,none⟩ (.int .i64 d.1.lo)).setCell ⟨B,7,none⟩ (.int .i64 (d.1.up - 1))=W7:=⟨_,rfl⟩
    rw[hW7] at s7
    have C8:=s7.of0 (f:=104) (xs:=#[.pointer (some ⟨B,0,none⟩)]) (bdrew1 W7) (fun q=>rise_gp q (by omega) (by simp only;omega) (by simp only;omega))
    have HR':Hid (riseR ({d.1 with pv:=v1,y:=v2,i:=d.1.lo,j:=d.1.up - 1},P2)=R):=HR.out
    simp only at C8
    rw[HR'.out] at C8
    clear HR HR' s7 k5 C5 e1 e2 e5 e6 e7 e11 e12 e13 e14 e15 e16
    go_wp2_with fail
    go_region
    all_goals
     go_wp2_with fail
     refine (C8).mono ?_
     rintro e w4 ⟨rfl,wv4,A4,b4,a4,s4⟩
     obtain ⟨r4,r5,s5,k5⟩:=HF.out w4 wv4 A4 b4 a4 _ _ R.2 s4
     have HZ:Hid (_∧_∧_):=⟨r5,s5,k5⟩
     obtain ⟨tl,htl⟩:∃tl,R.2=tl:=⟨_,rfl⟩
     rw[htl] at HZ⊢
     obtain ⟨W5,hW5⟩:∃W5,set8 w4 w.heap.size tl=W5:=⟨_,rfl⟩
     rw[hW5] at HZ
     unfold set8 at hW5
     unfold tolV
     obtain ⟨n0,n1,n2,n3,n4,n5,n6,n7⟩:=r4.eight
     simp only[nil] at n0 n1 n2 n3 n4 n5 n6 n7
     have nf:=fun j=>r4.free j
     clear r4 r5 s5 k5 s4 HF C8
     go_wp2
     obtain ⟨q1,q2,q3⟩:=HZ.out
     obtain ⟨r0,r1,r2,r3,r4,r5,r6,r7⟩:=q1.eight
     exact bodyPost_ret (v:=tolV tl) (by simp[results,Tryz.results102,go_sem,r0,r1,r2,r3,r4,r5,r6,r7,tolV]) rfl ⟨by first | rfl | rw[htl],⟨_,_,_,_,q2.more (by omega)⟩,q3⟩
   ·have hE':(E !=0)=true:=by simpa using hE0
    rw[if_pos hE0] at hR
    have HR:Hid (_=R):=hR
    clear hR
    go_wp2_with fail
    refine wp_tail 19 (by kernel_rfl) (by kernel_rfl) ?_
    simp only[List.take_succ_cons,List.take_zero,List.drop_succ_cons,List.drop_zero]
    repeat still_step
    refine wpStill_nil ?_
    go_wp2_with fail
    refine C5.mono ?_
    rintro e w5 ⟨rfl,A5,b5,a5,k5⟩
    have C8:=k5.en0 (bself w5) E
    rw[HR.out] at C8
    clear HR k5 C5 e1 e2 e5 e6 e7 e11 e12 e13 e14 e15 e16 hE0
    go_wp2_with fail
    refine (C8).mono ?_
    rintro e w4 ⟨rfl,wv4,A4,b4,a4,s4⟩
    obtain ⟨r4,r5,s5,k5⟩:=HF.out w4 wv4 A4 b4 a4 _ _ R.2 s4
    have HZ:Hid (_∧_∧_):=⟨r5,s5,k5⟩
    obtain ⟨tl,htl⟩:∃tl,R.2=tl:=⟨_,rfl⟩
    rw[htl] at HZ⊢
    obtain ⟨W5,hW5⟩:∃W5,set8 w4 w.heap.size tl=W5:=⟨_,rfl⟩
    rw[hW5] at HZ
    unfold set8 at hW5
    unfold tolV
    obtain ⟨n0,n1,n2,n3,n4,n5,n6,n7⟩:=r4.eight
    simp only[nil] at n0 n1 n2 n3 n4 n5 n6 n7
    have nf:=fun j=>r4.free j
    clear r4 r5 s5 k5 s4 HF C8
    go_wp2
    obtain ⟨q1,q2,q3⟩:=HZ.out
    obtain ⟨r0,r1,r2,r3,r4,r5,r6,r7⟩:=q1.eight
    exact bodyPost_ret (v:=tolV tl) (by simp[results,Tryz.results102,go_sem,r0,r1,r2,r3,r4,r5,r6,r7,tolV]) rfl ⟨by first | rfl | rw[htl],⟨_,_,_,_,q2.more (by omega)⟩,q3⟩
end Go.Proofs.YtkmopcanaalemabGreat
