import Derived.Test.YtkmopcanaalemabGreatCg15
import Derived.BigRegion
import Derived.Deep.DeepCutAuto
import Derived.Test.YtkmopcanaalemabGreatCg04
namespace Go.Proofs.YtkmopcanaalemabGreat
open Go.RowKit
theorem low_yes (d:SD):lowR d true=if putE d d.1.p d.1.y d.1.lo d.1.x≠0 then (endD (d.1,(putD d d.1.p d.1.y d.1.lo d.1.x).2) (putE d d.1.p d.1.y d.1.lo d.1.x),endT (putE d d.1.p d.1.y d.1.lo d.1.x)) else splitR (d.1,(putD d d.1.p d.1.y d.1.lo d.1.x).2):=by
 have e0:lowR d true=if putE d d.1.p d.1.y d.1.lo d.1.x≠0 then (endD (putD d d.1.p d.1.y d.1.lo d.1.x) (putE d d.1.p d.1.y d.1.lo d.1.x),endT (putE d d.1.p d.1.y d.1.lo d.1.x)) else splitR (putD d d.1.p d.1.y d.1.lo d.1.x):=by unfold lowR;rw[if_pos rfl]
 rw[e0,←putD_eta]
theorem high_yes (d:SD):highR d true=if putE d d.1.p d.1.y d.1.up d.1.x≠0 then (endD (d.1,(putD d d.1.p d.1.y d.1.up d.1.x).2) (putE d d.1.p d.1.y d.1.up d.1.x),endT (putE d d.1.p d.1.y d.1.up d.1.x)) else splitR (d.1,(putD d d.1.p d.1.y d.1.up d.1.x).2):=by
 have e0:highR d true=if putE d d.1.p d.1.y d.1.up d.1.x≠0 then (endD (putD d d.1.p d.1.y d.1.up d.1.x) (putE d d.1.p d.1.y d.1.up d.1.x),endT (putE d d.1.p d.1.y d.1.up d.1.x)) else splitR (putD d d.1.p d.1.y d.1.up d.1.x):=by unfold highR;rw[if_pos rfl]
 rw[e0,←putD_eta]
set_option maxRecDepth 20000 in
set_option maxHeartbeats 4000000 in
theorem low_y {No:Nat→Prop} {w:World} {B:Nat} {wv:Value} {T A b a S hb c:Nat} {d:SD} (h:So No w B wv T A b a S hb c d) (hc:c≤400000) (b1:-2305843009213693952≤d.1.lo) (b2:d.1.lo≤2305843009213693952) (b3:-2305843009213693952≤d.1.up) (b4:d.1.up≤2305843009213693952) (b5:-2305843009213693952≤d.1.p) (b6:d.1.p≤2305843009213693952) (hr:∀r∈d.1.wt,r.1<r.2→-4611686018427387904≤r.1∧r.2≤4611686018427387904):
 Calls Tryz.prog 59 #[.pointer (some ⟨B,0,none⟩),.bool true] w (GP No w B T S hb (c+31) (lowR d true)):=by
 obtain ⟨N2,s0,HF0⟩:=h.tell2
 have HF:Hid _:=HF0
 obtain ⟨W0,hW0⟩:∃W0,w.alloc z8=W0:=⟨_,rfl⟩
 rw[hW0] at HF s0
 unfold z8 at hW0
 clear HF0
 have a1:W0.cell? ⟨B,1,none⟩=some (.int .i64 d.1.lo):=s0.so.cell (j:=1) rfl
 have a2:W0.cell? ⟨B,2,none⟩=some (.int .i64 d.1.up):=s0.so.cell (j:=2) rfl
 have a5:W0.cell? ⟨B,5,none⟩=some (.int .i64 d.1.p):=s0.so.cell (j:=5) rfl
 have a6:W0.cell? ⟨B,6,none⟩=some (.int .i64 d.1.i):=s0.so.cell (j:=6) rfl
 have a7:W0.cell? ⟨B,7,none⟩=some (.int .i64 d.1.j):=s0.so.cell (j:=7) rfl
 have a8:W0.cell? ⟨B,8,none⟩=some (.int .i64 d.1.x.1):=s0.so.cell (j:=8) rfl
 have a9:W0.cell? ⟨B,9,none⟩=some (.int .i64 d.1.x.2.1):=s0.so.cell (j:=9) rfl
 have a10:W0.cell? ⟨B,10,none⟩=some (.string d.1.x.2.2):=s0.so.cell (j:=10) rfl
 have a11:W0.cell? ⟨B,11,none⟩=some (.int .i64 d.1.y.1):=s0.so.cell (j:=11) rfl
 have a12:W0.cell? ⟨B,12,none⟩=some (.int .i64 d.1.y.2.1):=s0.so.cell (j:=12) rfl
 have a13:W0.cell? ⟨B,13,none⟩=some (.string d.1.y.2.2):=s0.so.cell (j:=13) rfl
 have a14:W0.cell? ⟨B,14,none⟩=some (.int .i64 d.1.pv.1):=s0.so.cell (j:=14) rfl
 have a15:W0.cell? ⟨B,15,none⟩=some (.int .i64 d.1.pv.2.1):=s0.so.cell (j:=15) rfl
 have a16:W0.cell? ⟨B,16,none⟩=some (.string d.1.pv.2.2):=s0.so.cell (j:=16) rfl
 obtain ⟨R,hR⟩:∃R,lowR d true=R:=⟨_,rfl⟩
 rw[hR]
 unfold GP
 rw[low_yes] at hR
 have C5:=s0.pu0 (bdrew1 W0) (by omega) (d.1.p) (d.1.lo) d.1.y d.1.x (by omega) (by omega) (by omega) (by omega)
 obtain ⟨E,hE⟩:∃E,putE (d) (d.1.p) (d.1.y) (d.1.lo) (d.1.x)=E:=⟨_,rfl⟩
 obtain ⟨P2,hP2⟩:∃P2,(putD (d) (d.1.p) (d.1.y) (d.1.lo) (d.1.x)).2=P2:=⟨_,rfl⟩
 rw[hE,hP2] at C5 hR
 clear hE hP2 h s0
 by_cases hE0:E=0
 ·subst hE0
  rw[if_neg (by simp)] at hR
  have HR:Hid (_=R):=hR
  clear hR
  go_enter Tryz.func59,Tryz.ntmps59
  go_wp2_with fail
  refine wp_tail 18 (by kernel_rfl) (by kernel_rfl) ?_
  simp only[List.take_succ_cons,List.take_zero,List.drop_succ_cons,List.drop_zero]
  repeat still_step
  refine wpStill_nil ?_
  go_wp2_with fail
  refine C5.mono ?_
  rintro e w5 ⟨rfl,A5,B5,a5,k5⟩
  have C8:=k5.of0 (f:=102) (xs:=#[.pointer (some ⟨B,0,none⟩)]) (bself w5) (fun q=>split_any q (by omega) b1 b2 b3 b4 b5 b6 hr)
  rw[HR.out] at C8
  clear HR k5 C5
  go_wp2_with fail
  refine (C8).mono ?_
  rintro e w4 ⟨rfl,wv4,A4,b4,a4,s4⟩
  obtain ⟨r4,r5,s5,k5⟩:=HF.out w4 wv4 A4 b4 a4 _ _ R.2 s4
  have HZ:Hid (_∧_∧_):=⟨r5,s5,k5⟩
  obtain ⟨tl,htl⟩:∃tl,R.2=tl:=⟨_,rfl⟩
  rw[htl] at HZ⊢
  obtain ⟨W5,hW5⟩:∃W5,set8 w4 w.heap.size tl=W5:=⟨_,rfl⟩
  rw[hW5] at HZ
  unfold set8 at hW5
  unfold tolV
  obtain ⟨n0,n1,n2,n3,n4,n5,n6,n7⟩:=r4.eight
  simp only[nil] at n0 n1 n2 n3 n4 n5 n6 n7
  have nf:=fun j=>r4.free j
  clear r4 r5 s5 k5 s4 HF C8
  go_wp2
  obtain ⟨q1,q2,q3⟩:=HZ.out
  obtain ⟨r0,r1,r2,r3,r4,r5,r6,r7⟩:=q1.eight
  exact bodyPost_ret (v:=tolV tl) (by simp[results,Tryz.results59,go_sem,r0,r1,r2,r3,r4,r5,r6,r7,tolV]) rfl ⟨by first | rfl | rw[htl],⟨_,_,_,_,q2.more (by omega)⟩,q3⟩
 ·have hE':(E !=0)=true:=by simpa using hE0
  rw[if_pos hE0] at hR
  have HR:Hid (_=R):=hR
  clear hR
  go_enter Tryz.func59,Tryz.ntmps59
  go_wp2_with fail
  refine wp_tail 18 (by kernel_rfl) (by kernel_rfl) ?_
  simp only[List.take_succ_cons,List.take_zero,List.drop_succ_cons,List.drop_zero]
  repeat still_step
  refine wpStill_nil ?_
  go_wp2_with fail
  refine C5.mono ?_
  rintro e w5 ⟨rfl,A5,B5,a5,k5⟩
  have C8:=k5.en0 (bself w5) E
  rw[HR.out] at C8
  clear HR k5 C5 hE0
  go_wp2_with fail
  refine (C8).mono ?_
  rintro e w4 ⟨rfl,wv4,A4,b4,a4,s4⟩
  obtain ⟨r4,r5,s5,k5⟩:=HF.out w4 wv4 A4 b4 a4 _ _ R.2 s4
  have HZ:Hid (_∧_∧_):=⟨r5,s5,k5⟩
  obtain ⟨tl,htl⟩:∃tl,R.2=tl:=⟨_,rfl⟩
  rw[htl] at HZ⊢
  obtain ⟨W5,hW5⟩:∃W5,set8 w4 w.heap.size tl=W5:=⟨_,rfl⟩
  rw[hW5] at HZ
  unfold set8 at hW5
  unfold tolV
  obtain ⟨n0,n1,n2,n3,n4,n5,n6,n7⟩:=r4.eight
  simp only[nil] at n0 n1 n2 n3 n4 n5 n6 n7
  have nf:=fun j=>r4.free j
  clear r4 r5 s5 k5 s4 HF C8
  go_wp2
  obtain ⟨q1,q2,q3⟩:=HZ.out
  obtain ⟨r0,r1,r2,r3,r4,r5,r6,r7⟩:=q1.eight
  exact bodyPost_ret (v:=tolV tl) (by simp[results,Tryz.results59,go_sem,r0,r1,r2,r3,r4,r5,r6,r7,tolV]) rfl ⟨by first | rfl | rw[htl],⟨_,_,_,_,q2.more (by omega)⟩,q3⟩
set_option maxRecDepth 20000 in
set_option maxHeartbeats 4000000 in
theorem high_y {No:Nat→Prop} {w:World} {B:Nat} {wv:Value} {T A b a S hb c:Nat} {d:SD} (h:So No w B wv T A b a S hb c d) (hc:c≤400000) (b1:-2305843009213693952≤d.1.lo) (b2:d.1.lo≤2305843009213693952) (b3:-2305843009213693952≤d.1.up) (b4:d.1.up≤2305843009213693952) (b5:-2305843009213693952≤d.1.p) (b6:d.1.p≤2305843009213693952) (hr:∀r∈d.1.wt,r.1<r.2→-4611686018427387904≤r.1∧r.2≤4611686018427387904):
 Calls Tryz.prog 60 #[.pointer (some ⟨B,0,none⟩),.bool true] w (GP No w B T S hb (c+31) (highR d true)):=by
 obtain ⟨N2,s0,HF0⟩:=h.tell2
 have HF:Hid _:=HF0
 obtain ⟨W0,hW0⟩:∃W0,w.alloc z8=W0:=⟨_,rfl⟩
 rw[hW0] at HF s0
 unfold z8 at hW0
 clear HF0
 have a1:W0.cell? ⟨B,1,none⟩=some (.int .i64 d.1.lo):=s0.so.cell (j:=1) rfl
 have a2:W0.cell? ⟨B,2,none⟩=some (.int .i64 d.1.up):=s0.so.cell (j:=2) rfl
 have a5:W0.cell? ⟨B,5,none⟩=some (.int .i64 d.1.p):=s0.so.cell (j:=5) rfl
 have a6:W0.cell? ⟨B,6,none⟩=some (.int .i64 d.1.i):=s0.so.cell (j:=6) rfl
 have a7:W0.cell? ⟨B,7,none⟩=some (.int .i64 d.1.j):=s0.so.cell (j:=7) rfl
 have a8:W0.cell? ⟨B,8,none⟩=some (.int .i64 d.1.x.1):=s0.so.cell (j:=8) rfl
 have a9:W0.cell? ⟨B,9,none⟩=some (.int .i64 d.1.x.2.1):=s0.so.cell (j:=9) rfl
 have a10:W0.cell? ⟨B,10,none⟩=some (.string d.1.x.2.2):=s0.so.cell (j:=10) rfl
 have a11:W0.cell? ⟨B,11,none⟩=some (.int .i64 d.1.y.1):=s0.so.cell (j:=11) rfl
 have a12:W0.cell? ⟨B,12,none⟩=some (.int .i64 d.1.y.2.1):=s0.so.cell (j:=12) rfl
 have a13:W0.cell? ⟨B,13,none⟩=some (.string d.1.y.2.2):=s0.so.cell (j:=13) rfl
 have a14:W0.cell? ⟨B,14,none⟩=some (.int .i64 d.1.pv.1):=s0.so.cell (j:=14) rfl
 have a15:W0.cell? ⟨B,15,none⟩=some (.int .i64 d.1.pv.2.1):=s0.so.cell (j:=15) rfl
 have a16:W0.cell? ⟨B,16,none⟩=some (.string d.1.pv.2.2):=s0.so.cell (j:=16) rfl
 obtain ⟨R,hR⟩:∃R,highR d true=R:=⟨_,rfl⟩
 rw[hR]
 unfold GP
 rw[high_yes] at hR
 have C5:=s0.pu0 (bdrew1 W0) (by omega) (d.1.p) (d.1.up) d.1.y d.1.x (by omega) (by omega) (by omega) (by omega)
 obtain ⟨E,hE⟩:∃E,putE (d) (d.1.p) (d.1.y) (d.1.up) (d.1.x)=E:=⟨_,rfl⟩
 obtain ⟨P2,hP2⟩:∃P2,(putD (d) (d.1.p) (d.1.y) (d.1.up) (d.1.x)).2=P2:=⟨_,rfl⟩
 rw[hE,hP2] at C5 hR
 clear hE hP2 h s0
 by_cases hE0:E=0
 ·subst hE0
  rw[if_neg (by simp)] at hR
  have HR:Hid (_=R):=hR
  clear hR
  go_enter Tryz.func60,Tryz.ntmps60
  go_wp2_with fail
  refine wp_tail 18 (by kernel_rfl) (by kernel_rfl) ?_
  simp only[List.take_succ_cons,List.take_zero,List.drop_succ_cons,List.drop_zero]
  repeat still_step
  refine wpStill_nil ?_
  go_wp2_with fail
  refine C5.mono ?_
  rintro e w5 ⟨rfl,A5,B5,a5,k5⟩
  have C8:=k5.of0 (f:=102) (xs:=#[.pointer (some ⟨B,0,none⟩)]) (bself w5) (fun q=>split_any q (by omega) b1 b2 b3 b4 b5 b6 hr)
  rw[HR.out] at C8
  clear HR k5 C5
  go_wp2_with fail
  refine (C8).mono ?_
  rintro e w4 ⟨rfl,wv4,A4,b4,a4,s4⟩
  obtain ⟨r4,r5,s5,k5⟩:=HF.out w4 wv4 A4 b4 a4 _ _ R.2 s4
  have HZ:Hid (_∧_∧_):=⟨r5,s5,k5⟩
  obtain ⟨tl,htl⟩:∃tl,R.2=tl:=⟨_,rfl⟩
  rw[htl] at HZ⊢
  obtain ⟨W5,hW5⟩:∃W5,set8 w4 w.heap.size tl=W5:=⟨_,rfl⟩
  rw[hW5] at HZ
  unfold set8 at hW5
  unfold tolV
  obtain ⟨n0,n1,n2,n3,n4,n5,n6,n7⟩:=r4.eight
  simp only[nil] at n0 n1 n2 n3 n4 n5 n6 n7
  have nf:=fun j=>r4.free j
  clear r4 r5 s5 k5 s4 HF C8
  go_wp2
  obtain ⟨q1,q2,q3⟩:=HZ.out
  obtain ⟨r0,r1,r2,r3,r4,r5,r6,r7⟩:=q1.eight
  exact bodyPost_ret (v:=tolV tl) (by simp[results,Tryz.results60,go_sem,r0,r1,r2,r3,r4,r5,r6,r7,tolV]) rfl ⟨by first | rfl | rw[htl],⟨_,_,_,_,q2.more (by omega)⟩,q3⟩
 ·have hE':(E !=0)=true:=by simpa using hE0
  rw[if_pos hE0] at hR
  have HR:Hid (_=R):=hR
  clear hR
  go_enter Tryz.func60,Tryz.ntmps60
  go_wp2_with fail
  refine wp_tail 18 (by kernel_rfl) (by kernel_rfl) ?_
  simp only[List.take_succ_cons,List.take_zero,List.drop_succ_cons,List.drop_zero]
  repeat still_step
  refine wpStill_nil ?_
  go_wp2_with fail
  refine C5.mono ?_
  rintro e w5 ⟨rfl,A5,B5,a5,k5⟩
  have C8:=k5.en0 (bself w5) E
  rw[HR.out] at C8
  clear HR k5 C5 hE0
  go_wp2_with fail
  refine (C8).mono ?_
  rintro e w4 ⟨rfl,wv4,A4,b4,a4,s4⟩
  obtain ⟨r4,r5,s5,k5⟩:=HF.out w4 wv4 A4 b4 a4 _ _ R.2 s4
  have HZ:Hid (_∧_∧_):=⟨r5,s5,k5⟩
  obtain ⟨tl,htl⟩:∃tl,R.2=tl:=⟨_,rfl⟩
  rw[htl] at HZ⊢
  obtain ⟨W5,hW5⟩:∃W5,set8 w4 w.heap.size tl=W5:=⟨_,rfl⟩
  rw[hW5] at HZ
  unfold set8 at hW5
  unfold tolV
  obtain ⟨n0,n1,n2,n3,n4,n5,n6,n7⟩:=r4.eight
  simp only[nil] at n0 n1 n2 n3 n4 n5 n6 n7
  have nf:=fun j=>r4.free j
  clear r4 r5 s5 k5 s4 HF C8
  go_wp2
  obtain ⟨q1,q2,q3⟩:=HZ.out
  obtain ⟨r0,r1,r2,r3,r4,r5,r6,r7⟩:=q1.eight
  exact bodyPost_ret (v:=tolV tl) (by simp[results,Tryz.results60,go_sem,r0,r1,r2,r3,r4,r5,r6,r7,tolV]) rfl ⟨by first | rfl | rw[htl],⟨_,_,_,_,q2.more (by omega)⟩,q3⟩
set_option maxRecDepth 20000 in
set_option maxHeartbeats 4000000 in
theorem low_n {No:Nat→Prop} {w:World} {B:Nat} {wv:Value} {T A b a S hb c:Nat} {d:SD} (h:So No w B wv T A b a S hb c d) (hc:c≤400000) (b3:-2305843009213693952≤d.1.up) (b4:d.1.up≤2305843009213693952):
 Calls Tryz.prog 59 #[.pointer (some ⟨B,0,none⟩),.bool false] w (GP No w B T S hb (c+31) (lowR d false)):=by
 obtain ⟨N2,s0,HF0⟩:=h.tell2
 have HF:Hid _:=HF0
 obtain ⟨W0,hW0⟩:∃W0,w.alloc z8=W0:=⟨_,rfl⟩
 rw[hW0] at HF s0
 unfold z8 at hW0
 clear HF0
 have a1:W0.cell? ⟨B,1,none⟩=some (.int .i64 d.1.lo):=s0.so.cell (j:=1) rfl
 have a2:W0.cell? ⟨B,2,none⟩=some (.int .i64 d.1.up):=s0.so.cell (j:=2) rfl
 have a5:W0.cell? ⟨B,5,none⟩=some (.int .i64 d.1.p):=s0.so.cell (j:=5) rfl
 have a6:W0.cell? ⟨B,6,none⟩=some (.int .i64 d.1.i):=s0.so.cell (j:=6) rfl
 have a7:W0.cell? ⟨B,7,none⟩=some (.int .i64 d.1.j):=s0.so.cell (j:=7) rfl
 obtain ⟨R,hR⟩:∃R,lowR d false=R:=⟨_,rfl⟩
 rw[hR]
 unfold GP
 have C1:=s0.rd0 (by omega) d.1.up (by omega) (by omega)
 obtain ⟨y,hy⟩:∃y,rdV d d.1.up=y:=⟨_,rfl⟩
 rw[hy] at C1
 have HR:Hid ((askD ({d.1 with y:=y},(rdD d d.1.up).2) 3,askT y d.1.x)=R):=by rw[←hR,←hy];rfl
 clear h s0 hR hy
 go_enter Tryz.func59,Tryz.ntmps59
 go_wp2_with fail
 refine C1.mono ?_
 rintro e w2 ⟨rfl,k2⟩
 have d11:w2.cell? ⟨B,11,none⟩=some (.int .i64 d.1.y.1):=k2.so.cell (j:=11) rfl
 have d12:w2.cell? ⟨B,12,none⟩=some (.int .i64 d.1.y.2.1):=k2.so.cell (j:=12) rfl
 have d13:w2.cell? ⟨B,13,none⟩=some (.string d.1.y.2.2):=k2.so.cell (j:=13) rfl
 have dfz:=k2.so.free
 have s3:=k2.st3 11 y {d.1 with y:=y} rfl rfl
 obtain ⟨W3,hW3⟩:∃W3,stX w2 B 11 y=W3:=⟨_,rfl⟩
 rw[hW3] at s3
 unfold stX at hW3
 have e8:W3.cell? ⟨B,8,none⟩=some (.int .i64 d.1.x.1):=s3.so.cell (j:=8) rfl
 have e9:W3.cell? ⟨B,9,none⟩=some (.int .i64 d.1.x.2.1):=s3.so.cell (j:=9) rfl
 have e10:W3.cell? ⟨B,10,none⟩=some (.string d.1.x.2.2):=s3.so.cell (j:=10) rfl
 have e11:W3.cell? ⟨B,11,none⟩=some (.int .i64 y.1):=s3.so.cell (j:=11) rfl
 have e12:W3.cell? ⟨B,12,none⟩=some (.int .i64 y.2.1):=s3.so.cell (j:=12) rfl
 have e13:W3.cell? ⟨B,13,none⟩=some (.string y.2.2):=s3.so.cell (j:=13) rfl
 have CA:=s3.askw (bdrew1 W3) 3 y d.1.x
 simp only at CA
 rw[HR.out] at CA
 clear HR s3 k2 C1 a1 a2 a5 a6 a7
 go_wp2_with fail
 refine wp_tail 9 (by kernel_rfl) (by kernel_rfl) ?_
 simp only[List.take_succ_cons,List.take_zero,List.drop_succ_cons,List.drop_zero]
 repeat still_step
 refine wpStill_nil ?_
 go_wp2_with fail
 refine (CA).mono ?_
 rintro e w4 ⟨rfl,wv4,A4,b4,a4,s4⟩
 obtain ⟨r4,r5,s5,k5⟩:=HF.out w4 wv4 A4 b4 a4 _ _ R.2 s4
 have HZ:Hid (_∧_∧_):=⟨r5,s5,k5⟩
 obtain ⟨tl,htl⟩:∃tl,R.2=tl:=⟨_,rfl⟩
 rw[htl] at HZ⊢
 obtain ⟨W5,hW5⟩:∃W5,set8 w4 w.heap.size tl=W5:=⟨_,rfl⟩
 rw[hW5] at HZ
 unfold set8 at hW5
 unfold tolV
 obtain ⟨n0,n1,n2,n3,n4,n5,n6,n7⟩:=r4.eight
 simp only[nil] at n0 n1 n2 n3 n4 n5 n6 n7
 have nf:=fun j=>r4.free j
 clear r4 r5 s5 k5 s4 HF CA
 go_wp2
 obtain ⟨q1,q2,q3⟩:=HZ.out
 obtain ⟨r0,r1,r2,r3,r4,r5,r6,r7⟩:=q1.eight
 exact bodyPost_ret (v:=tolV tl) (by simp[results,Tryz.results59,go_sem,r0,r1,r2,r3,r4,r5,r6,r7,tolV]) rfl ⟨by first | rfl | rw[htl],⟨_,_,_,_,q2.more (by omega)⟩,q3⟩
set_option maxRecDepth 20000 in
set_option maxHeartbeats 4000000 in
theorem high_n {No:Nat→Prop} {w:World} {B:Nat} {wv:Value} {T A b a S hb c:Nat} {d:SD} (h:So No w B wv T A b a S hb c d) (hc:c≤400000) (b1:-2305843009213693952≤d.1.lo) (b2:d.1.lo≤2305843009213693952) (b3:-2305843009213693952≤d.1.up) (b4:d.1.up≤2305843009213693952) (b5:-2305843009213693952≤d.1.p) (b6:d.1.p≤2305843009213693952) (hr:∀r∈d.1.wt,r.1<r.2→-4611686018427387904≤r.1∧r.2≤4611686018427387904):
 Calls Tryz.prog 60 #[.pointer (some ⟨B,0,none⟩),.bool false] w (GP No w B T S hb (c+31) (highR d false)):=by
 obtain ⟨N2,s0,HF0⟩:=h.tell2
 have HF:Hid _:=HF0
 obtain ⟨W0,hW0⟩:∃W0,w.alloc z8=W0:=⟨_,rfl⟩
 rw[hW0] at HF s0
 unfold z8 at hW0
 clear HF0
 have C:=s0.of0 (f:=102) (xs:=#[.pointer (some ⟨B,0,none⟩)]) (bself W0) (fun q=>split_any q (by omega) b1 b2 b3 b4 b5 b6 hr)
 obtain ⟨R,hR⟩:∃R,highR d false=R:=⟨_,rfl⟩
 have hR':splitR d=R:=hR
 rw[hR]
 rw[hR'] at C
 unfold GP
 clear h s0 hR hR' hr
 go_enter Tryz.func60,Tryz.ntmps60
 go_wp2_with fail
 refine (C).mono ?_
 rintro e w4 ⟨rfl,wv4,A4,b4,a4,s4⟩
 obtain ⟨r4,r5,s5,k5⟩:=HF.out w4 wv4 A4 b4 a4 _ _ R.2 s4
 have HZ:Hid (_∧_∧_):=⟨r5,s5,k5⟩
 obtain ⟨tl,htl⟩:∃tl,R.2=tl:=⟨_,rfl⟩
 rw[htl] at HZ⊢
 obtain ⟨W5,hW5⟩:∃W5,set8 w4 w.heap.size tl=W5:=⟨_,rfl⟩
 rw[hW5] at HZ
 unfold set8 at hW5
 unfold tolV
 obtain ⟨n0,n1,n2,n3,n4,n5,n6,n7⟩:=r4.eight
 simp only[nil] at n0 n1 n2 n3 n4 n5 n6 n7
 have nf:=fun j=>r4.free j
 clear r4 r5 s5 k5 s4 HF C
 go_wp2
 obtain ⟨q1,q2,q3⟩:=HZ.out
 obtain ⟨r0,r1,r2,r3,r4,r5,r6,r7⟩:=q1.eight
 exact bodyPost_ret (v:=tolV tl) (by simp[results,Tryz.results60,go_sem,r0,r1,r2,r3,r4,r5,r6,r7,tolV]) rfl ⟨by first | rfl | rw[htl],⟨_,_,_,_,q2.more (by omega)⟩,q3⟩
end Go.Proofs.YtkmopcanaalemabGreat


namespace Go.Proofs.YtkmopcanaalemabGreat
open Go.RowKit
theorem falling_no {d:SD} (h:¬d.1.j<d.1.i):fallingR d false=if putE d d.1.i d.1.y d.1.j d.1.x≠0 then (endD (d.1,(putD d d.1.i d.1.y d.1.j d.1.x).2) (putE d d.1.i d.1.y d.1.j d.1.x),endT (putE d d.1.i d.1.y d.1.j d.1.x)) else riseR (d.1,(putD d d.1.i d.1.y d.1.j d.1.x).2):=by
 have e0:fallingR d false=if putE d d.1.i d.1.y d.1.j d.1.x≠0 then (endD (putD d d.1.i d.1.y d.1.j d.1.x) (putE d d.1.i d.1.y d.1.j d.1.x),endT (putE d d.1.i d.1.y d.1.j d.1.x)) else riseR (putD d d.1.i d.1.y d.1.j d.1.x):=by unfold fallingR;rw[if_neg (by simp),if_neg h]
 rw[e0,←putD_eta]
set_option maxRecDepth 20000 in
set_option maxHeartbeats 4000000 in
theorem falling_e {No:Nat→Prop} {w:World} {B:Nat} {wv:Value} {T A b a S hb c:Nat} {d:SD} (h:So No w B wv T A b a S hb c d) (hj:d.1.j<d.1.i):
 Calls Tryz.prog 62 #[.pointer (some ⟨B,0,none⟩),.bool true] w (GP No w B T S hb (c+31) (fallingR d true)):=by
 obtain ⟨N2,s0,HF0⟩:=h.tell2
 have HF:Hid _:=HF0
 obtain ⟨W0,hW0⟩:∃W0,w.alloc z8=W0:=⟨_,rfl⟩
 rw[hW0] at HF s0
 unfold z8 at hW0
 clear HF0
 have a1:W0.cell? ⟨B,1,none⟩=some (.int .i64 d.1.lo):=s0.so.cell (j:=1) rfl
 have a2:W0.cell? ⟨B,2,none⟩=some (.int .i64 d.1.up):=s0.so.cell (j:=2) rfl
 have a5:W0.cell? ⟨B,5,none⟩=some (.int .i64 d.1.p):=s0.so.cell (j:=5) rfl
 have a6:W0.cell? ⟨B,6,none⟩=some (.int .i64 d.1.i):=s0.so.cell (j:=6) rfl
 have a7:W0.cell? ⟨B,7,none⟩=some (.int .i64 d.1.j):=s0.so.cell (j:=7) rfl
 have C:=fun m=>(s0.drewN m).en0 (bself _) 15
 obtain ⟨R,hR⟩:∃R,fallingR d true=R:=⟨_,rfl⟩
 have eR:(endD d 15,endT 15)=R:=by rw[←hR];unfold fallingR;rw[if_pos rfl,if_pos hj]
 rw[hR]
 rw[eR] at C
 unfold GP
 clear h s0 hR eR
 go_enter Tryz.func62,Tryz.ntmps62
 go_wp2_with fail
 go_quiet (fail)
 go_wp2_with fail
 refine (C _).mono ?_
 rintro e w4 ⟨rfl,wv4,A4,b4,a4,s4⟩
 obtain ⟨r4,r5,s5,k5⟩:=HF.out w4 wv4 A4 b4 a4 _ _ R.2 s4
 have HZ:Hid (_∧_∧_):=⟨r5,s5,k5⟩
 obtain ⟨tl,htl⟩:∃tl,R.2=tl:=⟨_,rfl⟩
 rw[htl] at HZ⊢
 obtain ⟨W5,hW5⟩:∃W5,set8 w4 w.heap.size tl=W5:=⟨_,rfl⟩
 rw[hW5] at HZ
 unfold set8 at hW5
 unfold tolV
 obtain ⟨n0,n1,n2,n3,n4,n5,n6,n7⟩:=r4.eight
 simp only[nil] at n0 n1 n2 n3 n4 n5 n6 n7
 have nf:=fun j=>r4.free j
 clear r4 r5 s5 k5 s4 HF C
 go_wp2
 obtain ⟨q1,q2,q3⟩:=HZ.out
 obtain ⟨r0,r1,r2,r3,r4,r5,r6,r7⟩:=q1.eight
 exact bodyPost_ret (v:=tolV tl) (by simp[results,Tryz.results62,go_sem,r0,r1,r2,r3,r4,r5,r6,r7,tolV]) rfl ⟨by first | rfl | rw[htl],⟨_,_,_,_,q2.more (by omega)⟩,q3⟩
set_option maxRecDepth 20000 in
set_option maxHeartbeats 4000000 in
theorem falling_f {No:Nat→Prop} {w:World} {B:Nat} {wv:Value} {T A b a S hb c:Nat} {d:SD} (h:So No w B wv T A b a S hb c d) (hc:c≤400000) (b9:-2305843009213693952≤d.1.j) (b10:d.1.j≤2305843009213693952) (hj:¬d.1.j<d.1.i):
 Calls Tryz.prog 62 #[.pointer (some ⟨B,0,none⟩),.bool true] w (GP No w B T S hb (c+31) (fallingR d true)):=by
 obtain ⟨N2,s0,HF0⟩:=h.tell2
 have HF:Hid _:=HF0
 obtain ⟨W0,hW0⟩:∃W0,w.alloc z8=W0:=⟨_,rfl⟩
 rw[hW0] at HF s0
 unfold z8 at hW0
 clear HF0
 have a1:W0.cell? ⟨B,1,none⟩=some (.int .i64 d.1.lo):=s0.so.cell (j:=1) rfl
 have a2:W0.cell? ⟨B,2,none⟩=some (.int .i64 d.1.up):=s0.so.cell (j:=2) rfl
 have a5:W0.cell? ⟨B,5,none⟩=some (.int .i64 d.1.p):=s0.so.cell (j:=5) rfl
 have a6:W0.cell? ⟨B,6,none⟩=some (.int .i64 d.1.i):=s0.so.cell (j:=6) rfl
 have a7:W0.cell? ⟨B,7,none⟩=some (.int .i64 d.1.j):=s0.so.cell (j:=7) rfl
 have C:=fun m=>(s0.drewN m).of0 (f:=103) (xs:=#[.pointer (some ⟨B,0,none⟩)]) (bself _) (fun q=>fall_gp q (by omega) (by omega) (by omega))
 obtain ⟨R,hR⟩:∃R,fallingR d true=R:=⟨_,rfl⟩
 have eR:fallR d=R:=by rw[←hR];unfold fallingR;rw[if_pos rfl,if_neg hj]
 rw[hR]
 rw[eR] at C
 unfold GP
 clear h s0 hR eR
 go_enter Tryz.func62,Tryz.ntmps62
 go_wp2_with fail
 go_quiet (fail)
 go_wp2_with fail
 refine (C _).mono ?_
 rintro e w4 ⟨rfl,wv4,A4,b4,a4,s4⟩
 obtain ⟨r4,r5,s5,k5⟩:=HF.out w4 wv4 A4 b4 a4 _ _ R.2 s4
 have HZ:Hid (_∧_∧_):=⟨r5,s5,k5⟩
 obtain ⟨tl,htl⟩:∃tl,R.2=tl:=⟨_,rfl⟩
 rw[htl] at HZ⊢
 obtain ⟨W5,hW5⟩:∃W5,set8 w4 w.heap.size tl=W5:=⟨_,rfl⟩
 rw[hW5] at HZ
 unfold set8 at hW5
 unfold tolV
 obtain ⟨n0,n1,n2,n3,n4,n5,n6,n7⟩:=r4.eight
 simp only[nil] at n0 n1 n2 n3 n4 n5 n6 n7
 have nf:=fun j=>r4.free j
 clear r4 r5 s5 k5 s4 HF C
 go_wp2
 obtain ⟨q1,q2,q3⟩:=HZ.out
 obtain ⟨r0,r1,r2,r3,r4,r5,r6,r7⟩:=q1.eight
 exact bodyPost_ret (v:=tolV tl) (by simp[results,Tryz.results62,go_sem,r0,r1,r2,r3,r4,r5,r6,r7,tolV]) rfl ⟨by first | rfl | rw[htl],⟨_,_,_,_,q2.more (by omega)⟩,q3⟩
set_option maxRecDepth 20000 in
set_option maxHeartbeats 4000000 in
theorem falling_p {No:Nat→Prop} {w:World} {B:Nat} {wv:Value} {T A b a S hb c:Nat} {d:SD} (h:So No w B wv T A b a S hb c d) (hc:c≤400000) (b1:-2305843009213693952≤d.1.lo) (b2:d.1.lo≤2305843009213693952) (b3:-2305843009213693952≤d.1.up) (b4:d.1.up≤2305843009213693952) (b7:-2305843009213693952≤d.1.i) (b8:d.1.i≤2305843009213693952) (hwl:d.1.wt.length≤900000) (hr:∀r∈d.1.wt,r.1<r.2→-4611686018427387904≤r.1∧r.2≤4611686018427387904) (hj:d.1.j<d.1.i):
 Calls Tryz.prog 62 #[.pointer (some ⟨B,0,none⟩),.bool false] w (GP No w B T S hb (c+31) (fallingR d false)):=by
 obtain ⟨N2,s0,HF0⟩:=h.tell2
 have HF:Hid _:=HF0
 obtain ⟨W0,hW0⟩:∃W0,w.alloc z8=W0:=⟨_,rfl⟩
 rw[hW0] at HF s0
 unfold z8 at hW0
 clear HF0
 have a1:W0.cell? ⟨B,1,none⟩=some (.int .i64 d.1.lo):=s0.so.cell (j:=1) rfl
 have a2:W0.cell? ⟨B,2,none⟩=some (.int .i64 d.1.up):=s0.so.cell (j:=2) rfl
 have a5:W0.cell? ⟨B,5,none⟩=some (.int .i64 d.1.p):=s0.so.cell (j:=5) rfl
 have a6:W0.cell? ⟨B,6,none⟩=some (.int .i64 d.1.i):=s0.so.cell (j:=6) rfl
 have a7:W0.cell? ⟨B,7,none⟩=some (.int .i64 d.1.j):=s0.so.cell (j:=7) rfl
 have C:=fun m=>(s0.drewN m).of0 (f:=105) (xs:=#[.pointer (some ⟨B,0,none⟩)]) (bself _) (fun q=>part_any q (by omega) b1 b2 b3 b4 b7 b8 hwl hr)
 obtain ⟨R,hR⟩:∃R,fallingR d false=R:=⟨_,rfl⟩
 have eR:partR d=R:=by rw[←hR];unfold fallingR;rw[if_neg (by simp),if_pos hj]
 rw[hR]
 rw[eR] at C
 unfold GP
 clear h s0 hR eR hr
 go_enter Tryz.func62,Tryz.ntmps62
 go_wp2_with fail
 go_quiet (fail)
 go_wp2_with fail
 go_quiet (fail)
 go_wp2_with fail
 refine (C _).mono ?_
 rintro e w4 ⟨rfl,wv4,A4,b4,a4,s4⟩
 obtain ⟨r4,r5,s5,k5⟩:=HF.out w4 wv4 A4 b4 a4 _ _ R.2 s4
 have HZ:Hid (_∧_∧_):=⟨r5,s5,k5⟩
 obtain ⟨tl,htl⟩:∃tl,R.2=tl:=⟨_,rfl⟩
 rw[htl] at HZ⊢
 obtain ⟨W5,hW5⟩:∃W5,set8 w4 w.heap.size tl=W5:=⟨_,rfl⟩
 rw[hW5] at HZ
 unfold set8 at hW5
 unfold tolV
 obtain ⟨n0,n1,n2,n3,n4,n5,n6,n7⟩:=r4.eight
 simp only[nil] at n0 n1 n2 n3 n4 n5 n6 n7
 have nf:=fun j=>r4.free j
 clear r4 r5 s5 k5 s4 HF C
 go_wp2
 obtain ⟨q1,q2,q3⟩:=HZ.out
 obtain ⟨r0,r1,r2,r3,r4,r5,r6,r7⟩:=q1.eight
 exact bodyPost_ret (v:=tolV tl) (by simp[results,Tryz.results62,go_sem,r0,r1,r2,r3,r4,r5,r6,r7,tolV]) rfl ⟨by first | rfl | rw[htl],⟨_,_,_,_,q2.more (by omega)⟩,q3⟩
set_option maxRecDepth 20000 in
set_option maxHeartbeats 4000000 in
theorem falling_r {No:Nat→Prop} {w:World} {B:Nat} {wv:Value} {T A b a S hb c:Nat} {d:SD} (h:So No w B wv T A b a S hb c d) (hc:c≤400000) (b7:-2305843009213693952≤d.1.i) (b8:d.1.i≤2305843009213693952) (b9:-2305843009213693952≤d.1.j) (b10:d.1.j≤2305843009213693952) (hj:¬d.1.j<d.1.i):
 Calls Tryz.prog 62 #[.pointer (some ⟨B,0,none⟩),.bool false] w (GP No w B T S hb (c+31) (fallingR d false)):=by
 obtain ⟨N2,s0,HF0⟩:=h.tell2
 have HF:Hid _:=HF0
 obtain ⟨W0,hW0⟩:∃W0,w.alloc z8=W0:=⟨_,rfl⟩
 rw[hW0] at HF s0
 unfold z8 at hW0
 clear HF0
 have a1:W0.cell? ⟨B,1,none⟩=some (.int .i64 d.1.lo):=s0.so.cell (j:=1) rfl
 have a2:W0.cell? ⟨B,2,none⟩=some (.int .i64 d.1.up):=s0.so.cell (j:=2) rfl
 have a5:W0.cell? ⟨B,5,none⟩=some (.int .i64 d.1.p):=s0.so.cell (j:=5) rfl
 have a6:W0.cell? ⟨B,6,none⟩=some (.int .i64 d.1.i):=s0.so.cell (j:=6) rfl
 have a7:W0.cell? ⟨B,7,none⟩=some (.int .i64 d.1.j):=s0.so.cell (j:=7) rfl
 have a8:W0.cell? ⟨B,8,none⟩=some (.int .i64 d.1.x.1):=s0.so.cell (j:=8) rfl
 have a9:W0.cell? ⟨B,9,none⟩=some (.int .i64 d.1.x.2.1):=s0.so.cell (j:=9) rfl
 have a10:W0.cell? ⟨B,10,none⟩=some (.string d.1.x.2.2):=s0.so.cell (j:=10) rfl
 have a11:W0.cell? ⟨B,11,none⟩=some (.int .i64 d.1.y.1):=s0.so.cell (j:=11) rfl
 have a12:W0.cell? ⟨B,12,none⟩=some (.int .i64 d.1.y.2.1):=s0.so.cell (j:=12) rfl
 have a13:W0.cell? ⟨B,13,none⟩=some (.string d.1.y.2.2):=s0.so.cell (j:=13) rfl
 have a14:W0.cell? ⟨B,14,none⟩=some (.int .i64 d.1.pv.1):=s0.so.cell (j:=14) rfl
 have a15:W0.cell? ⟨B,15,none⟩=some (.int .i64 d.1.pv.2.1):=s0.so.cell (j:=15) rfl
 have a16:W0.cell? ⟨B,16,none⟩=some (.string d.1.pv.2.2):=s0.so.cell (j:=16) rfl
 obtain ⟨R,hR⟩:∃R,fallingR d false=R:=⟨_,rfl⟩
 rw[hR]
 unfold GP
 rw[falling_no hj] at hR
 have C5:=fun m=>s0.pu0 (w':=W0.drewN m) (bdrewN W0 m) (by omega) (d.1.i) (d.1.j) d.1.y d.1.x (by omega) (by omega) (by omega) (by omega)
 obtain ⟨E,hE⟩:∃E,putE (d) (d.1.i) (d.1.y) (d.1.j) (d.1.x)=E:=⟨_,rfl⟩
 obtain ⟨P2,hP2⟩:∃P2,(putD (d) (d.1.i) (d.1.y) (d.1.j) (d.1.x)).2=P2:=⟨_,rfl⟩
 rw[hE,hP2] at C5 hR
 clear hE hP2 h
 by_cases hE0:E=0
 ·subst hE0
  rw[if_neg (by simp)] at hR
  have HR:Hid (_=R):=hR
  clear hR
  go_enter Tryz.func62,Tryz.ntmps62
  go_wp2_with fail
  go_quiet (fail)
  go_wp2_with fail
  go_quiet (fail)
  go_wp2_with fail
  refine wp_tail 17 (by kernel_rfl) (by kernel_rfl) ?_
  simp only[List.take_succ_cons,List.take_zero,List.drop_succ_cons,List.drop_zero]
  repeat still_step
  refine wpStill_nil ?_
  go_wp2_with fail
  refine (C5 _).mono ?_
  rintro e w5 ⟨rfl,A5,B5,D5,k5⟩
  have C8:=k5.of0 (f:=104) (xs:=#[.pointer (some ⟨B,0,none⟩)]) (bself w5) (fun q=>rise_gp q (by omega) (by simp only;omega) (by simp only;omega))
  rw[HR.out] at C8
  clear HR k5 C5
  go_wp2_with fail
  refine (C8).mono ?_
  rintro e w4 ⟨rfl,wv4,A4,b4,a4,s4⟩
  obtain ⟨r4,r5,s5,k5⟩:=HF.out w4 wv4 A4 b4 a4 _ _ R.2 s4
  have HZ:Hid (_∧_∧_):=⟨r5,s5,k5⟩
  obtain ⟨tl,htl⟩:∃tl,R.2=tl:=⟨_,rfl⟩
  rw[htl] at HZ⊢
  obtain ⟨W5,hW5⟩:∃W5,set8 w4 w.heap.size tl=W5:=⟨_,rfl⟩
  rw[hW5] at HZ
  unfold set8 at hW5
  unfold tolV
  obtain ⟨n0,n1,n2,n3,n4,n5,n6,n7⟩:=r4.eight
  simp only[nil] at n0 n1 n2 n3 n4 n5 n6 n7
  have nf:=fun j=>r4.free j
  clear r4 r5 s5 k5 s4 HF C8
  go_wp2
  obtain ⟨q1,q2,q3⟩:=HZ.out
  obtain ⟨r0,r1,r2,r3,r4,r5,r6,r7⟩:=q1.eight
  exact bodyPost_ret (v:=tolV tl) (by simp[results,Tryz.results62,go_sem,r0,r1,r2,r3,r4,r5,r6,r7,tolV]) rfl ⟨by first | rfl | rw[htl],⟨_,_,_,_,q2.more (by omega)⟩,q3⟩
 ·have hE':(E !=0)=true:=by simpa using hE0
  rw[if_pos hE0] at hR
  have HR:Hid (_=R):=hR
  clear hR
  go_enter Tryz.func62,Tryz.ntmps62
  go_wp2_with fail
  go_quiet (fail)
  go_wp2_with fail
  go_quiet (fail)
  go_wp2_with fail
  refine wp_tail 17 (by kernel_rfl) (by kernel_rfl) ?_
  simp only[List.take_succ_cons,List.take_zero,List.drop_succ_cons,List.drop_zero]
  repeat still_step
  refine wpStill_nil ?_
  go_wp2_with fail
  refine (C5 _).mono ?_
  rintro e w5 ⟨rfl,A5,B5,D5,k5⟩
  have C8:=k5.en0 (bself w5) E
  rw[HR.out] at C8
  clear HR k5 C5 hE0
  go_wp2_with fail
  refine (C8).mono ?_
  rintro e w4 ⟨rfl,wv4,A4,b4,a4,s4⟩
  obtain ⟨r4,r5,s5,k5⟩:=HF.out w4 wv4 A4 b4 a4 _ _ R.2 s4
  have HZ:Hid (_∧_∧_):=⟨r5,s5,k5⟩
  obtain ⟨tl,htl⟩:∃tl,R.2=tl:=⟨_,rfl⟩
  rw[htl] at HZ⊢
  obtain ⟨W5,hW5⟩:∃W5,set8 w4 w.heap.size tl=W5:=⟨_,rfl⟩
  rw[hW5] at HZ
  unfold set8 at hW5
  unfold tolV
  obtain ⟨n0,n1,n2,n3,n4,n5,n6,n7⟩:=r4.eight
  simp only[nil] at n0 n1 n2 n3 n4 n5 n6 n7
  have nf:=fun j=>r4.free j
  clear r4 r5 s5 k5 s4 HF C8
  go_wp2
  obtain ⟨q1,q2,q3⟩:=HZ.out
  obtain ⟨r0,r1,r2,r3,r4,r5,r6,r7⟩:=q1.eight
  exact bodyPost_ret (v:=tolV tl) (by simp[results,Tryz.results62,go_sem,r0,r1,r2,r3,r4,r5,r6,r7,tolV]) rfl ⟨by first | rfl | rw[htl],⟨_,_,_,_,q2.more (by omega)⟩,q3⟩
theorem falling_any {No:Nat→Prop} {w:World} {B:Nat} {wv:Value} {T A b a S hb c:Nat} {d:SD} (h:So No w B wv T A b a S hb c d) (hc:c≤400000) (b1:-2305843009213693952≤d.1.lo) (b2:d.1.lo≤2305843009213693952) (b3:-2305843009213693952≤d.1.up) (b4:d.1.up≤2305843009213693952) (b7:-2305843009213693952≤d.1.i) (b8:d.1.i≤2305843009213693952) (b9:-2305843009213693952≤d.1.j) (b10:d.1.j≤2305843009213693952) (hwl:d.1.wt.length≤900000) (hr:∀r∈d.1.wt,r.1<r.2→-4611686018427387904≤r.1∧r.2≤4611686018427387904) (less:Bool):
 Calls Tryz.prog 62 #[.pointer (some ⟨B,0,none⟩),.bool less] w (GP No w B T S hb (c+31) (fallingR d less)):=by
 cases less with
 | true=>
   by_cases hj:d.1.j<d.1.i
   ·exact falling_e h hj
   ·exact falling_f h hc b9 b10 hj
 | false=>
   by_cases hj:d.1.j<d.1.i
   ·exact falling_p h hc b1 b2 b3 b4 b7 b8 hwl hr hj
   ·exact falling_r h hc b7 b8 b9 b10 hj
end Go.Proofs.YtkmopcanaalemabGreat


namespace Go.Proofs.YtkmopcanaalemabGreat
namespace U
def sw1 (f:Int→V) (k:Int) (v:V):Int→V:=fun j=>if j=k then v else f j
def swp (f:Int→V) (a b:Int):Int→V:=sw1 (sw1 f a (f b)) b (f a)
theorem swp_at (f:Int→V) (a b j:Int):swp f a b j=if j=b then f a else if j=a then f b else f j:=rfl
def cnt (f:Int→V) (w:V):Nat→Nat
 | 0=>0
 | n+1=>cnt f w n+(if f ((n:Int)+1)=w then 1 else 0)
structure Hd (n:Nat) (Gd:V→Prop) (M:TS→H.St→(Int→V)→Prop):Prop where
 gd:∀t s f k,M t s f→1≤k→k≤(n:Int)→Gd (f k)
 rd:∀t s f k,M t s f→1≤k→k≤(n:Int)→pget t.p (kn k)=f k
 pr:∀t s f r,M t s f→M {t with pr:=r} s f
 st:∀t s f k v,M t s f→1≤k→k≤(n:Int)→Gd v→(tset t s (kn k) v).2.2=0∧M (tset t s (kn k) v).1 (tset t s (kn k) v).2.1 (sw1 f k v)
section
variable {n:Nat} {Gd:V→Prop} {M:TS→H.St→(Int→V)→Prop}
theorem Hd.read (hd:Hd n Gd M) {d:SD} {f:Int→V} (h:M d.2.1 d.2.2 f) {k:Int} (h1:1≤k) (h2:k≤(n:Int)):rdV d k=f k∧M (rdD d k).2.1 (rdD d k).2.2 f∧(rdD d k).1=d.1:=
 ⟨hd.rd _ _ f k h h1 h2,hd.pr _ _ f _ h,rfl⟩
theorem Hd.put (hd:Hd n Gd M) {d:SD} {f:Int→V} (h:M d.2.1 d.2.2 f) {a b:Int} (h1:1≤a) (h2:a≤(n:Int)) (h3:1≤b) (h4:b≤(n:Int)) {x y:V} (hx:x=f a) (hy:y=f b):putE d a y b x=0∧M (putD d a y b x).2.1 (putD d a y b x).2.2 (swp f a b)∧(putD d a y b x).1=d.1:=by
 subst hx hy
 obtain ⟨e1,k1⟩:=hd.st _ _ f a (f b) h h1 h2 (hd.gd _ _ f b h h3 h4)
 obtain ⟨e2,k2⟩:=hd.st _ _ _ b (f a) k1 h3 h4 (hd.gd _ _ f a h h1 h2)
 have e1':stE d a (f b)=0:=e1
 unfold putE putD
 rw[if_neg (fun q=>q e1'),if_neg (fun q=>q e1')]
 exact ⟨e2,k2,rfl⟩
def RO (n:Nat) (r:Int×Int):Prop:=r.1<r.2→1≤r.1∧r.2≤(n:Int)
def sq (r:Int×Int):Int:=if r.1<r.2 then (r.2 - r.1+1) * (r.2 - r.1+1) else 0
def sqs:List (Int×Int)→Int
 | []=>0
 | r::l=>sq r+sqs l
theorem sq_nn (r:Int×Int):0≤sq r:=by
 unfold sq
 split
 ·exact Int.mul_nonneg (by omega) (by omega)
 ·exact Int.le_refl _
structure SI (n:Nat) (s:SS) (f:Int→V):Prop where
 wt:∀r∈s.wt,RO n r
 lt:s.lo<s.up
 lo:1≤s.lo
 up:s.up≤(n:Int)
 st:(s.ak=1∧s.x=f s.lo∧s.y=f s.up)∨
  (s.ak=2∧s.lo+1<s.up∧s.p=s.lo+(s.up - s.lo) / 2∧s.x=f s.p∧s.y=f s.lo)∨
  (s.ak=3∧s.lo+1<s.up∧s.p=s.lo+(s.up - s.lo) / 2∧s.x=f s.p∧s.y=f s.up)∨
  (s.ak=4∧s.pv=f (s.up - 1)∧s.x=f s.i∧s.lo<s.i∧s.i≤s.up - 1∧s.lo<s.j∧s.j≤s.up - 1)∨
  (s.ak=5∧s.pv=f (s.up - 1)∧s.x=f s.i∧s.y=f s.j∧s.lo<s.i∧s.i≤s.up - 1∧s.lo≤s.j∧s.j<s.up - 1)
def lft (s:SS):Int:=
 let m:=s.up - s.lo+1
 sqs s.wt+(if s.ak≤3 then m * m - s.ak else (m - 1) * (m - 1)+(s.up - 1 - s.i)+(s.j - s.lo))
theorem pop_ok (n:Nat):∀(l:List (Int×Int)) (lo up:Int),RO n (lo,up)→(∀r∈l,RO n r)→∀q,pop lo up l=some q→q.1.1<q.1.2∧1≤q.1.1∧q.1.2≤(n:Int)∧(∀r∈q.2,RO n r)∧sq q.1+sqs q.2≤sq (lo,up)+sqs l
 | [],lo,up,h0,_,q,e=>by
   unfold pop at e
   by_cases c:lo<up
   ·rw[if_pos c] at e
    obtain rfl:=Option.some.inj e
    exact ⟨c,(h0 c).1,(h0 c).2,fun r hr=>(by cases hr),Int.le_refl _⟩
   ·rw[if_neg c] at e;cases e
 | r::l,lo,up,h0,h,q,e=>by
   unfold pop at e
   by_cases c:lo<up
   ·rw[if_pos c] at e
    obtain rfl:=Option.some.inj e
    exact ⟨c,(h0 c).1,(h0 c).2,h,Int.le_refl _⟩
   ·rw[if_neg c] at e
    obtain ⟨a1,a2,a3,a4,a5⟩:=pop_ok n l r.1 r.2 (h r (List.mem_cons_self ..)) (fun r hr=>h r (List.mem_cons_of_mem _ hr)) q e
    refine ⟨a1,a2,a3,a4,Int.le_trans a5 ?_⟩
    have:=sq_nn (lo,up)
    show sq (r.1,r.2)+sqs l≤sq (lo,up)+(sq r+sqs l)
    have e:(r.1,r.2)=r:=rfl
    rw[e]
    omega
end
end U
end Go.Proofs.YtkmopcanaalemabGreat


namespace Go.Proofs.YtkmopcanaalemabGreat
namespace U
section
variable {n : Nat} {Gd : V → Prop} {M : TS → H.St → (Int → V) → Prop}
theorem sq_le {lo up m : Int} (h : 0 ≤ m) (e : up - lo + 1 = m) : sq (lo,up) ≤ m * m:=by
  unfold sq
  split
  · simp only at *
    rw [e]
    exact Int.le_refl _
  · exact Int.mul_nonneg h h
end
end U
end Go.Proofs.YtkmopcanaalemabGreat
