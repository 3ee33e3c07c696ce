import Derived.Test.YtkmopcanaalemabGreatCg10
import Derived.BigRegion
import Derived.Deep.DeepCutAuto
namespace Go.Proofs.YtkmopcanaalemabGreat
open Go.RowKit
def endsT (d1:SD):SD×Tol:=
 if d1.1.up - d1.1.lo=1 then leaveR d1
 else
  let p:=d1.1.lo+(d1.1.up - d1.1.lo) / 2
  let d2:SD:=({d1.1 with p:=p},d1.2)
  let x:=rdV d2 p
  let d3:=rdD d2 p
  let y:=rdV d3 d1.1.lo
  let d4:=rdD d3 d1.1.lo
  (askD ({d4.1 with x:=x,y:=y},d4.2) 2,askT x y)
theorem ends_no (d:SD):endsR d false=endsT d:=by
 unfold endsR
 simp only[if_neg (show ¬(false=true) by simp)]
 rw[if_neg (by simp)]
 rfl
theorem ends_yes (d:SD):endsR d true=if putE d d.1.lo d.1.y d.1.up d.1.x≠0 then (endD (d.1,(putD d d.1.lo d.1.y d.1.up d.1.x).2) (putE d d.1.lo d.1.y d.1.up d.1.x),endT (putE d d.1.lo d.1.y d.1.up d.1.x)) else endsT (d.1,(putD d d.1.lo d.1.y d.1.up d.1.x).2):=by
 rw[←putD_eta]
 have e1:(putD d d.1.lo d.1.y d.1.up d.1.x).1=d.1:=by rw[putD_eta]
 unfold endsR endsT
 simp only[if_true,e1]
theorem ends_one {d1:SD} (h:d1.1.up - d1.1.lo=1):endsT d1=leaveR d1:=by unfold endsT;rw[if_pos h]
theorem ends_two {d1:SD} (h:¬d1.1.up - d1.1.lo=1):endsT d1=(askD ({d1.1 with p:=d1.1.lo+(d1.1.up - d1.1.lo) / 2,x:=rdV ({d1.1 with p:=d1.1.lo+(d1.1.up - d1.1.lo) / 2},d1.2) (d1.1.lo+(d1.1.up - d1.1.lo) / 2),y:=rdV (rdD ({d1.1 with p:=d1.1.lo+(d1.1.up - d1.1.lo) / 2},d1.2) (d1.1.lo+(d1.1.up - d1.1.lo) / 2)) d1.1.lo},(rdD (rdD ({d1.1 with p:=d1.1.lo+(d1.1.up - d1.1.lo) / 2},d1.2) (d1.1.lo+(d1.1.up - d1.1.lo) / 2)) d1.1.lo).2) 2,askT (rdV ({d1.1 with p:=d1.1.lo+(d1.1.up - d1.1.lo) / 2},d1.2) (d1.1.lo+(d1.1.up - d1.1.lo) / 2)) (rdV (rdD ({d1.1 with p:=d1.1.lo+(d1.1.up - d1.1.lo) / 2},d1.2) (d1.1.lo+(d1.1.up - d1.1.lo) / 2)) d1.1.lo)):=by
 unfold endsT
 rw[if_neg h]
 rfl
set_option maxRecDepth 20000 in
set_option maxHeartbeats 4000000 in
theorem ends_n {No:Nat→Prop} {w:World} {B:Nat} {wv:Value} {T A b a S hb c:Nat} {d:SD} (h:So No w B wv T A b a S hb c d) (hc:c≤400000) (b1:-2305843009213693952≤d.1.lo) (b2:d.1.lo≤2305843009213693952) (b3:-2305843009213693952≤d.1.up) (b4:d.1.up≤2305843009213693952) (hlt:d.1.lo<d.1.up) (hr:∀r∈d.1.wt,r.1<r.2→-4611686018427387904≤r.1∧r.2≤4611686018427387904):
 Calls Tryz.prog 58 #[.pointer (some ⟨B,0,none⟩),.bool false] w (GP No w B T S hb (c+31) (endsR d false)):=by
 obtain ⟨N2,s0,HF0⟩:=h.tell2
 have HF:Hid _:=HF0
 obtain ⟨W0,hW0⟩:∃W0,w.alloc z8=W0:=⟨_,rfl⟩
 rw[hW0] at HF s0
 unfold z8 at hW0
 clear HF0
 have a1:W0.cell? ⟨B,1,none⟩=some (.int .i64 d.1.lo):=s0.so.cell (j:=1) rfl
 have a2:W0.cell? ⟨B,2,none⟩=some (.int .i64 d.1.up):=s0.so.cell (j:=2) rfl
 have a5:W0.cell? ⟨B,5,none⟩=some (.int .i64 d.1.p):=s0.so.cell (j:=5) rfl
 have a6:W0.cell? ⟨B,6,none⟩=some (.int .i64 d.1.i):=s0.so.cell (j:=6) rfl
 have a7:W0.cell? ⟨B,7,none⟩=some (.int .i64 d.1.j):=s0.so.cell (j:=7) rfl
 have wl:IntKind.i64.wrap (d.1.up - d.1.lo)=d.1.up - d.1.lo:=by rw[IntKind.wrap_i64];omega
 obtain ⟨R,hR⟩:∃R,endsR d false=R:=⟨_,rfl⟩
 rw[hR]
 unfold GP
 have hT:endsT (d.1,d.2)=R:=(ends_no d).symm.trans hR
 clear h hR
 go_enter Tryz.func58,Tryz.ntmps58
 by_cases h1:d.1.up - d.1.lo=1
 ·have C:=fun m=>(s0.drewN m).of0 (f:=99) (xs:=#[.pointer (some ⟨B,0,none⟩)]) (bself _) (fun q=>leave_any q (by omega) hr)
  have eR:leaveR (d.1,d.2)=R:=(ends_one h1).symm.trans hT
  rw[eR] at C
  have h1':(d.1.up - d.1.lo==1)=true:=by simpa using h1
  clear s0 hT eR hr h1
  go_wp2_with fail
  go_quiet (fail)
  go_wp2_with fail
  refine (C _).mono ?_
  rintro e w4 ⟨rfl,wv4,A4,b4,a4,s4⟩
  obtain ⟨r4,r5,s5,k5⟩:=HF.out w4 wv4 A4 b4 a4 _ _ R.2 s4
  have HZ:Hid (_∧_∧_):=⟨r5,s5,k5⟩
  obtain ⟨tl,htl⟩:∃tl,R.2=tl:=⟨_,rfl⟩
  rw[htl] at HZ⊢
  obtain ⟨W5,hW5⟩:∃W5,set8 w4 w.heap.size tl=W5:=⟨_,rfl⟩
  rw[hW5] at HZ
  unfold set8 at hW5
  unfold tolV
  obtain ⟨n0,n1,n2,n3,n4,n5,n6,n7⟩:=r4.eight
  simp only[nil] at n0 n1 n2 n3 n4 n5 n6 n7
  have nf:=fun j=>r4.free j
  clear r4 r5 s5 k5 s4 HF C
  go_wp2
  obtain ⟨q1,q2,q3⟩:=HZ.out
  obtain ⟨r0,r1,r2,r3,r4,r5,r6,r7⟩:=q1.eight
  exact bodyPost_ret (v:=tolV tl) (by simp[results,Tryz.results58,go_sem,r0,r1,r2,r3,r4,r5,r6,r7,tolV]) rfl ⟨by first | rfl | rw[htl],⟨_,_,_,_,q2.more (by omega)⟩,q3⟩
 ·have h1':(d.1.up - d.1.lo==1)=false:=by simpa using h1
  have HT0:=ends_two (d1:=(d.1,d.2)) h1
  obtain ⟨pp,hpp⟩:∃pp,d.1.lo+(d.1.up - d.1.lo) / 2=pp:=⟨_,rfl⟩
  have hpb:-2305843009213693952≤pp∧pp≤2305843009213693952:=by omega
  have hq:(d.1.up - d.1.lo).tdiv 2=(d.1.up - d.1.lo) / 2:=Int.tdiv_eq_ediv_of_nonneg (by omega)
  have wp':IntKind.i64.wrap ((d.1.up - d.1.lo).tdiv 2)=(d.1.up - d.1.lo) / 2:=by rw[hq,IntKind.wrap_i64];omega
  have wq:IntKind.i64.wrap (d.1.lo+(d.1.up - d.1.lo) / 2)=pp:=by rw[IntKind.wrap_i64];omega
  simp only[hpp] at HT0
  have HT:Hid (_=R):=HT0.symm.trans hT
  clear hT HT0 h1
  go_wp2_with fail
  go_quiet (fail)
  go_wp2_with fail
  have s7:=(s0.drewN (nq+1)).st1 5 pp {d.1 with p:=pp} rfl rfl
  have f7:=s0.so.free
  obtain ⟨W7,hW7⟩:∃W7,(W0.drewN (nq+1)).setCell ⟨B,5,none⟩ (.int .i64 pp)=W7:=⟨_,rfl⟩
  rw[hW7] at s7
  go_region
  go_wp2_with fail
  have h1:W7.cell? ⟨B,1,none⟩=some (.int .i64 ({d.1 with p:=pp}:SS).lo):=s7.so.cell (j:=1) rfl
  have h2:W7.cell? ⟨B,2,none⟩=some (.int .i64 ({d.1 with p:=pp}:SS).up):=s7.so.cell (j:=2) rfl
  have h5:W7.cell? ⟨B,5,none⟩=some (.int .i64 ({d.1 with p:=pp}:SS).p):=s7.so.cell (j:=5) rfl
  have h6:W7.cell? ⟨B,6,none⟩=some (.int .i64 ({d.1 with p:=pp}:SS).i):=s7.so.cell (j:=6) rfl
  have h7:W7.cell? ⟨B,7,none⟩=some (.int .i64 ({d.1 with p:=pp}:SS).j):=s7.so.cell (j:=7) rfl
  have C1:=s7.rdw (bdrew1 W7) (by omega) (pp) (by omega) (by omega)
  obtain ⟨v1,hv1⟩:∃v,rdV (({d.1 with p:=pp},d.2)) (pp)=v:=⟨_,rfl⟩
  obtain ⟨v2,hv2⟩:∃v,rdV (rdD (({d.1 with p:=pp},d.2)) (pp)) (d.1.lo)=v:=⟨_,rfl⟩
  rw[hv1] at C1
  have HV:Hid (rdV (({d.1 with p:=pp},d.2)) (pp)=v1∧rdV (rdD (({d.1 with p:=pp},d.2)) (pp)) (d.1.lo)=v2):=⟨hv1,hv2⟩
  have HC2:Hid (∀w2,Sk N2 W0 w2 B wv T A b a S hb ((c)+1) (rdD (({d.1 with p:=pp},d.2)) (pp))→Calls Tryz.prog 100 #[.pointer (some ⟨B,0,none⟩),.int .i64 (d.1.lo)] w2 fun e w'=>e= .returned (.agg #[.int .i64 v2.1,.int .i64 v2.2.1,.string v2.2.2])∧Sk N2 W0 w' B wv T A b a S hb ((c)+1+1) (rdD (rdD (({d.1 with p:=pp},d.2)) (pp)) (d.1.lo))):=fun w2 k2=>(by
   have:=k2.rd0 (by omega) (d.1.lo) (by omega) (by omega)
   rw[hv2] at this
   exact this)
  clear hv1 hv2
  go_cut [] (fun wx=>Sk N2 W0 wx B wv T A b a S hb ((c)+2) ({(({d.1 with p:=pp},d.2)).1 with x:=v1,y:=v2},(rdD (rdD (({d.1 with p:=pp},d.2)) (pp)) (d.1.lo)).2))
  case first=>
   go_region_with (first
    | (go_at_call 100;(fail_if_success (have kz:=k2));refine (C1).mono ?_;rintro e w2 ⟨rfl,k2⟩;have d1:w2.cell? ⟨B,1,none⟩=some (.int .i64 (({d.1 with p:=pp},d.2)).1.lo):=k2.so.cell (j:=1) rfl;have d2:w2.cell? ⟨B,2,none⟩=some (.int .i64 (({d.1 with p:=pp},d.2)).1.up):=k2.so.cell (j:=2) rfl;have d5:w2.cell? ⟨B,5,none⟩=some (.int .i64 (({d.1 with p:=pp},d.2)).1.p):=k2.so.cell (j:=5) rfl;have d6:w2.cell? ⟨B,6,none⟩=some (.int .i64 (({d.1 with p:=pp},d.2)).1.i):=k2.so.cell (j:=6) rfl;have d7:w2.cell? ⟨B,7,none⟩=some (.int .i64 (({d.1 with p:=pp},d.2)).1.j):=k2.so.cell (j:=7) rfl)
    | (go_at_call 100;refine (HC2.out w2 k2).mono ?_;rintro e w3 ⟨rfl,k3⟩;have d8:w3.cell? ⟨B,8,none⟩=some (.int .i64 (({d.1 with p:=pp},d.2)).1.x.1):=k3.so.cell (j:=8) rfl;have d9:w3.cell? ⟨B,9,none⟩=some (.int .i64 (({d.1 with p:=pp},d.2)).1.x.2.1):=k3.so.cell (j:=9) rfl;have d10:w3.cell? ⟨B,10,none⟩=some (.string (({d.1 with p:=pp},d.2)).1.x.2.2):=k3.so.cell (j:=10) rfl;have d11:w3.cell? ⟨B,11,none⟩=some (.int .i64 (({d.1 with p:=pp},d.2)).1.y.1):=k3.so.cell (j:=11) rfl;have d12:w3.cell? ⟨B,12,none⟩=some (.int .i64 (({d.1 with p:=pp},d.2)).1.y.2.1):=k3.so.cell (j:=12) rfl;have d13:w3.cell? ⟨B,13,none⟩=some (.string (({d.1 with p:=pp},d.2)).1.y.2.2):=k3.so.cell (j:=13) rfl;have dfz:=k3.so.free))
   all_goals
    go_wp2_with fail
    go_meet
    exact ((k3.more (c':=(c)+2) (by omega)).st3 8 v1 {(({d.1 with p:=pp},d.2)).1 with x:=v1} rfl rfl).st3 11 v2 {(({d.1 with p:=pp},d.2)).1 with x:=v1,y:=v2} rfl rfl
  case rest=>
   clear C1 HC2
   have CA:=hcut.askw (bdrew1 wc) 2 v1 v2
   have HR:Hid (_=R):=HT.out
   simp only[HV.out.1,HV.out.2] at HR
   simp only at CA
   rw[HR.out] at CA
   have d8:wc.cell? ⟨B,8,none⟩=some (.int .i64 v1.1):=hcut.so.cell (j:=8) rfl
   have d9:wc.cell? ⟨B,9,none⟩=some (.int .i64 v1.2.1):=hcut.so.cell (j:=9) rfl
   have d10:wc.cell? ⟨B,10,none⟩=some (.string v1.2.2):=hcut.so.cell (j:=10) rfl
   have d11:wc.cell? ⟨B,11,none⟩=some (.int .i64 v2.1):=hcut.so.cell (j:=11) rfl
   have d12:wc.cell? ⟨B,12,none⟩=some (.int .i64 v2.2.1):=hcut.so.cell (j:=12) rfl
   have d13:wc.cell? ⟨B,13,none⟩=some (.string v2.2.2):=hcut.so.cell (j:=13) rfl
   clear HT HR HV hcut s7
   go_wp2_with fail
   refine wp_tail 9 (by kernel_rfl) (by kernel_rfl) ?_
   simp only[List.take_succ_cons,List.take_zero,List.drop_succ_cons,List.drop_zero]
   repeat still_step
   refine wpStill_nil ?_
   go_wp2_with fail
   refine (CA).mono ?_
   rintro e w4 ⟨rfl,wv4,A4,b4,a4,s4⟩
   obtain ⟨r4,r5,s5,k5⟩:=HF.out w4 wv4 A4 b4 a4 _ _ R.2 s4
   have HZ:Hid (_∧_∧_):=⟨r5,s5,k5⟩
   obtain ⟨tl,htl⟩:∃tl,R.2=tl:=⟨_,rfl⟩
   rw[htl] at HZ⊢
   obtain ⟨W5,hW5⟩:∃W5,set8 w4 w.heap.size tl=W5:=⟨_,rfl⟩
   rw[hW5] at HZ
   unfold set8 at hW5
   unfold tolV
   obtain ⟨n0,n1,n2,n3,n4,n5,n6,n7⟩:=r4.eight
   simp only[nil] at n0 n1 n2 n3 n4 n5 n6 n7
   have nf:=fun j=>r4.free j
   clear r4 r5 s5 k5 s4 HF CA
   go_wp2
   obtain ⟨q1,q2,q3⟩:=HZ.out
   obtain ⟨r0,r1,r2,r3,r4,r5,r6,r7⟩:=q1.eight
   exact bodyPost_ret (v:=tolV tl) (by simp[results,Tryz.results58,go_sem,r0,r1,r2,r3,r4,r5,r6,r7,tolV]) rfl ⟨by first | rfl | rw[htl],⟨_,_,_,_,q2.more (by omega)⟩,q3⟩
end Go.Proofs.YtkmopcanaalemabGreat
