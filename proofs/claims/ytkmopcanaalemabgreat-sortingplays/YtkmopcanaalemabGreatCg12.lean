import Derived.Test.YtkmopcanaalemabGreatCg11
import Derived.BigRegion
import Derived.Deep.DeepCutAuto
import Derived.Test.YtkmopcanaalemabGreatCg10
import Derived.Test.YtkmopcanaalemabGreatCg04
namespace Go.Proofs.YtkmopcanaalemabGreat
open Go.RowKit
set_option maxRecDepth 20000 in
set_option maxHeartbeats 4000000 in
theorem ends_y {No:Nat→Prop} {w:World} {B:Nat} {wv:Value} {T A b a S hb c:Nat} {d:SD} (h:So No w B wv T A b a S hb c d) (hc:c≤400000) (b1:-2305843009213693952≤d.1.lo) (b2:d.1.lo≤2305843009213693952) (b3:-2305843009213693952≤d.1.up) (b4:d.1.up≤2305843009213693952) (hlt:d.1.lo<d.1.up) (hr:∀r∈d.1.wt,r.1<r.2→-4611686018427387904≤r.1∧r.2≤4611686018427387904):
 Calls Tryz.prog 58 #[.pointer (some ⟨B,0,none⟩),.bool true] w (GP No w B T S hb (c+31) (endsR d true)):=by
 obtain ⟨N2,s0,HF0⟩:=h.tell2
 have HF:Hid _:=HF0
 obtain ⟨W0,hW0⟩:∃W0,w.alloc z8=W0:=⟨_,rfl⟩
 rw[hW0] at HF s0
 unfold z8 at hW0
 clear HF0
 have a1:W0.cell? ⟨B,1,none⟩=some (.int .i64 d.1.lo):=s0.so.cell (j:=1) rfl
 have a2:W0.cell? ⟨B,2,none⟩=some (.int .i64 d.1.up):=s0.so.cell (j:=2) rfl
 have a5:W0.cell? ⟨B,5,none⟩=some (.int .i64 d.1.p):=s0.so.cell (j:=5) rfl
 have a6:W0.cell? ⟨B,6,none⟩=some (.int .i64 d.1.i):=s0.so.cell (j:=6) rfl
 have a7:W0.cell? ⟨B,7,none⟩=some (.int .i64 d.1.j):=s0.so.cell (j:=7) rfl
 have a8:W0.cell? ⟨B,8,none⟩=some (.int .i64 d.1.x.1):=s0.so.cell (j:=8) rfl
 have a9:W0.cell? ⟨B,9,none⟩=some (.int .i64 d.1.x.2.1):=s0.so.cell (j:=9) rfl
 have a10:W0.cell? ⟨B,10,none⟩=some (.string d.1.x.2.2):=s0.so.cell (j:=10) rfl
 have a11:W0.cell? ⟨B,11,none⟩=some (.int .i64 d.1.y.1):=s0.so.cell (j:=11) rfl
 have a12:W0.cell? ⟨B,12,none⟩=some (.int .i64 d.1.y.2.1):=s0.so.cell (j:=12) rfl
 have a13:W0.cell? ⟨B,13,none⟩=some (.string d.1.y.2.2):=s0.so.cell (j:=13) rfl
 have a14:W0.cell? ⟨B,14,none⟩=some (.int .i64 d.1.pv.1):=s0.so.cell (j:=14) rfl
 have a15:W0.cell? ⟨B,15,none⟩=some (.int .i64 d.1.pv.2.1):=s0.so.cell (j:=15) rfl
 have a16:W0.cell? ⟨B,16,none⟩=some (.string d.1.pv.2.2):=s0.so.cell (j:=16) rfl
 have wl:IntKind.i64.wrap (d.1.up - d.1.lo)=d.1.up - d.1.lo:=by rw[IntKind.wrap_i64];omega
 obtain ⟨R,hR⟩:∃R,endsR d true=R:=⟨_,rfl⟩
 rw[hR]
 unfold GP
 rw[ends_yes] at hR
 have C5:=s0.pu0 (bdrew1 W0) (by omega) (d.1.lo) (d.1.up) d.1.y d.1.x (by omega) (by omega) (by omega) (by omega)
 obtain ⟨E,hE⟩:∃E,putE (d) (d.1.lo) (d.1.y) (d.1.up) (d.1.x)=E:=⟨_,rfl⟩
 obtain ⟨P2,hP2⟩:∃P2,(putD (d) (d.1.lo) (d.1.y) (d.1.up) (d.1.x)).2=P2:=⟨_,rfl⟩
 rw[hE,hP2] at C5 hR
 clear hE hP2 h s0
 by_cases hE0:E=0
 ·subst hE0
  rw[if_neg (by simp)] at hR
  have HR:Hid (_=R):=hR
  clear hR
  go_enter Tryz.func58,Tryz.ntmps58
  go_wp2_with fail
  refine wp_tail 19 (by kernel_rfl) (by kernel_rfl) ?_
  simp only[List.take_succ_cons,List.take_zero,List.drop_succ_cons,List.drop_zero]
  repeat still_step
  refine wpStill_nil ?_
  go_wp2_with fail
  refine C5.mono ?_
  rintro e w5 ⟨rfl,A5,B5,D5,k5⟩
  have hT:endsT (d.1,P2)=R:=HR.out
  clear HR C5 a1 a2 a5 a6 a7 a8 a9 a10 a11 a12 a13 a14 a15 a16
  have g1:w5.cell? ⟨B,1,none⟩=some (.int .i64 d.1.lo):=k5.so.cell (j:=1) rfl
  have g2:w5.cell? ⟨B,2,none⟩=some (.int .i64 d.1.up):=k5.so.cell (j:=2) rfl
  have g5:w5.cell? ⟨B,5,none⟩=some (.int .i64 d.1.p):=k5.so.cell (j:=5) rfl
  have g6:w5.cell? ⟨B,6,none⟩=some (.int .i64 d.1.i):=k5.so.cell (j:=6) rfl
  have g7:w5.cell? ⟨B,7,none⟩=some (.int .i64 d.1.j):=k5.so.cell (j:=7) rfl
  by_cases h1:d.1.up - d.1.lo=1
  ·have C:=fun m=>(k5.drewN m).of0 (f:=99) (xs:=#[.pointer (some ⟨B,0,none⟩)]) (bself _) (fun q=>leave_any q (by omega) hr)
   have eR:leaveR (d.1,P2)=R:=(ends_one (d1:=(d.1,P2)) h1).symm.trans hT
   rw[eR] at C
   have h1':(d.1.up - d.1.lo==1)=true:=by simpa using h1
   clear k5 hT eR hr h1
   go_wp2_with fail
   go_quiet (fail)
   go_wp2_with fail
   refine (C _).mono ?_
   rintro e w4 ⟨rfl,wv4,A4,b4,a4,s4⟩
   obtain ⟨r4,r5,s5,k5⟩:=HF.out w4 wv4 A4 b4 a4 _ _ R.2 s4
   have HZ:Hid (_∧_∧_):=⟨r5,s5,k5⟩
   obtain ⟨tl,htl⟩:∃tl,R.2=tl:=⟨_,rfl⟩
   rw[htl] at HZ⊢
   obtain ⟨W5,hW5⟩:∃W5,set8 w4 w.heap.size tl=W5:=⟨_,rfl⟩
   rw[hW5] at HZ
   unfold set8 at hW5
   unfold tolV
   obtain ⟨n0,n1,n2,n3,n4,n5,n6,n7⟩:=r4.eight
   simp only[nil] at n0 n1 n2 n3 n4 n5 n6 n7
   have nf:=fun j=>r4.free j
   clear r4 r5 s5 k5 s4 HF C
   go_wp2
   obtain ⟨q1,q2,q3⟩:=HZ.out
   obtain ⟨r0,r1,r2,r3,r4,r5,r6,r7⟩:=q1.eight
   exact bodyPost_ret (v:=tolV tl) (by simp[results,Tryz.results58,go_sem,r0,r1,r2,r3,r4,r5,r6,r7,tolV]) rfl ⟨by first | rfl | rw[htl],⟨_,_,_,_,q2.more (by omega)⟩,q3⟩
  ·have h1':(d.1.up - d.1.lo==1)=false:=by simpa using h1
   have HT0:=ends_two (d1:=(d.1,P2)) h1
   obtain ⟨pp,hpp⟩:∃pp,d.1.lo+(d.1.up - d.1.lo) / 2=pp:=⟨_,rfl⟩
   have hpb:-2305843009213693952≤pp∧pp≤2305843009213693952:=by omega
   have hq:(d.1.up - d.1.lo).tdiv 2=(d.1.up - d.1.lo) / 2:=Int.tdiv_eq_ediv_of_nonneg (by omega)
   have wp':IntKind.i64.wrap ((d.1.up - d.1.lo).tdiv 2)=(d.1.up - d.1.lo) / 2:=by rw[hq,IntKind.wrap_i64];omega
   have wq:IntKind.i64.wrap (d.1.lo+(d.1.up - d.1.lo) / 2)=pp:=by rw[IntKind.wrap_i64];omega
   simp only[hpp] at HT0
   have HT:Hid (_=R):=HT0.symm.trans hT
   clear hT HT0 h1
   go_wp2_with fail
   go_quiet (fail)
   go_wp2_with fail
   have s7:=(k5.drewN (nq+1)).st1 5 pp {d.1 with p:=pp} rfl rfl
   have f7:=k5.so.free
   obtain ⟨W7,hW7⟩:∃W7,(w5.drewN (nq+1)).setCell ⟨B,5,none⟩ (.int .i64 pp)=W7:=⟨_,rfl⟩
   rw[hW7] at s7
   go_region
   go_wp2_with fail
   have h1:W7.cell? ⟨B,1,none⟩=some (.int .i64 ({d.1 with p:=pp}:SS).lo):=s7.so.cell (j:=1) rfl
   have h2:W7.cell? ⟨B,2,none⟩=some (.int .i64 ({d.1 with p:=pp}:SS).up):=s7.so.cell (j:=2) rfl
   have h5:W7.cell? ⟨B,5,none⟩=some (.int .i64 ({d.1 with p:=pp}:SS).p):=s7.so.cell (j:=5) rfl
   have h6:W7.cell? ⟨B,6,none⟩=some (.int .i64 ({d.1 with p:=pp}:SS).i):=s7.so.cell (j:=6) rfl
   have h7:W7.cell? ⟨B,7,none⟩=some (.int .i64 ({d.1 with p:=pp}:SS).j):=s7.so.cell (j:=7) rfl
   have C1:=s7.rdw (bdrew1 W7) (by omega) (pp) (by omega) (by omega)
   obtain ⟨v1,hv1⟩:∃v,rdV (({d.1 with p:=pp},P2)) (pp)=v:=⟨_,rfl⟩
   obtain ⟨v2,hv2⟩:∃v,rdV (rdD (({d.1 with p:=pp},P2)) (pp)) (d.1.lo)=v:=⟨_,rfl⟩
   rw[hv1] at C1
   have HV:Hid (rdV (({d.1 with p:=pp},P2)) (pp)=v1∧rdV (rdD (({d.1 with p:=pp},P2)) (pp)) (d.1.lo)=v2):=⟨hv1,hv2⟩
   have HC2:Hid (∀w2,Sk N2 W0 w2 B wv T A5 B5 D5 S hb ((c+14)+1) (rdD (({d.1 with p:=pp},P2)) (pp))→Calls Tryz.prog 100 #[.pointer (some ⟨B,0,none⟩),.int .i64 (d.1.lo)] w2 fun e w'=>e= .returned (.agg #[.int .i64 v2.1,.int .i64 v2.2.1,.string v2.2.2])∧Sk N2 W0 w' B wv T A5 B5 D5 S hb ((c+14)+1+1) (rdD (rdD (({d.1 with p:=pp},P2)) (pp)) (d.1.lo))):=fun w2 k2=>(by
    have:=k2.rd0 (by omega) (d.1.lo) (by omega) (by omega)
    rw[hv2] at this
    exact this)
   clear hv1 hv2
   go_cut [] (fun wx=>Sk N2 W0 wx B wv T A5 B5 D5 S hb ((c+14)+2) ({(({d.1 with p:=pp},P2)).1 with x:=v1,y:=v2},(rdD (rdD (({d.1 with p:=pp},P2)) (pp)) (d.1.lo)).2))
   case first=>
    go_region_with (first
     | (go_at_call 100;(fail_if_success (have kz:=k2));refine (C1).mono ?_;rintro e w2 ⟨rfl,k2⟩;have d1:w2.cell? ⟨B,1,none⟩=some (.int .i64 (({d.1 with p:=pp},P2)).1.lo):=k2.so.cell (j:=1) rfl;have d2:w2.cell? ⟨B,2,none⟩=some (.int .i64 (({d.1 with p:=pp},P2)).1.up):=k2.so.cell (j:=2) rfl;have d5:w2.cell? ⟨B,5,none⟩=some (.int .i64 (({d.1 with p:=pp},P2)).1.p):=k2.so.cell (j:=5) rfl;have d6:w2.cell? ⟨B,6,none⟩=some (.int .i64 (({d.1 with p:=pp},P2)).1.i):=k2.so.cell (j:=6) rfl;have d7:w2.cell? ⟨B,7,none⟩=some (.int .i64 (({d.1 with p:=pp},P2)).1.j):=k2.so.cell (j:=7) rfl)
     | (go_at_call 100;refine (HC2.out w2 k2).mono ?_;rintro e w3 ⟨rfl,k3⟩;have d8:w3.cell? ⟨B,8,none⟩=some (.int .i64 (({d.1 with p:=pp},P2)).1.x.1):=k3.so.cell (j:=8) rfl;have d9:w3.cell? ⟨B,9,none⟩=some (.int .i64 (({d.1 with p:=pp},P2)).1.x.2.1):=k3.so.cell (j:=9) rfl;have d10:w3.cell? ⟨B,10,none⟩=some (.string (({d.1 with p:=pp},P2)).1.x.2.2):=k3.so.cell (j:=10) rfl;have d11:w3.cell? ⟨B,11,none⟩=some (.int .i64 (({d.1 with p:=pp},P2)).1.y.1):=k3.so.cell (j:=11) rfl;have d12:w3.cell? ⟨B,12,none⟩=some (.int .i64 (({d.1 with p:=pp},P2)).1.y.2.1):=k3.so.cell (j:=12) rfl;have d13:w3.cell? ⟨B,13,none⟩=some (.string (({d.1 with p:=pp},P2)).1.y.2.2):=k3.so.cell (j:=13) rfl;have dfz:=k3.so.free))
    all_goals
     go_wp2_with fail
     go_meet
     exact ((k3.more (c':=(c+14)+2) (by omega)).st3 8 v1 {(({d.1 with p:=pp},P2)).1 with x:=v1} rfl rfl).st3 11 v2 {(({d.1 with p:=pp},P2)).1 with x:=v1,y:=v2} rfl rfl
   case rest=>
    clear C1 HC2
    have CA:=hcut.askw (bdrew1 wc) 2 v1 v2
    have HR:Hid (_=R):=HT.out
    simp only[HV.out.1,HV.out.2] at HR
    simp only at CA
    rw[HR.out] at CA
    have d8:wc.cell? ⟨B,8,none⟩=some (.int .i64 v1.1):=hcut.so.cell (j:=8) rfl
    have d9:wc.cell? ⟨B,9,none⟩=some (.int .i64 v1.2.1):=hcut.so.cell (j:=9) rfl
    have d10:wc.cell? ⟨B,10,none⟩=some (.string v1.2.2):=hcut.so.cell (j:=10) rfl
    have d11:wc.cell? ⟨B,11,none⟩=some (.int .i64 v2.1):=hcut.so.cell (j:=11) rfl
    have d12:wc.cell? ⟨B,12,none⟩=some (.int .i64 v2.2.1):=hcut.so.cell (j:=12) rfl
    have d13:wc.cell? ⟨B,13,none⟩=some (.string v2.2.2):=hcut.so.cell (j:=13) rfl
    clear HT HR HV hcut s7
    go_wp2_with fail
    refine wp_tail 9 (by kernel_rfl) (by kernel_rfl) ?_
    simp only[List.take_succ_cons,List.take_zero,List.drop_succ_cons,List.drop_zero]
    repeat still_step
    refine wpStill_nil ?_
    go_wp2_with fail
    refine (CA).mono ?_
    rintro e w4 ⟨rfl,wv4,A4,b4,a4,s4⟩
    obtain ⟨r4,r5,s5,k5⟩:=HF.out w4 wv4 A4 b4 a4 _ _ R.2 s4
    have HZ:Hid (_∧_∧_):=⟨r5,s5,k5⟩
    obtain ⟨tl,htl⟩:∃tl,R.2=tl:=⟨_,rfl⟩
    rw[htl] at HZ⊢
    obtain ⟨W5,hW5⟩:∃W5,set8 w4 w.heap.size tl=W5:=⟨_,rfl⟩
    rw[hW5] at HZ
    unfold set8 at hW5
    unfold tolV
    obtain ⟨n0,n1,n2,n3,n4,n5,n6,n7⟩:=r4.eight
    simp only[nil] at n0 n1 n2 n3 n4 n5 n6 n7
    have nf:=fun j=>r4.free j
    clear r4 r5 s5 k5 s4 HF CA
    go_wp2
    obtain ⟨q1,q2,q3⟩:=HZ.out
    obtain ⟨r0,r1,r2,r3,r4,r5,r6,r7⟩:=q1.eight
    exact bodyPost_ret (v:=tolV tl) (by simp[results,Tryz.results58,go_sem,r0,r1,r2,r3,r4,r5,r6,r7,tolV]) rfl ⟨by first | rfl | rw[htl],⟨_,_,_,_,q2.more (by omega)⟩,q3⟩
 ·have hE':(E !=0)=true:=by simpa using hE0
  rw[if_pos hE0] at hR
  have HR:Hid (_=R):=hR
  clear hR
  go_enter Tryz.func58,Tryz.ntmps58
  go_wp2_with fail
  refine wp_tail 19 (by kernel_rfl) (by kernel_rfl) ?_
  simp only[List.take_succ_cons,List.take_zero,List.drop_succ_cons,List.drop_zero]
  repeat still_step
  refine wpStill_nil ?_
  go_wp2_with fail
  refine C5.mono ?_
  rintro e w5 ⟨rfl,A5,B5,D5,k5⟩
  have C8:=k5.en0 (bself w5) E
  rw[HR.out] at C8
  clear HR k5 C5 hE0
  go_wp2_with fail
  refine (C8).mono ?_
  rintro e w4 ⟨rfl,wv4,A4,b4,a4,s4⟩
  obtain ⟨r4,r5,s5,k5⟩:=HF.out w4 wv4 A4 b4 a4 _ _ R.2 s4
  have HZ:Hid (_∧_∧_):=⟨r5,s5,k5⟩
  obtain ⟨tl,htl⟩:∃tl,R.2=tl:=⟨_,rfl⟩
  rw[htl] at HZ⊢
  obtain ⟨W5,hW5⟩:∃W5,set8 w4 w.heap.size tl=W5:=⟨_,rfl⟩
  rw[hW5] at HZ
  unfold set8 at hW5
  unfold tolV
  obtain ⟨n0,n1,n2,n3,n4,n5,n6,n7⟩:=r4.eight
  simp only[nil] at n0 n1 n2 n3 n4 n5 n6 n7
  have nf:=fun j=>r4.free j
  clear r4 r5 s5 k5 s4 HF C8
  go_wp2
  obtain ⟨q1,q2,q3⟩:=HZ.out
  obtain ⟨r0,r1,r2,r3,r4,r5,r6,r7⟩:=q1.eight
  exact bodyPost_ret (v:=tolV tl) (by simp[results,Tryz.results58,go_sem,r0,r1,r2,r3,r4,r5,r6,r7,tolV]) rfl ⟨by first | rfl | rw[htl],⟨_,_,_,_,q2.more (by omega)⟩,q3⟩
theorem ends_any {No:Nat→Prop} {w:World} {B:Nat} {wv:Value} {T A b a S hb c:Nat} {d:SD} (h:So No w B wv T A b a S hb c d) (hc:c≤400000) (b1:-2305843009213693952≤d.1.lo) (b2:d.1.lo≤2305843009213693952) (b3:-2305843009213693952≤d.1.up) (b4:d.1.up≤2305843009213693952) (hlt:d.1.lo<d.1.up) (hr:∀r∈d.1.wt,r.1<r.2→-4611686018427387904≤r.1∧r.2≤4611686018427387904) (less:Bool):
 Calls Tryz.prog 58 #[.pointer (some ⟨B,0,none⟩),.bool less] w (GP No w B T S hb (c+31) (endsR d less)):=by
 cases less with
 | true=>exact ends_y h hc b1 b2 b3 b4 hlt hr
 | false=>exact ends_n h hc b1 b2 b3 b4 hlt hr
end Go.Proofs.YtkmopcanaalemabGreat


namespace Go.Proofs.YtkmopcanaalemabGreat
open Go.RowKit
theorem info70 : (Tryz.prog.info? 70).map (fun i=>(i.zero,i.size,i.bytes)) = some (some (.agg #[.int .i64 0,.int .i64 0]),2,16):=by kernel_rfl
theorem So.pushed {No : Nat → Prop} {w w' W : World} {B : Nat} {wv : Value} {T A b a S hb c : Nat} {d : SD} (h : So No w B wv T A b a S hb c d) {g cap : Nat} {s' : SS} (hg : w.grownBy w' wv.ownBlock) (hgg : wv.ownBlock = some g ∨ g = w.heap.size) (hlt : g < w'.heap.size) (hrow : w'.ownsRow (B + 1) 70 2 (.slice (some ⟨g,0,none⟩) s'.wt.length cap) s'.wt.length (rws s'.wt.reverse))
    (k : Keep (fun x=>x ≠ B) w' W) (hb' : W.heap[B]? = some (.cells (scl T (.slice (some ⟨g,0,none⟩) s'.wt.length cap) s') 73 (0,0))) : So No W B (.slice (some ⟨g,0,none⟩) s'.wt.length cap) T A b a S hb c (s',d.2) ∧ Keep No w W:=by
  have hN : ∀ x,No x → x < w.heap.size:=fun x q=>by
    obtain ⟨vb,hp⟩:=h.tt.hp
    exact hp.nos _ (.inl (.inl q))
  have hgB : B + 1 ≤ g:=by
    rcases hrow.2 with ⟨q,_⟩ | ⟨g',cap',cur,e,q,_⟩
    · cases q
    · cases e;exact q
  have hkb : ∀ x,x < w.heap.size → x ≠ B → wv.ownBlock ≠ some x → W.heap[x]? = w.heap[x]?:=fun x hx hB hw=>by
    rw [k.block x (Nat.lt_of_lt_of_le hx hg.size) hB]
    exact hg.block x hx (fun q=>hw q.symm)
  have hrW : W.ownsRow (B + 1) 70 2 (.slice (some ⟨g,0,none⟩) s'.wt.length cap) s'.wt.length (rws s'.wt.reverse):=by
    refine ⟨hrow.1,?_⟩
    rcases hrow.2 with ⟨q,_⟩ | ⟨g',cap',cur,e,q1,q2,q3⟩
    · cases q
    · cases e
      refine .inr ⟨g,cap,cur,rfl,q1,?_,q3⟩
      rw [k.block g hlt (by omega)]
      exact q2
  have hnW : ¬ No g:=fun q=>by
    rcases hgg with e | e
    · exact h.nW g e q
    · have:=hN g q;omega
  refine ⟨⟨hb',hrW,?_,h.nB,fun x e=>by cases e;exact hnW⟩,⟨k.os.trans hg.os,k.tape.trans hg.tape,k.output.trans hg.output,Nat.le_trans hg.size k.size,fun x hx q=>hkb x hx (fun e=>h.nB (e ▸ q)) (fun e=>h.nW x e q)⟩⟩
  refine (h.tt.frame2 (w':=W) (k.os.trans hg.os) (k.tape.trans hg.tape) (k.output.trans hg.output) (Nat.le_trans hg.size k.size) (fun x hx hn=>hkb x hx (fun e=>hn (.inr (.inl e))) (fun e=>hn (.inr (.inr e))))).sub (fun x q=>?_)
  rcases q with q | q | q
  · exact .inl (.inl q)
  · exact .inl (.inr (.inl q))
  · have e : g = x:=by simpa [Value.ownBlock] using q
    subst e
    rcases hgg with e | e
    · exact .inl (.inr (.inr e))
    · right
      exact ⟨by omega,Nat.lt_of_lt_of_le hlt k.size⟩
end Go.Proofs.YtkmopcanaalemabGreat


namespace Go.Proofs.YtkmopcanaalemabGreat
open Go.RowKit
theorem bw1 (w : World) (o : Obj) : Below w.heap.size w (w.alloc o):=b1 w o
abbrev rb (r : Int × Int) : Obj:=.cells #[.int .i64 r.1,.int .i64 r.2] 70
structure Tw2 (N2 : Nat → Prop) (W0 w : World) (B : Nat) (wv : Value) (T A b a S hb c : Nat) (d : SD) (f0 t0 : Nat) (r q : Int × Int) : Prop where
  sk : Sk N2 W0 w B wv T A b a S hb c d
  fb : w.heap[f0]? = some (rb r)
  tb : w.heap[t0]? = some (rb q)
  ne : f0 ≠ t0
  nf : ¬ N2 f0
  nt : ¬ N2 t0
  n3 : ∃ N3 : Nat → Prop,So N3 w B wv T A b a S hb c d ∧ (∀ g,N2 g → N3 g) ∧ N3 f0 ∧ N3 t0
theorem So.outs {No : Nat → Prop} {w W : World} {B : Nat} {wv : Value} {T A b a S hb c : Nat} {d : SD} (h : So No w B wv T A b a S hb c d) (k : Keep (fun g=>¬ No g) w W) : So No W B wv T A b a S hb c d:=h.out (fun _ z=>z) k
variable {N2 : Nat → Prop} {W0 w W : World} {B : Nat} {wv : Value} {T A b a S hb c : Nat} {d : SD} {f0 t0 : Nat} {r q : Int × Int}
theorem Sk.nos (h : Sk N2 W0 w B wv T A b a S hb c d) (g : Nat) (hg : N2 g) : g < w.heap.size:=by
  obtain ⟨vb,hp⟩:=h.so.tt.hp
  exact hp.nos _ (.inl (.inl hg))
theorem Sk.two (h : Sk N2 W0 w B wv T A b a S hb c d) (k : Below w.heap.size w W) (hf : W.heap[f0]? = some (rb r)) (ht : W.heap[t0]? = some (rb q)) (ne : f0 ≠ t0) (gf : w.heap.size ≤ f0) (gt : w.heap.size ≤ t0) : Tw2 N2 W0 W B wv T A b a S hb c d f0 t0 r q:=by
  have lf:=(Array.getElem?_eq_some_iff.1 hf).1
  have lt:=(Array.getElem?_eq_some_iff.1 ht).1
  exact ⟨h.below k,hf,ht,ne,fun z=>by have:=h.nos _ z;omega,fun z=>by have:=h.nos _ z;omega,_,h.so.news k,fun g z=>.inl z,.inr ⟨gf,lf⟩,.inr ⟨gt,lt⟩⟩
theorem Sk.two1 (h : Sk N2 W0 w B wv T A b a S hb c d) (r q : Int × Int) : Tw2 N2 W0 (((w.alloc (rb r)).alloc (rb q)).drew) B wv T A b a S hb c d w.heap.size (w.heap.size + 1) r q:=by
  have k : Below w.heap.size w (((w.alloc (rb r)).alloc (rb q)).drew):=bthen (b2 w (rb r) (rb q)) (b2 w (rb r) (rb q)).size (bdrew1 _)
  have e1 : (w.alloc (rb r)).heap[w.heap.size]? = some (rb r):=(MapKept.heap_alloc w _).1
  have z1 : (w.alloc (rb r)).heap.size = w.heap.size + 1:=by simp
  have e2 : ((w.alloc (rb r)).alloc (rb q)).heap[(w.alloc (rb r)).heap.size]? = some (rb q):=(MapKept.heap_alloc _ _).1
  rw [z1] at e2
  have e3:=(b1 (w.alloc (rb r)) (rb q)).block w.heap.size (by omega)
  exact h.two k (e3.trans e1) e2 (by omega) (Nat.le_refl _) (by omega)
theorem Sk.two2 (h : Sk N2 W0 w B wv T A b a S hb c d) (r q : Int × Int) : Tw2 N2 W0 (((w.alloc (rb q)).alloc (rb r)).drew) B wv T A b a S hb c d (w.heap.size + 1) w.heap.size r q:=by
  have k : Below w.heap.size w (((w.alloc (rb q)).alloc (rb r)).drew):=bthen (b2 w (rb q) (rb r)) (b2 w (rb q) (rb r)).size (bdrew1 _)
  have e1 : (w.alloc (rb q)).heap[w.heap.size]? = some (rb q):=(MapKept.heap_alloc w _).1
  have z1 : (w.alloc (rb q)).heap.size = w.heap.size + 1:=by simp
  have e2 : ((w.alloc (rb q)).alloc (rb r)).heap[(w.alloc (rb q)).heap.size]? = some (rb r):=(MapKept.heap_alloc _ _).1
  rw [z1] at e2
  have e3:=(b1 (w.alloc (rb q)) (rb r)).block w.heap.size (by omega)
  exact h.two k e2 (e3.trans e1) (by omega) (by omega) (Nat.le_refl _)
theorem Tw2.below (h : Tw2 N2 W0 w B wv T A b a S hb c d f0 t0 r q) (k : Below w.heap.size w W) : Tw2 N2 W0 W B wv T A b a S hb c d f0 t0 r q:=by
  have lf:=(Array.getElem?_eq_some_iff.1 h.fb).1
  have lt:=(Array.getElem?_eq_some_iff.1 h.tb).1
  obtain ⟨N3,s,h1,h2,h3⟩:=h.n3
  exact ⟨h.sk.below k,(k.block f0 lf).trans h.fb,(k.block t0 lt).trans h.tb,h.ne,h.nf,h.nt,N3,s.below k,h1,h2,h3⟩
theorem Tw2.cells (h : Tw2 N2 W0 w B wv T A b a S hb c d f0 t0 r q) : (w.cell? ⟨f0,0,none⟩ = some (.int .i64 r.1) ∧ w.cell? ⟨f0,1,none⟩ = some (.int .i64 r.2) ∧ w.cell? ⟨t0,0,none⟩ = some (.int .i64 q.1) ∧ w.cell? ⟨t0,1,none⟩ = some (.int .i64 q.2)) ∧ (∀ j,w.frozen? ⟨f0,j,none⟩ = false) ∧ ∀ j,w.frozen? ⟨t0,j,none⟩ = false:=by
  refine ⟨⟨?_,?_,?_,?_⟩,fun j=>?_,fun j=>?_⟩
  · simp only [World.cell?,h.fb];rfl
  · simp only [World.cell?,h.fb];rfl
  · simp only [World.cell?,h.tb];rfl
  · simp only [World.cell?,h.tb];rfl
  · simp [World.frozen?,h.fb]
  · simp [World.frozen?,h.tb]
theorem Tw2.swap (h : Tw2 N2 W0 w B wv T A b a S hb c d f0 t0 r q) : Tw2 N2 W0 ((((w.setCell ⟨f0,0,none⟩ (.int .i64 q.1)).setCell ⟨f0,1,none⟩ (.int .i64 q.2)).setCell ⟨t0,0,none⟩ (.int .i64 r.1)).setCell ⟨t0,1,none⟩ (.int .i64 r.2)) B wv T A b a S hb c d f0 t0 q r:=by
  have x1:=blk_set (j:=0) h.fb (.int .i64 q.1)
  have x2:=blk_set (j:=1) x1 (.int .i64 q.2)
  have lf:=(Array.getElem?_eq_some_iff.1 h.fb).1
  have lt:=(Array.getElem?_eq_some_iff.1 h.tb).1
  have kf : Keep (fun g=>g ≠ f0) w ((w.setCell ⟨f0,0,none⟩ (.int .i64 q.1)).setCell ⟨f0,1,none⟩ (.int .i64 q.2)):=((Keep.refl _ w).set (p:=⟨f0,0,none⟩) (fun z=>z rfl) _).set (p:=⟨f0,1,none⟩) (fun z=>z rfl) _
  have t1:=(kf.block t0 lt (fun z=>h.ne z.symm)).trans h.tb
  generalize (w.setCell ⟨f0,0,none⟩ (.int .i64 q.1)).setCell ⟨f0,1,none⟩ (.int .i64 q.2) = w1 at *
  have y1:=blk_set (j:=0) t1 (.int .i64 r.1)
  have y2:=blk_set (j:=1) y1 (.int .i64 r.2)
  have kt : Keep (fun g=>g ≠ t0) w1 ((w1.setCell ⟨t0,0,none⟩ (.int .i64 r.1)).setCell ⟨t0,1,none⟩ (.int .i64 r.2)):=((Keep.refl _ w1).set (p:=⟨t0,0,none⟩) (fun z=>z rfl) _).set (p:=⟨t0,1,none⟩) (fun z=>z rfl) _
  have lf1:=(Array.getElem?_eq_some_iff.1 x2).1
  have f1:=(kt.block f0 lf1 h.ne).trans x2
  obtain ⟨N3,s,h1,h2,h3⟩:=h.n3
  have kk : ∀ P : Nat → Prop,¬ P f0 → ¬ P t0 → Keep P w ((w1.setCell ⟨t0,0,none⟩ (.int .i64 r.1)).setCell ⟨t0,1,none⟩ (.int .i64 r.2)):=fun P p1 p2=>(kf.sub (fun g z e=>p1 (e ▸ z))).trans (kt.sub (fun g z e=>p2 (e ▸ z)))
  refine ⟨⟨s.out h1 (kk _ (fun z=>z h2) (fun z=>z h3)),h.sk.kp.trans (kk _ h.nf h.nt)⟩,f1,y2,h.ne,h.nf,h.nt,fun g=>N3 g,?_,h1,h2,h3⟩
  exact s.outs (kk _ (fun z=>z h2) (fun z=>z h3))
end Go.Proofs.YtkmopcanaalemabGreat


namespace Go.Proofs.YtkmopcanaalemabGreat
open Go.RowKit
def partT (d4 : SD) : SD × Tol :=
  if d4.1.up - d4.1.i ≤ d4.1.i - d4.1.lo then nrow ({ d4.1 with lo:=d4.1.i + 1,up:=d4.1.up,wt:=(d4.1.lo,d4.1.i - 1) :: d4.1.wt },d4.2)
  else nrow ({ d4.1 with lo:=d4.1.lo,up:=d4.1.i - 1,wt:=(d4.1.i + 1,d4.1.up) :: d4.1.wt },d4.2)
theorem part_eq {d : SD} {v1 v2 : V} (h1 : rdV d (d.1.up - 1) = v1) (h2 : rdV (rdD d (d.1.up - 1)) d.1.i = v2) {d3 : SD} (e3 : ({ d.1 with x:=v1,y:=v2 },(rdD (rdD d (d.1.up - 1)) d.1.i).2) = d3) :
    partR d = if putE d3 (d.1.up - 1) v2 d.1.i v1 ≠ 0 then (endD (d3.1,(putD d3 (d.1.up - 1) v2 d.1.i v1).2) (putE d3 (d.1.up - 1) v2 d.1.i v1),endT (putE d3 (d.1.up - 1) v2 d.1.i v1)) else partT (d3.1,(putD d3 (d.1.up - 1) v2 d.1.i v1).2):=by
  have e1 : (putD d3 (d.1.up - 1) v2 d.1.i v1).1 = d3.1:=by rw [putD_eta]
  have e2 : d3.1.lo = d.1.lo ∧ d3.1.up = d.1.up ∧ d3.1.i = d.1.i:=by rw [← e3];exact ⟨rfl,rfl,rfl⟩
  have e0 : partR d = if putE d3 (d.1.up - 1) v2 d.1.i v1 ≠ 0 then (endD (putD d3 (d.1.up - 1) v2 d.1.i v1) (putE d3 (d.1.up - 1) v2 d.1.i v1),endT (putE d3 (d.1.up - 1) v2 d.1.i v1)) else if d.1.up - d.1.i ≤ d.1.i - d.1.lo then nrow ({ (putD d3 (d.1.up - 1) v2 d.1.i v1).1 with lo:=d.1.i + 1,up:=d.1.up,wt:=(d.1.lo,d.1.i - 1) :: (putD d3 (d.1.up - 1) v2 d.1.i v1).1.wt },(putD d3 (d.1.up - 1) v2 d.1.i v1).2) else nrow ({ (putD d3 (d.1.up - 1) v2 d.1.i v1).1 with lo:=d.1.lo,up:=d.1.i - 1,wt:=(d.1.i + 1,d.1.up) :: (putD d3 (d.1.up - 1) v2 d.1.i v1).1.wt },(putD d3 (d.1.up - 1) v2 d.1.i v1).2):=by
    subst e3 h1 h2
    rfl
  rw [e0,e1]
  unfold partT
  simp only [e2.1,e2.2.1,e2.2.2]
  rfl
end Go.Proofs.YtkmopcanaalemabGreat
