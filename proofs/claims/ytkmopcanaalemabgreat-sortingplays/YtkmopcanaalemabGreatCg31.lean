import Derived.Test.YtkmopcanaalemabGreatCg30
namespace Go.Proofs.YtkmopcanaalemabGreat
open Go.RowKit
theorem rfst_same (l':List (Int×Int)):∀(l:List (Int×Int)) (r:RD),rfst l ({r.1 with rows:=l'},r.2)=rfst l r
 | [],_=>rfl
 | q::l,r=>by
   unfold rfst
   split
   ·rfl
   ·split
    ·rfl
    ·exact rfst_same l' l r
theorem Rk.fin {No N2:Nat→Prop} {w W0 w':World} {B RT G c c':Nat} {rv:Value} {gs:List Nat} {r:RD} (h:Rk N2 W0 w' B RT G c rv gs r) (hn:∀g,No g→N2 g) (k:Keep No w W0) (hc:c≤c'):Ro No w' B RT G c' rv gs r∧Keep No w w':=⟨(h.so.sub hn).more hc,k.trans (h.kp.sub hn)⟩
theorem Rk.fst {N2:Nat→Prop} {W0 w:World} {B RT G c:Nat} {rv:Value} {gs:List Nat} {r:RD} (h:Rk N2 W0 w B RT G c rv gs r) (hc:c≤600000) (hb:Brw r.1.rows):
 Calls Tryz.prog 64 #[.pointer (some ⟨B,0,none⟩)] w fun e w'=>e= .returned (.tuple #[])∧∃rv' gs',Rk N2 W0 w' B RT G (c+2) rv' gs' (rfst r.1.rows r):=
 (rsfirst_any h.so hc hb).mono fun _ _ ⟨q1,⟨rv',gs',q2⟩,q3⟩=>⟨q1,rv',gs',q2,h.kp.trans q3⟩
set_option maxRecDepth 20000 in
set_option maxHeartbeats 4000000 in
theorem rsdone_any {No:Nat→Prop} {w:World} {B RT G c:Nat} {rv:Value} {gs:List Nat} {r:RD} (h:Ro No w B RT G c rv gs r) (hc:c≤600000) {q:Int×Int} {l:List (Int×Int)} (hr:r.1.rows=q::l) (hb:Brw l):
 Calls Tryz.prog 68 #[.pointer (some ⟨B,0,none⟩)] w (RP No w B RT G (c+2) (.tuple #[]) (rdone r)):=by
 obtain ⟨xb,cap,g,gs2,ef,eg,hgB,hcap,hcap2,fx,g0,q0,q1,hnew⟩:=h.last hr
 have c1:w.cell? ⟨B,1,none⟩=some rv:=h.cell (j:=1) rfl
 subst ef eg
 have fB:=h.free
 have HZ:Hid (∀m,Rk No w ((w.drewN m).setCell ⟨B,1,none⟩ (.slice (some ⟨xb,0,none⟩) l.length cap)) B RT G c (.slice (some ⟨xb,0,none⟩) l.length cap) gs2 ({r.1 with rows:=l},r.2)):=fun m=>by
  have kk:Keep (fun x=>x≠B∧x<w.heap.size) w ((w.drewN m).setCell ⟨B,1,none⟩ (.slice (some ⟨xb,0,none⟩) l.length cap)):=(Keep.of (bdrewN w m)).set (p:=⟨B,1,none⟩) (fun q=>q.1 rfl) _
  have b1':=blk_set (j:=1) (h.below (bdrewN w m)).blk (.slice (some ⟨xb,0,none⟩) l.length cap)
  obtain ⟨z1,z2⟩:=hnew _ {r.1 with rows:=l} kk (b1'.trans rfl) rfl
  exact ⟨z1,z2⟩
 have HP:Hid (rdone r=rfst l ({r.1 with rows:=l},r.2)):=by
  show _=_
  unfold rdone
  rw[hr]
  exact (rfst_same l l r).symm
 have HB:Hid (Brw l):=hb
 have hsub:((l.length:Int)+1) - 1=(l.length:Int):=by omega
 have hsubw:IntKind.i64.wrap ((l.length:Int)+1 - 1)=(l.length:Int):=by rw[IntKind.wrap_i64];omega
 have hn0:¬(l.length:Int)<0:=by omega
 have hlast:l.length<l.length+1:=Nat.lt_succ_self _
 unfold RP
 clear h hr hb hnew hgB fx g0 q0 q1
 go_enter Tryz.func68,Tryz.ntmps68
 go_wp2_with fail
 go_cut [] (fun wx=>Hid (Rk No w wx B RT G c (.slice (some ⟨xb,0,none⟩) l.length cap) gs2 ({r.1 with rows:=l},r.2)))
 case first=>
  go_region
  all_goals
   go_wp2_with fail
   go_meet
   exact HZ.out _
 case rest=>
  have C:=hcut.out.fst hc HB.out
  clear HZ c1 fB
  go_wp2_with fail
  refine C.mono ?_;rintro e w2 ⟨rfl,rv',gs',k2⟩
  go_wp2
  first | go_end0 | ((try simp only[Exit.inBlock,Exit.then]);refine bodyPost_ret (results_none rfl _ _ _) rfl ?_)
  rw[HP.out]
  exact ⟨rfl,⟨_,_,k2.so⟩,k2.kp⟩
set_option maxRecDepth 20000 in
set_option maxHeartbeats 4000000 in
theorem rspivot_any {No:Nat→Prop} {w:World} {B RT G c:Nat} {rv:Value} {gs:List Nat} {r:RD} (h:Ro No w B RT G c rv gs r) (hc:c≤500000) (lo up:Int) (h1:-2305843009213693952≤lo∧lo≤2305843009213693952) (h2:-2305843009213693952≤up∧up≤2305843009213693952) (hm:-2305843009213693952≤r.1.m∧r.1.m≤2305843009213693952) {q:Int×Int} {l:List (Int×Int)} (hr:r.1.rows=q::l) (hb:Brw l):
 Calls Tryz.prog 69 #[.pointer (some ⟨B,0,none⟩),.int .i64 lo,.int .i64 up] w (RP No w B RT G (c+18) (.tuple #[]) (rpiv r lo up)):=by
 have K0:Rk No w w B RT G c rv gs r:=⟨h,Keep.refl _ _⟩
 have c15:w.cell? ⟨B,15,none⟩=some (.int .i64 (r.1.er)):=K0.cell (j:=15) rfl
 have c3:w.cell? ⟨B,3,none⟩=some (.int .i64 (r.1.m)):=K0.cell (j:=3) rfl
 unfold RP
 have w1:IntKind.i64.wrap (up - lo)=up - lo:=by rw[IntKind.wrap_i64];omega
 have w2:IntKind.i64.wrap (up - 1)=up - 1:=by rw[IntKind.wrap_i64];omega
 by_cases h0:r.1.er=0
 ·have e0:(r.1.er !=0)=false:=by simpa using h0
  have HE:Hid (r.1.er=0):=h0
  by_cases h3:up - lo=2
  ·have e3:((up - lo)==2)=true:=by simpa using h3
   have HP:Hid (rpiv r lo up=rdone r):=by
    show _=_
    unfold rpiv
    rw[if_neg (show ¬(r.1.er≠0) from fun z=>z h0),if_pos h3]
   have C:=rsdone_any h (by omega) hr hb
   unfold RP at C
   clear h3 h0 h K0
   go_enter Tryz.func69,Tryz.ntmps69
   go_wp2_with fail
   refine C.mono ?_;rintro e w4 ⟨rfl,⟨rv',gs',k2⟩,k3⟩
   go_wp2
   first | go_end0 | ((try simp only[Exit.inBlock,Exit.then]);refine bodyPost_ret (results_none rfl _ _ _) rfl ?_)
   rw[HP.out]
   exact ⟨rfl,⟨_,_,k2.more (by omega)⟩,k3⟩
  ·have e3:((up - lo)==2)=false:=by simpa using h3
   obtain ⟨v,hv⟩:∃x,gtV r r.1.m=x:=⟨_,rfl⟩
   obtain ⟨t2,ht2⟩:∃x,(gtD r r.1.m).2=x:=⟨_,rfl⟩
   obtain ⟨y,hy⟩:∃x,gtV ({r.1 with p:=v},t2) (up - 1)=x:=⟨_,rfl⟩
   obtain ⟨t3,ht3⟩:∃x,(gtD ({r.1 with p:=v},t2) (up - 1)).2=x:=⟨_,rfl⟩
   obtain ⟨r5,hr5⟩:∃x,rput ({r.1 with p:=v},t3) r.1.m y (up - 1) v=x:=⟨_,rfl⟩
   have HP:Hid (rpiv r lo up=rup ({r5.1 with i:=lo,j:=up - 1},r5.2)):=by
    show _=_
    unfold rpiv
    rw[if_neg (show ¬(r.1.er≠0) from fun z=>z h0),if_neg h3]
    subst hr5 hy ht3 hv ht2
    rfl
   have C1:=K0.gt (s:=r.1) (t:=r.2) (by omega) r.1.m (by omega) (by omega) hv ht2
   have HC2:Hid (∀W,Rk No w W B RT G (c+1) rv gs ({r.1 with p:=v},t2)→Calls Tryz.prog 66 #[.pointer (some ⟨B,0,none⟩),.int .i64 (up - 1)] W fun e w'=>e= .returned (.agg #[.int .i64 y.1,.int .i64 y.2.1,.string y.2.2])∧Rk No w w' B RT G (c+1+1) rv gs ({r.1 with p:=v},t3)):=fun W k=>k.gt (by omega) (up - 1) (by omega) (by omega) hy ht3
   have HN0:Hid (∀g,No g→g<w.heap.size):=h.nos
   have HPut:Hid (∀(N2:Nat→Prop) W0 W,Rk N2 W0 W B RT G (c+1+1) rv gs ({r.1 with p:=v},t3)→Calls Tryz.prog 65 #[.pointer (some ⟨B,0,none⟩),.int .i64 r.1.m,.agg #[.int .i64 y.1,.int .i64 y.2.1,.string y.2.2],.int .i64 (up - 1),.agg #[.int .i64 v.1,.int .i64 v.2.1,.string v.2.2]] W fun e w'=>e= .returned (.tuple #[])∧Rk N2 W0 w' B RT G (c+1+1+14) rv gs r5):=fun N2 W0 W k=>by
    have:=rsput_any k.so (by omega) r.1.m (up - 1) y v (by omega) (by omega) (by omega) (by omega)
    rw[hr5] at this
    exact this.mono fun e w' ⟨q1,q2,q3⟩=>⟨q1,q2,k.kp.trans q3⟩
   have HUp:Hid (∀(N2:Nat→Prop) W0 W,Rk N2 W0 W B RT G (c+1+1+14) rv gs ({r5.1 with i:=lo,j:=up - 1},r5.2)→Calls Tryz.prog 70 #[.pointer (some ⟨B,0,none⟩)] W fun e w'=>e= .returned (.tuple #[])∧Rk N2 W0 w' B RT G (c+1+1+14+1) rv gs (rup ({r5.1 with i:=lo,j:=up - 1},r5.2))):=fun N2 W0 W k=>(rsup_any k.so (by omega) (by show _≤lo;omega) (by show lo≤_;omega)).mono fun e w' ⟨q1,q2,q3⟩=>⟨q1,q2,k.kp.trans q3⟩
   clear hr5 hy ht3 hv ht2 h3 h0 h K0 hr hb
   go_enter Tryz.func69,Tryz.ntmps69
   go_wp2_with fail
   refine C1.mono ?_;rintro e w3 ⟨rfl,k3⟩
   have d6:w3.cell? ⟨B,6,none⟩=some (.int .i64 (r.1.p).1):=k3.cell (j:=6) rfl
   have d7:w3.cell? ⟨B,7,none⟩=some (.int .i64 (r.1.p).2.1):=k3.cell (j:=7) rfl
   have d8:w3.cell? ⟨B,8,none⟩=some (.string (r.1.p).2.2):=k3.cell (j:=8) rfl
   have f3:=k3.so.free
   have K4:=k3.st3 6 v {r.1 with p:=v} rfl rfl
   unfold stX at K4
   obtain ⟨W4,hW4⟩:∃W4,((w3.setCell ⟨B,6,none⟩ (.int .i64 v.1)).setCell ⟨B,7,none⟩ (.int .i64 v.2.1)).setCell ⟨B,8,none⟩ (.string v.2.2)=W4:=⟨_,rfl⟩
   rw[hW4] at K4
   have C2:=HC2.out W4 K4
   clear C1 HC2 k3 K4
   go_wp2_with fail
   refine C2.mono ?_;rintro e w5 ⟨rfl,k5⟩
   have B6:=b1 w5 (vb y.1 y.2.1 y.2.2)
   have X6:=Bx.made w5 y
   have s6:=k5.so.news B6
   obtain ⟨W6,hW6⟩:∃W6,w5.alloc (vb y.1 y.2.1 y.2.2)=W6:=⟨_,rfl⟩
   rw[hW6] at B6 X6 s6
   unfold vb at hW6
   obtain ⟨N2,hN2⟩:∃N2,(fun g=>No g∨(w5.heap.size≤g∧g<W6.heap.size))=N2:=⟨_,rfl⟩
   rw[hN2] at s6
   have HN:Hid (∀g,No g→N2 g):=by subst hN2;exact fun g q=>.inl q
   have HKK:Hid (Keep No w W6):=k5.kp.trans (Keep.of B6)
   have K6:Rk N2 W6 W6 B RT G (c+1+1) rv gs ({r.1 with p:=v},t3):=⟨s6,Keep.refl _ _⟩
   have x0:=X6.c0
   have x1:=X6.c1
   have x2:=X6.c2
   have m3:W6.cell? ⟨B,3,none⟩=some (.int .i64 (r.1.m)):=K6.cell (j:=3) rfl
   have m6:W6.cell? ⟨B,6,none⟩=some (.int .i64 (v).1):=K6.cell (j:=6) rfl
   have m7:W6.cell? ⟨B,7,none⟩=some (.int .i64 (v).2.1):=K6.cell (j:=7) rfl
   have m8:W6.cell? ⟨B,8,none⟩=some (.string (v).2.2):=K6.cell (j:=8) rfl
   have C3:=HPut.out N2 W6 W6.drew K6.drew
   clear C2 HPut hN2 s6 B6 X6 k5 K6
   go_wp2_with fail
   refine wp_tail 12 (by kernel_rfl) (by kernel_rfl) ?_
   simp only[List.take_succ_cons,List.take_zero,List.drop_succ_cons,List.drop_zero]
   repeat still_step
   refine wpStill_nil ?_
   go_wp2_with fail
   refine C3.mono ?_;rintro e w7 ⟨rfl,k7⟩
   have n4:w7.cell? ⟨B,4,none⟩=some (.int .i64 (r5.1.i)):=k7.cell (j:=4) rfl
   have n5:w7.cell? ⟨B,5,none⟩=some (.int .i64 (r5.1.j)):=k7.cell (j:=5) rfl
   have f7:=k7.so.free
   have K8:=(k7.st1 4 (.int .i64 lo) {r5.1 with i:=lo} rfl rfl).st1 5 (.int .i64 (up - 1)) {r5.1 with i:=lo,j:=up - 1} rfl rfl
   obtain ⟨W8,hW8⟩:∃W8,(w7.setCell ⟨B,4,none⟩ (.int .i64 lo)).setCell ⟨B,5,none⟩ (.int .i64 (up - 1))=W8:=⟨_,rfl⟩
   rw[hW8] at K8
   have C4:=HUp.out N2 W6 W8 K8
   clear C3 HUp k7 K8
   go_wp2_with fail
   refine C4.mono ?_;rintro e w9 ⟨rfl,k9⟩
   go_wp2
   first | go_end0 | ((try simp only[Exit.inBlock,Exit.then]);refine bodyPost_ret (results_none rfl _ _ _) rfl ?_)
   rw[HP.out]
   have kf:=k9.fin HN.out HKK.out (c':=c+18) (by omega)
   exact ⟨rfl,⟨_,_,kf.1⟩,kf.2⟩
 ·have e0:(r.1.er !=0)=true:=by simpa using h0
  have HP:Hid (rpiv r lo up=r):=by
   show _=_
   unfold rpiv
   rw[if_pos h0]
  have HK:Hid (Ro No w B RT G (c+18) rv gs r):=h.more (by omega)
  clear h0 h K0
  go_enter Tryz.func69,Tryz.ntmps69
  go_wp2
  first | go_end0 | ((try simp only[Exit.inBlock,Exit.then]);refine bodyPost_ret (results_none rfl _ _ _) rfl ?_)
  rw[HP.out]
  exact ⟨rfl,⟨_,_,HK.out⟩,Keep.refl _ _⟩
end Go.Proofs.YtkmopcanaalemabGreat


namespace Go.Proofs.YtkmopcanaalemabGreat
open Go.RowKit
set_option maxRecDepth 20000 in
set_option maxHeartbeats 4000000 in
theorem rson6 {No : Nat → Prop} {w : World} {B RT G c : Nat} {rv : Value} {gs : List Nat} {r : RD} (h : Ro No w B RT G c rv gs r) (hc : c ≤ 400000) (hln : r.1.ln = 6) (her : r.1.er = 0) {q : Int × Int} {l : List (Int × Int)} (hr : r.1.rows = q :: l) (hb : Brw l) (hq : -2305843009213693952 ≤ q.1 ∧ q.1 < q.2 ∧ q.2 ≤ 2305843009213693952) (_ : -2305843009213693952 ≤ r.1.m ∧ r.1.m ≤ 2305843009213693952) (hi : -2305843009213693952 ≤ r.1.i ∧ r.1.i ≤ 2305843009213693952) (hj : -2305843009213693952 ≤ r.1.j ∧ r.1.j ≤ 2305843009213693952) (less : Bool) :
    Calls Tryz.prog 29 #[.pointer (some ⟨B,0,none⟩),.bool less] w (RP No w B RT G (c + 40) (.tuple #[]) (ron6 r less q.2)):=by
  obtain ⟨xb,cap,g,gs2,ef,eg,hgB,hcap,hcap2,fx,g0,q0,q1,hnew⟩:=h.last hr
  subst ef eg
  have K0 : Rk No w (w) B RT G c (.slice (some ⟨xb,0,none⟩) (l.length + 1) cap) (g :: gs2) r:=⟨h,Keep.refl _ _⟩
  have c1 : w.cell? ⟨B,1,none⟩ = some (.slice (some ⟨xb,0,none⟩) (l.length + 1) cap):=K0.cell (j:=1) rfl
  have c2 : w.cell? ⟨B,2,none⟩ = some (.int .i64 6):=by rw [← hln];exact K0.cell (j:=2) rfl
  have hsub : ((l.length : Int) + 1) - 1 = (l.length : Int):=by omega
  have hsubw : IntKind.i64.wrap ((l.length : Int) + 1 - 1) = (l.length : Int):=by rw [IntKind.wrap_i64];omega
  have hlast : l.length < l.length + 1:=Nat.lt_succ_self _
  have hn0 : ¬ (l.length : Int) < 0:=by omega
  have hlt1 : (l.length : Int) < (l.length : Int) + 1:=by omega
  have f0:=K0.so.free
  have HK0 : Hid (Rk No w (w) B RT G c (.slice (some ⟨xb,0,none⟩) (l.length + 1) cap) (g :: gs2) r):=K0
  have HR : Hid (r.1.rows = q :: l ∧ Brw l):=⟨hr,hb⟩
  have HE : Hid (r.1.er = 0):=her
  cases less with
  | false =>
    have wj : IntKind.i64.wrap (r.1.j - 1) = r.1.j - 1:=by rw [IntKind.wrap_i64];omega
    have c5 : w.cell? ⟨B,5,none⟩ = some (.int .i64 (r.1.j)):=K0.cell (j:=5) rfl
    obtain ⟨y,hy⟩ : ∃ x,gtV ({ r.1 with j:=r.1.j - 1 },r.2) (r.1.j - 1) = x:=⟨_,rfl⟩
    obtain ⟨t2,ht2⟩ : ∃ x,(gtD ({ r.1 with j:=r.1.j - 1 },r.2) (r.1.j - 1)).2 = x:=⟨_,rfl⟩
    have HC1 : Hid (∀ m,Calls Tryz.prog 66 #[.pointer (some ⟨B,0,none⟩),.int .i64 (r.1.j - 1)] ((w.drewN m).setCell ⟨B,5,none⟩ (.int .i64 (r.1.j - 1))) fun e w'=>e = .returned (.agg #[.int .i64 y.1,.int .i64 y.2.1,.string y.2.2]) ∧ Rk No w (w') B RT G (c + 1) (.slice (some ⟨xb,0,none⟩) (l.length + 1) cap) (g :: gs2) ({ r.1 with j:=r.1.j - 1 },t2)):=fun m=>((HK0.out.drewN m).st1 5 (.int .i64 (r.1.j - 1)) { r.1 with j:=r.1.j - 1 } rfl rfl).gt (by omega) (r.1.j - 1) (by omega) (by omega) hy ht2
    have HP : Hid (ron6 r false q.2 = rask ({ r.1 with j:=r.1.j - 1,y:=y },t2) 7 r.1.p y):=by
      show _ = _
      unfold ron6
      rw [if_pos (show false ≠ true from fun z=>by cases z)]
      unfold rdown
      subst hy ht2
      rfl
    clear hy ht2
    clear hnew hr hb h K0 hln her
    unfold RP
    go_enter Tryz.func29,Tryz.ntmps29
    go_wp2_with fail
    go_quiet (fail)
    go_wp2_with fail
    refine (HC1.out _).mono ?_;rintro e w3 ⟨rfl,k3⟩
    have d12 : w3.cell? ⟨B,12,none⟩ = some (.int .i64 (r.1.y).1):=k3.cell (j:=12) rfl
    have d13 : w3.cell? ⟨B,13,none⟩ = some (.int .i64 (r.1.y).2.1):=k3.cell (j:=13) rfl
    have d14 : w3.cell? ⟨B,14,none⟩ = some (.string (r.1.y).2.2):=k3.cell (j:=14) rfl
    have f3:=k3.so.free
    have K4:=k3.st3 12 y { r.1 with j:=r.1.j - 1,y:=y } rfl rfl
    unfold stX at K4
    obtain ⟨W4,hW4⟩ : ∃ W,(((w3).setCell ⟨B,12,none⟩ (.int .i64 y.1)).setCell ⟨B,13,none⟩ (.int .i64 y.2.1)).setCell ⟨B,14,none⟩ (.string y.2.2) = W:=⟨_,rfl⟩
    rw [hW4] at K4
    have m6 : W4.cell? ⟨B,6,none⟩ = some (.int .i64 (r.1.p).1):=K4.cell (j:=6) rfl
    have m7 : W4.cell? ⟨B,7,none⟩ = some (.int .i64 (r.1.p).2.1):=K4.cell (j:=7) rfl
    have m8 : W4.cell? ⟨B,8,none⟩ = some (.string (r.1.p).2.2):=K4.cell (j:=8) rfl
    have m12 : W4.cell? ⟨B,12,none⟩ = some (.int .i64 (y).1):=K4.cell (j:=12) rfl
    have m13 : W4.cell? ⟨B,13,none⟩ = some (.int .i64 (y).2.1):=K4.cell (j:=13) rfl
    have m14 : W4.cell? ⟨B,14,none⟩ = some (.string (y).2.2):=K4.cell (j:=14) rfl
    have CA:=K4.aq 7 r.1.p y
    clear HC1 k3 K4
    go_wp2_with fail
    refine wp_tail 9 (by kernel_rfl) (by kernel_rfl) ?_
    simp only [List.take_succ_cons,List.take_zero,List.drop_succ_cons,List.drop_zero]
    repeat still_step
    refine wpStill_nil ?_
    go_wp2_with fail
    refine CA.mono ?_;rintro e w6 ⟨rfl,k6⟩
    go_wp2
    first | go_end0 | ((try simp only [Exit.inBlock,Exit.then]);refine bodyPost_ret (results_none rfl _ _ _) rfl ?_)
    rw [HP.out]
    exact ⟨rfl,⟨_,_,k6.so.more (by omega)⟩,k6.kp⟩
  | true =>
    have c4 : w.cell? ⟨B,4,none⟩ = some (.int .i64 r.1.i):=K0.cell (j:=4) rfl
    have c15 : w.cell? ⟨B,15,none⟩ = some (.int .i64 r.1.er):=K0.cell (j:=15) rfl
    have wu : IntKind.i64.wrap (q.2 - 1) = q.2 - 1:=by rw [IntKind.wrap_i64];omega
    by_cases h5 : r.1.i = q.2 - 1
    · have e5 : (r.1.i == q.2 - 1) = true:=by simpa using h5
      have HP : Hid (ron6 r true q.2 = ({ r.1 with er:=15 },r.2)):=by
        show _ = _
        unfold ron6
        rw [if_neg (show ¬ (true ≠ true) from fun z=>z rfl),if_pos h5]
      have HZ : Hid (∀ m,Rk No w ((w.drewN m).setCell ⟨B,15,none⟩ (.int .i64 15)) B RT G c (.slice (some ⟨xb,0,none⟩) (l.length + 1) cap) (g :: gs2) ({ r.1 with er:=15 },r.2)):=fun m=>(HK0.out.drewN m).st1 15 (.int .i64 15) { r.1 with er:=15 } rfl rfl
      clear h5 hnew hr hb h K0 hln her
      unfold RP
      go_enter Tryz.func29,Tryz.ntmps29
      go_wp2_with fail
      go_quiet (fail)
      go_wp2
      first | go_end0 | ((try simp only [Exit.inBlock,Exit.then]);refine bodyPost_ret (results_none rfl _ _ _) rfl ?_)
      rw [HP.out]
      exact ⟨rfl,⟨_,_,(HZ.out _).so.more (by omega)⟩,(HZ.out _).kp⟩
    · have e5 : (r.1.i == q.2 - 1) = false:=by simpa using h5
      have HP : Hid (ron6 r true q.2 = rup r):=by
        show _ = _
        unfold ron6
        rw [if_neg (show ¬ (true ≠ true) from fun z=>z rfl),if_neg h5]
      have HU : Hid (∀ m,Calls Tryz.prog 70 #[.pointer (some ⟨B,0,none⟩)] (w.drewN m) fun e w'=>e = .returned (.tuple #[]) ∧ Rk No w (w') B RT G (c + 1) (.slice (some ⟨xb,0,none⟩) (l.length + 1) cap) (g :: gs2) (rup r)):=fun m=>(rsup_any (HK0.out.drewN m).so (by omega) (by omega) (by omega)).mono fun e w' ⟨q1,q2,q3⟩=>⟨q1,q2,(HK0.out.drewN m).kp.trans q3⟩
      clear h5 hnew hr hb h K0 hln her
      unfold RP
      go_enter Tryz.func29,Tryz.ntmps29
      go_wp2_with fail
      go_quiet (fail)
      go_wp2_with fail
      refine (HU.out _).mono ?_;rintro e w3 ⟨rfl,k3⟩
      go_wp2
      first | go_end0 | ((try simp only [Exit.inBlock,Exit.then]);refine bodyPost_ret (results_none rfl _ _ _) rfl ?_)
      rw [HP.out]
      exact ⟨rfl,⟨_,_,k3.so.more (by omega)⟩,k3.kp⟩
end Go.Proofs.YtkmopcanaalemabGreat


namespace Go.Proofs.YtkmopcanaalemabGreat
open Go.RowKit
theorem rput_keeps (r:RD) (a:Int) (v:V) (b:Int) (u:V):(rput r a v b u).1.rows=r.1.rows∧(rput r a v b u).1.m=r.1.m∧(rput r a v b u).1.i=r.1.i∧(rput r a v b u).1.j=r.1.j:=by
 unfold rput
 split<;>exact ⟨rfl,rfl,rfl,rfl⟩
set_option maxRecDepth 20000 in
set_option maxHeartbeats 4000000 in
theorem rson3 {No:Nat→Prop} {w:World} {B RT G c:Nat} {rv:Value} {gs:List Nat} {r:RD} (h:Ro No w B RT G c rv gs r) (hc:c≤400000) (hln:r.1.ln=3) (her:r.1.er=0) {q:Int×Int} {l:List (Int×Int)} (hr:r.1.rows=q::l) (hb:Brw l) (hq:-2305843009213693952≤q.1∧q.1<q.2∧q.2≤2305843009213693952) (hm:-2305843009213693952≤r.1.m∧r.1.m≤2305843009213693952) (_:-2305843009213693952≤r.1.i∧r.1.i≤2305843009213693952) (_:-2305843009213693952≤r.1.j∧r.1.j≤2305843009213693952) (less:Bool):
 Calls Tryz.prog 29 #[.pointer (some ⟨B,0,none⟩),.bool less] w (RP No w B RT G (c+40) (.tuple #[]) (ron3 r less q.1 q.2)):=by
 obtain ⟨xb,cap,g,gs2,ef,eg,hgB,hcap,hcap2,fx,g0,q0,q1,hnew⟩:=h.last hr
 subst ef eg
 have K0:Rk No w (w) B RT G c (.slice (some ⟨xb,0,none⟩) (l.length+1) cap) (g::gs2) r:=⟨h,Keep.refl _ _⟩
 have c1:w.cell? ⟨B,1,none⟩=some (.slice (some ⟨xb,0,none⟩) (l.length+1) cap):=K0.cell (j:=1) rfl
 have c2:w.cell? ⟨B,2,none⟩=some (.int .i64 3):=by rw[←hln];exact K0.cell (j:=2) rfl
 have hsub:((l.length:Int)+1) - 1=(l.length:Int):=by omega
 have hsubw:IntKind.i64.wrap ((l.length:Int)+1 - 1)=(l.length:Int):=by rw[IntKind.wrap_i64];omega
 have hlast:l.length<l.length+1:=Nat.lt_succ_self _
 have hn0:¬(l.length:Int)<0:=by omega
 have hlt1:(l.length:Int)<(l.length:Int)+1:=by omega
 have f0:=K0.so.free
 have HK0:Hid (Rk No w (w) B RT G c (.slice (some ⟨xb,0,none⟩) (l.length+1) cap) (g::gs2) r):=K0
 have HR:Hid (r.1.rows=q::l∧Brw l):=⟨hr,hb⟩
 have HE:Hid (r.1.er=0):=her
 cases less with
 | true=>
   have c3:w.cell? ⟨B,3,none⟩=some (.int .i64 (r.1.m)):=K0.cell (j:=3) rfl
   have c9:w.cell? ⟨B,9,none⟩=some (.int .i64 (r.1.x).1):=K0.cell (j:=9) rfl
   have c10:w.cell? ⟨B,10,none⟩=some (.int .i64 (r.1.x).2.1):=K0.cell (j:=10) rfl
   have c11:w.cell? ⟨B,11,none⟩=some (.string (r.1.x).2.2):=K0.cell (j:=11) rfl
   have c12:w.cell? ⟨B,12,none⟩=some (.int .i64 (r.1.y).1):=K0.cell (j:=12) rfl
   have c13:w.cell? ⟨B,13,none⟩=some (.int .i64 (r.1.y).2.1):=K0.cell (j:=13) rfl
   have c14:w.cell? ⟨B,14,none⟩=some (.string (r.1.y).2.2):=K0.cell (j:=14) rfl
   obtain ⟨r5,hr5⟩:∃x,rput r (r.1.m) r.1.y (q.1) r.1.x=x:=⟨_,rfl⟩
   have HPut:Hid (∀W,Rk No w (W) B RT G c (.slice (some ⟨xb,0,none⟩) (l.length+1) cap) (g::gs2) r→Calls Tryz.prog 65 #[.pointer (some ⟨B,0,none⟩),.int .i64 (r.1.m),.agg #[.int .i64 r.1.y.1,.int .i64 r.1.y.2.1,.string r.1.y.2.2],.int .i64 (q.1),.agg #[.int .i64 r.1.x.1,.int .i64 r.1.x.2.1,.string r.1.x.2.2]] W fun e w'=>e= .returned (.tuple #[])∧Rk No w (w') B RT G (c+14) (.slice (some ⟨xb,0,none⟩) (l.length+1) cap) (g::gs2) r5):=fun W k=>by
    have:=rsput_any k.so (by omega) (r.1.m) (q.1) r.1.y r.1.x (by omega) (by omega) (by omega) (by omega)
    rw[hr5] at this
    exact this.mono fun e w' ⟨q1,q2,q3⟩=>⟨q1,q2,k.kp.trans q3⟩
   have H5:Hid (r5.1.rows=q::l∧r5.1.m=r.1.m∧r5.1.i=r.1.i∧r5.1.j=r.1.j):=by
    subst hr5
    have e:=rput_keeps r (r.1.m) r.1.y (q.1) r.1.x
    exact ⟨e.1.trans hr,e.2.1,e.2.2.1,e.2.2.2⟩
   have HPiv:Hid (∀W,Rk No w (W) B RT G (c+14) (.slice (some ⟨xb,0,none⟩) (l.length+1) cap) (g::gs2) r5→Calls Tryz.prog 69 #[.pointer (some ⟨B,0,none⟩),.int .i64 q.1,.int .i64 q.2] W fun e w'=>e= .returned (.tuple #[])∧∃rv' gs',Rk No w w' B RT G ((c+14)+18) rv' gs' (rpiv r5 q.1 q.2)):=fun W k=>by
    have C:=rspivot_any k.so (by omega) q.1 q.2 (by omega) (by omega) (by rw[H5.out.2.1];exact hm) H5.out.1 HR.out.2
    exact C.mono fun e w' ⟨z1,⟨rv',gs',z2⟩,z3⟩=>⟨z1,rv',gs',z2,k.kp.trans z3⟩
   have HP:Hid (ron3 r true q.1 q.2=rpiv r5 q.1 q.2):=by
    show _=_
    unfold ron3
    rw[if_pos rfl,hr5]
   clear hr5 hnew hr hb h K0 hln her
   unfold RP
   go_enter Tryz.func29,Tryz.ntmps29
   go_wp2_with fail
   go_quiet (fail)
   go_wp2_with fail
   refine wp_tail 14 (by kernel_rfl) (by kernel_rfl) ?_
   simp only[List.take_succ_cons,List.take_zero,List.drop_succ_cons,List.drop_zero]
   repeat still_step
   refine wpStill_nil ?_
   go_wp2_with fail
   refine (HPut.out _ (HK0.out.below (Below.drew (bdrewN w _)))).mono ?_;rintro e w3 ⟨rfl,k3⟩
   have C4:=HPiv.out w3 k3
   clear HPut k3 HPiv
   go_wp2_with fail
   refine C4.mono ?_;rintro e w4 ⟨rfl,rv4,gs4,k4⟩
   go_wp2
   first | go_end0 | ((try simp only[Exit.inBlock,Exit.then]);refine bodyPost_ret (results_none rfl _ _ _) rfl ?_)
   rw[HP.out]
   exact ⟨rfl,⟨_,_,k4.so.more (by omega)⟩,k4.kp⟩
 | false=>
   have c9:w.cell? ⟨B,9,none⟩=some (.int .i64 (r.1.x).1):=K0.cell (j:=9) rfl
   have c10:w.cell? ⟨B,10,none⟩=some (.int .i64 (r.1.x).2.1):=K0.cell (j:=10) rfl
   have c11:w.cell? ⟨B,11,none⟩=some (.string (r.1.x).2.2):=K0.cell (j:=11) rfl
   have c12:w.cell? ⟨B,12,none⟩=some (.int .i64 (r.1.y).1):=K0.cell (j:=12) rfl
   have c13:w.cell? ⟨B,13,none⟩=some (.int .i64 (r.1.y).2.1):=K0.cell (j:=13) rfl
   have c14:w.cell? ⟨B,14,none⟩=some (.string (r.1.y).2.2):=K0.cell (j:=14) rfl
   obtain ⟨y,hy⟩:∃x,gtV r q.2=x:=⟨_,rfl⟩
   obtain ⟨t2,ht2⟩:∃x,(gtD r q.2).2=x:=⟨_,rfl⟩
   have HC1:Hid (∀m,Calls Tryz.prog 66 #[.pointer (some ⟨B,0,none⟩),.int .i64 q.2] (w.drewN m) fun e w'=>e= .returned (.agg #[.int .i64 y.1,.int .i64 y.2.1,.string y.2.2])∧Rk No w (w') B RT G (c+1) (.slice (some ⟨xb,0,none⟩) (l.length+1) cap) (g::gs2) (r.1,t2)):=fun m=>Rk.gt (s:=r.1) (t:=r.2) (HK0.out.drewN m) (by omega) q.2 (by omega) (by omega) hy ht2
   have HP:Hid (ron3 r false q.1 q.2=rask ({r.1 with y:=y},t2) 4 y r.1.x):=by
    show _=_
    unfold ron3
    rw[if_neg (show ¬(false=true) from fun z=>by cases z)]
    subst hy ht2
    rfl
   clear hy ht2 hnew hr hb h K0 hln her
   unfold RP
   go_enter Tryz.func29,Tryz.ntmps29
   go_wp2_with fail
   go_quiet (fail)
   go_wp2_with fail
   refine (HC1.out _).mono ?_;rintro e w3 ⟨rfl,k3⟩
   have d12:w3.cell? ⟨B,12,none⟩=some (.int .i64 (r.1.y).1):=k3.cell (j:=12) rfl
   have d13:w3.cell? ⟨B,13,none⟩=some (.int .i64 (r.1.y).2.1):=k3.cell (j:=13) rfl
   have d14:w3.cell? ⟨B,14,none⟩=some (.string (r.1.y).2.2):=k3.cell (j:=14) rfl
   have f3:=k3.so.free
   have K4:=k3.st3 12 y {r.1 with y:=y} rfl rfl
   unfold stX at K4
   obtain ⟨W4,hW4⟩:∃W,(((w3).setCell ⟨B,12,none⟩ (.int .i64 y.1)).setCell ⟨B,13,none⟩ (.int .i64 y.2.1)).setCell ⟨B,14,none⟩ (.string y.2.2)=W:=⟨_,rfl⟩
   rw[hW4] at K4
   have m9:W4.cell? ⟨B,9,none⟩=some (.int .i64 (r.1.x).1):=K4.cell (j:=9) rfl
   have m10:W4.cell? ⟨B,10,none⟩=some (.int .i64 (r.1.x).2.1):=K4.cell (j:=10) rfl
   have m11:W4.cell? ⟨B,11,none⟩=some (.string (r.1.x).2.2):=K4.cell (j:=11) rfl
   have m12:W4.cell? ⟨B,12,none⟩=some (.int .i64 (y).1):=K4.cell (j:=12) rfl
   have m13:W4.cell? ⟨B,13,none⟩=some (.int .i64 (y).2.1):=K4.cell (j:=13) rfl
   have m14:W4.cell? ⟨B,14,none⟩=some (.string (y).2.2):=K4.cell (j:=14) rfl
   have CA:=K4.aq 4 y r.1.x
   clear HC1 k3 K4
   go_wp2_with fail
   refine wp_tail 9 (by kernel_rfl) (by kernel_rfl) ?_
   simp only[List.take_succ_cons,List.take_zero,List.drop_succ_cons,List.drop_zero]
   repeat still_step
   refine wpStill_nil ?_
   go_wp2_with fail
   refine CA.mono ?_;rintro e w6 ⟨rfl,k6⟩
   go_wp2
   first | go_end0 | ((try simp only[Exit.inBlock,Exit.then]);refine bodyPost_ret (results_none rfl _ _ _) rfl ?_)
   rw[HP.out]
   exact ⟨rfl,⟨_,_,k6.so.more (by omega)⟩,k6.kp⟩
set_option maxRecDepth 20000 in
set_option maxHeartbeats 4000000 in
theorem rson4 {No:Nat→Prop} {w:World} {B RT G c:Nat} {rv:Value} {gs:List Nat} {r:RD} (h:Ro No w B RT G c rv gs r) (hc:c≤400000) (hln:r.1.ln=4) (her:r.1.er=0) {q:Int×Int} {l:List (Int×Int)} (hr:r.1.rows=q::l) (hb:Brw l) (hq:-2305843009213693952≤q.1∧q.1<q.2∧q.2≤2305843009213693952) (hm:-2305843009213693952≤r.1.m∧r.1.m≤2305843009213693952) (_:-2305843009213693952≤r.1.i∧r.1.i≤2305843009213693952) (_:-2305843009213693952≤r.1.j∧r.1.j≤2305843009213693952) (less:Bool):
 Calls Tryz.prog 29 #[.pointer (some ⟨B,0,none⟩),.bool less] w (RP No w B RT G (c+40) (.tuple #[]) (ron4 r less q.1 q.2)):=by
 obtain ⟨xb,cap,g,gs2,ef,eg,hgB,hcap,hcap2,fx,g0,q0,q1,hnew⟩:=h.last hr
 subst ef eg
 have K0:Rk No w (w) B RT G c (.slice (some ⟨xb,0,none⟩) (l.length+1) cap) (g::gs2) r:=⟨h,Keep.refl _ _⟩
 have c1:w.cell? ⟨B,1,none⟩=some (.slice (some ⟨xb,0,none⟩) (l.length+1) cap):=K0.cell (j:=1) rfl
 have c2:w.cell? ⟨B,2,none⟩=some (.int .i64 4):=by rw[←hln];exact K0.cell (j:=2) rfl
 have hsub:((l.length:Int)+1) - 1=(l.length:Int):=by omega
 have hsubw:IntKind.i64.wrap ((l.length:Int)+1 - 1)=(l.length:Int):=by rw[IntKind.wrap_i64];omega
 have hlast:l.length<l.length+1:=Nat.lt_succ_self _
 have hn0:¬(l.length:Int)<0:=by omega
 have hlt1:(l.length:Int)<(l.length:Int)+1:=by omega
 have f0:=K0.so.free
 have HK0:Hid (Rk No w (w) B RT G c (.slice (some ⟨xb,0,none⟩) (l.length+1) cap) (g::gs2) r):=K0
 have HR:Hid (r.1.rows=q::l∧Brw l):=⟨hr,hb⟩
 have HE:Hid (r.1.er=0):=her
 cases less with
 | true=>
   have c3:w.cell? ⟨B,3,none⟩=some (.int .i64 (r.1.m)):=K0.cell (j:=3) rfl
   have c9:w.cell? ⟨B,9,none⟩=some (.int .i64 (r.1.x).1):=K0.cell (j:=9) rfl
   have c10:w.cell? ⟨B,10,none⟩=some (.int .i64 (r.1.x).2.1):=K0.cell (j:=10) rfl
   have c11:w.cell? ⟨B,11,none⟩=some (.string (r.1.x).2.2):=K0.cell (j:=11) rfl
   have c12:w.cell? ⟨B,12,none⟩=some (.int .i64 (r.1.y).1):=K0.cell (j:=12) rfl
   have c13:w.cell? ⟨B,13,none⟩=some (.int .i64 (r.1.y).2.1):=K0.cell (j:=13) rfl
   have c14:w.cell? ⟨B,14,none⟩=some (.string (r.1.y).2.2):=K0.cell (j:=14) rfl
   obtain ⟨r5,hr5⟩:∃x,rput r (r.1.m) r.1.y (q.2) r.1.x=x:=⟨_,rfl⟩
   have HPut:Hid (∀W,Rk No w (W) B RT G c (.slice (some ⟨xb,0,none⟩) (l.length+1) cap) (g::gs2) r→Calls Tryz.prog 65 #[.pointer (some ⟨B,0,none⟩),.int .i64 (r.1.m),.agg #[.int .i64 r.1.y.1,.int .i64 r.1.y.2.1,.string r.1.y.2.2],.int .i64 (q.2),.agg #[.int .i64 r.1.x.1,.int .i64 r.1.x.2.1,.string r.1.x.2.2]] W fun e w'=>e= .returned (.tuple #[])∧Rk No w (w') B RT G (c+14) (.slice (some ⟨xb,0,none⟩) (l.length+1) cap) (g::gs2) r5):=fun W k=>by
    have:=rsput_any k.so (by omega) (r.1.m) (q.2) r.1.y r.1.x (by omega) (by omega) (by omega) (by omega)
    rw[hr5] at this
    exact this.mono fun e w' ⟨q1,q2,q3⟩=>⟨q1,q2,k.kp.trans q3⟩
   have H5:Hid (r5.1.rows=q::l∧r5.1.m=r.1.m∧r5.1.i=r.1.i∧r5.1.j=r.1.j):=by
    subst hr5
    have e:=rput_keeps r (r.1.m) r.1.y (q.2) r.1.x
    exact ⟨e.1.trans hr,e.2.1,e.2.2.1,e.2.2.2⟩
   have HPiv:Hid (∀W,Rk No w (W) B RT G (c+14) (.slice (some ⟨xb,0,none⟩) (l.length+1) cap) (g::gs2) r5→Calls Tryz.prog 69 #[.pointer (some ⟨B,0,none⟩),.int .i64 q.1,.int .i64 q.2] W fun e w'=>e= .returned (.tuple #[])∧∃rv' gs',Rk No w w' B RT G ((c+14)+18) rv' gs' (rpiv r5 q.1 q.2)):=fun W k=>by
    have C:=rspivot_any k.so (by omega) q.1 q.2 (by omega) (by omega) (by rw[H5.out.2.1];exact hm) H5.out.1 HR.out.2
    exact C.mono fun e w' ⟨z1,⟨rv',gs',z2⟩,z3⟩=>⟨z1,rv',gs',z2,k.kp.trans z3⟩
   have HP:Hid (ron4 r true q.1 q.2=rpiv r5 q.1 q.2):=by
    show _=_
    unfold ron4
    rw[if_pos rfl,hr5]
   clear hr5 hnew hr hb h K0 hln her
   unfold RP
   go_enter Tryz.func29,Tryz.ntmps29
   go_wp2_with fail
   go_quiet (fail)
   go_wp2_with fail
   refine wp_tail 14 (by kernel_rfl) (by kernel_rfl) ?_
   simp only[List.take_succ_cons,List.take_zero,List.drop_succ_cons,List.drop_zero]
   repeat still_step
   refine wpStill_nil ?_
   go_wp2_with fail
   refine (HPut.out _ (HK0.out.below (Below.drew (bdrewN w _)))).mono ?_;rintro e w3 ⟨rfl,k3⟩
   have C4:=HPiv.out w3 k3
   clear HPut k3 HPiv
   go_wp2_with fail
   refine C4.mono ?_;rintro e w4 ⟨rfl,rv4,gs4,k4⟩
   go_wp2
   first | go_end0 | ((try simp only[Exit.inBlock,Exit.then]);refine bodyPost_ret (results_none rfl _ _ _) rfl ?_)
   rw[HP.out]
   exact ⟨rfl,⟨_,_,k4.so.more (by omega)⟩,k4.kp⟩
 | false=>
   have HPiv:Hid (∀m,Calls Tryz.prog 69 #[.pointer (some ⟨B,0,none⟩),.int .i64 q.1,.int .i64 q.2] (w.drewN m) fun e w'=>e= .returned (.tuple #[])∧∃rv' gs',Rk No w w' B RT G (c+18) rv' gs' (rpiv r q.1 q.2)):=fun m=>by
    have C:=rspivot_any (HK0.out.drewN m).so (by omega) q.1 q.2 (by omega) (by omega) hm hr HR.out.2
    exact C.mono fun e w' ⟨z1,⟨rv',gs',z2⟩,z3⟩=>⟨z1,rv',gs',z2,(HK0.out.drewN m).kp.trans z3⟩
   have HP:Hid (ron4 r false q.1 q.2=rpiv r q.1 q.2):=by
    show _=_
    unfold ron4
    rw[if_neg (show ¬(false=true) from fun z=>by cases z)]
   clear hnew hr hb h K0 hln her
   unfold RP
   go_enter Tryz.func29,Tryz.ntmps29
   go_wp2_with fail
   go_quiet (fail)
   go_wp2_with fail
   refine (HPiv.out _).mono ?_;rintro e w4 ⟨rfl,rv4,gs4,k4⟩
   go_wp2
   first | go_end0 | ((try simp only[Exit.inBlock,Exit.then]);refine bodyPost_ret (results_none rfl _ _ _) rfl ?_)
   rw[HP.out]
   exact ⟨rfl,⟨_,_,k4.so.more (by omega)⟩,k4.kp⟩
end Go.Proofs.YtkmopcanaalemabGreat
