import Derived.Test.YtkmopcanaalemabGreatCg31
namespace Go.Proofs.YtkmopcanaalemabGreat
open Go.RowKit
set_option maxRecDepth 20000 in
set_option maxHeartbeats 4000000 in
theorem rson7a {No:Nat→Prop} {w:World} {B RT G c:Nat} {rv:Value} {gs:List Nat} {r:RD} (h:Ro No w B RT G c rv gs r) (_:c≤400000) (hln:r.1.ln=7) (her:r.1.er=0) {q:Int×Int} {l:List (Int×Int)} (hr:r.1.rows=q::l) (hb:Brw l) (_:-2305843009213693952≤q.1∧q.1<q.2∧q.2≤2305843009213693952) (_:-2305843009213693952≤r.1.m∧r.1.m≤2305843009213693952) (_:-2305843009213693952≤r.1.i∧r.1.i≤2305843009213693952) (_:-2305843009213693952≤r.1.j∧r.1.j≤2305843009213693952) (hji:r.1.j<r.1.i):
 Calls Tryz.prog 29 #[.pointer (some ⟨B,0,none⟩),.bool true] w (RP No w B RT G (c+40) (.tuple #[]) ({r.1 with er:=15},r.2)):=by
 obtain ⟨xb,cap,g,gs2,ef,eg,hgB,hcap,hcap2,fx,g0,q0,q1,hnew⟩:=h.last hr
 subst ef eg
 have K0:Rk No w (w) B RT G c (.slice (some ⟨xb,0,none⟩) (l.length+1) cap) (g::gs2) r:=⟨h,Keep.refl _ _⟩
 have c1:w.cell? ⟨B,1,none⟩=some (.slice (some ⟨xb,0,none⟩) (l.length+1) cap):=K0.cell (j:=1) rfl
 have c2:w.cell? ⟨B,2,none⟩=some (.int .i64 7):=by rw[←hln];exact K0.cell (j:=2) rfl
 have hsub:((l.length:Int)+1) - 1=(l.length:Int):=by omega
 have hsubw:IntKind.i64.wrap ((l.length:Int)+1 - 1)=(l.length:Int):=by rw[IntKind.wrap_i64];omega
 have hlast:l.length<l.length+1:=Nat.lt_succ_self _
 have hn0:¬(l.length:Int)<0:=by omega
 have hlt1:(l.length:Int)<(l.length:Int)+1:=by omega
 have f0:=K0.so.free
 have HK0:Hid (Rk No w (w) B RT G c (.slice (some ⟨xb,0,none⟩) (l.length+1) cap) (g::gs2) r):=K0
 have HR:Hid (r.1.rows=q::l∧Brw l):=⟨hr,hb⟩
 have HE:Hid (r.1.er=0):=her
 have c15:w.cell? ⟨B,15,none⟩=some (.int .i64 (r.1.er)):=K0.cell (j:=15) rfl
 have c4:w.cell? ⟨B,4,none⟩=some (.int .i64 (r.1.i)):=K0.cell (j:=4) rfl
 have c5:w.cell? ⟨B,5,none⟩=some (.int .i64 (r.1.j)):=K0.cell (j:=5) rfl
 have HZ:Hid (∀m,Rk No w ((w.drewN m).setCell ⟨B,15,none⟩ (.int .i64 15)) B RT G c (.slice (some ⟨xb,0,none⟩) (l.length+1) cap) (g::gs2) ({r.1 with er:=15},r.2)):=fun m=>(HK0.out.drewN m).st1 15 (.int .i64 15) {r.1 with er:=15} rfl rfl
 clear hnew hr hb h K0 hln her
 unfold RP
 go_enter Tryz.func29,Tryz.ntmps29
 go_wp2_with fail
 go_quiet (fail)
 go_wp2_with fail
 go_quiet (fail)
 go_wp2
 first | go_end0 | ((try simp only[Exit.inBlock,Exit.then]);refine bodyPost_ret (results_none rfl _ _ _) rfl ?_)
 exact ⟨rfl,⟨_,_,(HZ.out _).so.more (by omega)⟩,(HZ.out _).kp⟩
set_option maxRecDepth 20000 in
set_option maxHeartbeats 4000000 in
theorem rson7b {No:Nat→Prop} {w:World} {B RT G c:Nat} {rv:Value} {gs:List Nat} {r:RD} (h:Ro No w B RT G c rv gs r) (hc:c≤400000) (hln:r.1.ln=7) (her:r.1.er=0) {q:Int×Int} {l:List (Int×Int)} (hr:r.1.rows=q::l) (hb:Brw l) (_:-2305843009213693952≤q.1∧q.1<q.2∧q.2≤2305843009213693952) (_:-2305843009213693952≤r.1.m∧r.1.m≤2305843009213693952) (_:-2305843009213693952≤r.1.i∧r.1.i≤2305843009213693952) (hj:-2305843009213693952≤r.1.j∧r.1.j≤2305843009213693952) (hji:¬r.1.j<r.1.i):
 Calls Tryz.prog 29 #[.pointer (some ⟨B,0,none⟩),.bool true] w (RP No w B RT G (c+40) (.tuple #[]) (rdown r)):=by
 obtain ⟨xb,cap,g,gs2,ef,eg,hgB,hcap,hcap2,fx,g0,q0,q1,hnew⟩:=h.last hr
 subst ef eg
 have K0:Rk No w (w) B RT G c (.slice (some ⟨xb,0,none⟩) (l.length+1) cap) (g::gs2) r:=⟨h,Keep.refl _ _⟩
 have c1:w.cell? ⟨B,1,none⟩=some (.slice (some ⟨xb,0,none⟩) (l.length+1) cap):=K0.cell (j:=1) rfl
 have c2:w.cell? ⟨B,2,none⟩=some (.int .i64 7):=by rw[←hln];exact K0.cell (j:=2) rfl
 have hsub:((l.length:Int)+1) - 1=(l.length:Int):=by omega
 have hsubw:IntKind.i64.wrap ((l.length:Int)+1 - 1)=(l.length:Int):=by rw[IntKind.wrap_i64];omega
 have hlast:l.length<l.length+1:=Nat.lt_succ_self _
 have hn0:¬(l.length:Int)<0:=by omega
 have hlt1:(l.length:Int)<(l.length:Int)+1:=by omega
 have f0:=K0.so.free
 have HK0:Hid (Rk No w (w) B RT G c (.slice (some ⟨xb,0,none⟩) (l.length+1) cap) (g::gs2) r):=K0
 have HR:Hid (r.1.rows=q::l∧Brw l):=⟨hr,hb⟩
 have HE:Hid (r.1.er=0):=her
 have c4:w.cell? ⟨B,4,none⟩=some (.int .i64 (r.1.i)):=K0.cell (j:=4) rfl
 have wj:IntKind.i64.wrap (r.1.j - 1)=r.1.j - 1:=by rw[IntKind.wrap_i64];omega
 have c5:w.cell? ⟨B,5,none⟩=some (.int .i64 (r.1.j)):=K0.cell (j:=5) rfl
 obtain ⟨y,hy⟩:∃x,gtV ({r.1 with j:=r.1.j - 1},r.2) (r.1.j - 1)=x:=⟨_,rfl⟩
 obtain ⟨t2,ht2⟩:∃x,(gtD ({r.1 with j:=r.1.j - 1},r.2) (r.1.j - 1)).2=x:=⟨_,rfl⟩
 have HC1:Hid (∀m,Calls Tryz.prog 66 #[.pointer (some ⟨B,0,none⟩),.int .i64 (r.1.j - 1)] ((w.drewN m).setCell ⟨B,5,none⟩ (.int .i64 (r.1.j - 1))) fun e w'=>e= .returned (.agg #[.int .i64 y.1,.int .i64 y.2.1,.string y.2.2])∧Rk No w (w') B RT G (c+1) (.slice (some ⟨xb,0,none⟩) (l.length+1) cap) (g::gs2) ({r.1 with j:=r.1.j - 1},t2)):=fun m=>((HK0.out.drewN m).st1 5 (.int .i64 (r.1.j - 1)) {r.1 with j:=r.1.j - 1} rfl rfl).gt (by omega) (r.1.j - 1) (by omega) (by omega) hy ht2
 have HP:Hid (rdown r=rask ({r.1 with j:=r.1.j - 1,y:=y},t2) 7 r.1.p y):=by
  show _=_
  unfold rdown
  subst hy ht2
  rfl
 clear hy ht2
 clear hnew hr hb h K0 hln her
 unfold RP
 go_enter Tryz.func29,Tryz.ntmps29
 go_wp2_with fail
 go_quiet (fail)
 go_wp2_with fail
 go_quiet (fail)
 go_wp2_with fail
 refine (HC1.out _).mono ?_;rintro e w3 ⟨rfl,k3⟩
 have d12:w3.cell? ⟨B,12,none⟩=some (.int .i64 (r.1.y).1):=k3.cell (j:=12) rfl
 have d13:w3.cell? ⟨B,13,none⟩=some (.int .i64 (r.1.y).2.1):=k3.cell (j:=13) rfl
 have d14:w3.cell? ⟨B,14,none⟩=some (.string (r.1.y).2.2):=k3.cell (j:=14) rfl
 have f3:=k3.so.free
 have K4:=k3.st3 12 y {r.1 with j:=r.1.j - 1,y:=y} rfl rfl
 unfold stX at K4
 obtain ⟨W4,hW4⟩:∃W,(((w3).setCell ⟨B,12,none⟩ (.int .i64 y.1)).setCell ⟨B,13,none⟩ (.int .i64 y.2.1)).setCell ⟨B,14,none⟩ (.string y.2.2)=W:=⟨_,rfl⟩
 rw[hW4] at K4
 have m6:W4.cell? ⟨B,6,none⟩=some (.int .i64 (r.1.p).1):=K4.cell (j:=6) rfl
 have m7:W4.cell? ⟨B,7,none⟩=some (.int .i64 (r.1.p).2.1):=K4.cell (j:=7) rfl
 have m8:W4.cell? ⟨B,8,none⟩=some (.string (r.1.p).2.2):=K4.cell (j:=8) rfl
 have m12:W4.cell? ⟨B,12,none⟩=some (.int .i64 (y).1):=K4.cell (j:=12) rfl
 have m13:W4.cell? ⟨B,13,none⟩=some (.int .i64 (y).2.1):=K4.cell (j:=13) rfl
 have m14:W4.cell? ⟨B,14,none⟩=some (.string (y).2.2):=K4.cell (j:=14) rfl
 have CA:=K4.aq 7 r.1.p y
 clear HC1 k3 K4
 go_wp2_with fail
 refine wp_tail 9 (by kernel_rfl) (by kernel_rfl) ?_
 simp only[List.take_succ_cons,List.take_zero,List.drop_succ_cons,List.drop_zero]
 repeat still_step
 refine wpStill_nil ?_
 go_wp2_with fail
 refine CA.mono ?_;rintro e w6 ⟨rfl,k6⟩
 go_wp2
 first | go_end0 | ((try simp only[Exit.inBlock,Exit.then]);refine bodyPost_ret (results_none rfl _ _ _) rfl ?_)
 rw[HP.out]
 exact ⟨rfl,⟨_,_,k6.so.more (by omega)⟩,k6.kp⟩
set_option maxRecDepth 20000 in
set_option maxHeartbeats 4000000 in
theorem rson7c {No:Nat→Prop} {w:World} {B RT G c:Nat} {rv:Value} {gs:List Nat} {r:RD} (h:Ro No w B RT G c rv gs r) (hc:c≤400000) (hln:r.1.ln=7) (her:r.1.er=0) {q:Int×Int} {l:List (Int×Int)} (hr:r.1.rows=q::l) (hb:Brw l) (_:-2305843009213693952≤q.1∧q.1<q.2∧q.2≤2305843009213693952) (_:-2305843009213693952≤r.1.m∧r.1.m≤2305843009213693952) (hi:-2305843009213693952≤r.1.i∧r.1.i≤2305843009213693952) (hj:-2305843009213693952≤r.1.j∧r.1.j≤2305843009213693952) (hji:r.1.i≤r.1.j):
 Calls Tryz.prog 29 #[.pointer (some ⟨B,0,none⟩),.bool false] w (RP No w B RT G (c+40) (.tuple #[]) (rup (rput r r.1.i r.1.y r.1.j r.1.x))):=by
 obtain ⟨xb,cap,g,gs2,ef,eg,hgB,hcap,hcap2,fx,g0,q0,q1,hnew⟩:=h.last hr
 subst ef eg
 have K0:Rk No w (w) B RT G c (.slice (some ⟨xb,0,none⟩) (l.length+1) cap) (g::gs2) r:=⟨h,Keep.refl _ _⟩
 have c1:w.cell? ⟨B,1,none⟩=some (.slice (some ⟨xb,0,none⟩) (l.length+1) cap):=K0.cell (j:=1) rfl
 have c2:w.cell? ⟨B,2,none⟩=some (.int .i64 7):=by rw[←hln];exact K0.cell (j:=2) rfl
 have hsub:((l.length:Int)+1) - 1=(l.length:Int):=by omega
 have hsubw:IntKind.i64.wrap ((l.length:Int)+1 - 1)=(l.length:Int):=by rw[IntKind.wrap_i64];omega
 have hlast:l.length<l.length+1:=Nat.lt_succ_self _
 have hn0:¬(l.length:Int)<0:=by omega
 have hlt1:(l.length:Int)<(l.length:Int)+1:=by omega
 have f0:=K0.so.free
 have HK0:Hid (Rk No w (w) B RT G c (.slice (some ⟨xb,0,none⟩) (l.length+1) cap) (g::gs2) r):=K0
 have HR:Hid (r.1.rows=q::l∧Brw l):=⟨hr,hb⟩
 have HE:Hid (r.1.er=0):=her
 have c4:w.cell? ⟨B,4,none⟩=some (.int .i64 (r.1.i)):=K0.cell (j:=4) rfl
 have c5:w.cell? ⟨B,5,none⟩=some (.int .i64 (r.1.j)):=K0.cell (j:=5) rfl
 have c9:w.cell? ⟨B,9,none⟩=some (.int .i64 (r.1.x).1):=K0.cell (j:=9) rfl
 have c10:w.cell? ⟨B,10,none⟩=some (.int .i64 (r.1.x).2.1):=K0.cell (j:=10) rfl
 have c11:w.cell? ⟨B,11,none⟩=some (.string (r.1.x).2.2):=K0.cell (j:=11) rfl
 have c12:w.cell? ⟨B,12,none⟩=some (.int .i64 (r.1.y).1):=K0.cell (j:=12) rfl
 have c13:w.cell? ⟨B,13,none⟩=some (.int .i64 (r.1.y).2.1):=K0.cell (j:=13) rfl
 have c14:w.cell? ⟨B,14,none⟩=some (.string (r.1.y).2.2):=K0.cell (j:=14) rfl
 obtain ⟨r5,hr5⟩:∃x,rput r (r.1.i) r.1.y (r.1.j) r.1.x=x:=⟨_,rfl⟩
 have HPut:Hid (∀W,Rk No w (W) B RT G c (.slice (some ⟨xb,0,none⟩) (l.length+1) cap) (g::gs2) r→Calls Tryz.prog 65 #[.pointer (some ⟨B,0,none⟩),.int .i64 (r.1.i),.agg #[.int .i64 r.1.y.1,.int .i64 r.1.y.2.1,.string r.1.y.2.2],.int .i64 (r.1.j),.agg #[.int .i64 r.1.x.1,.int .i64 r.1.x.2.1,.string r.1.x.2.2]] W fun e w'=>e= .returned (.tuple #[])∧Rk No w (w') B RT G (c+14) (.slice (some ⟨xb,0,none⟩) (l.length+1) cap) (g::gs2) r5):=fun W k=>by
  have:=rsput_any k.so (by omega) (r.1.i) (r.1.j) r.1.y r.1.x (by omega) (by omega) (by omega) (by omega)
  rw[hr5] at this
  exact this.mono fun e w' ⟨q1,q2,q3⟩=>⟨q1,q2,k.kp.trans q3⟩
 have H5:Hid (r5.1.rows=q::l∧r5.1.m=r.1.m∧r5.1.i=r.1.i∧r5.1.j=r.1.j):=by
  subst hr5
  have e:=rput_keeps r (r.1.i) r.1.y (r.1.j) r.1.x
  exact ⟨e.1.trans hr,e.2.1,e.2.2.1,e.2.2.2⟩
 rw[hr5]
 have HU:Hid (∀W,Rk No w (W) B RT G (c+14) (.slice (some ⟨xb,0,none⟩) (l.length+1) cap) (g::gs2) r5→Calls Tryz.prog 70 #[.pointer (some ⟨B,0,none⟩)] W fun e w'=>e= .returned (.tuple #[])∧Rk No w (w') B RT G (c+14+1) (.slice (some ⟨xb,0,none⟩) (l.length+1) cap) (g::gs2) (rup r5)):=fun W k=>(rsup_any k.so (by omega) (by rw[H5.out.2.2.1];omega) (by rw[H5.out.2.2.1];omega)).mono fun e w' ⟨q1,q2,q3⟩=>⟨q1,q2,k.kp.trans q3⟩
 clear hr5 hnew hr hb h K0 hln her
 unfold RP
 go_enter Tryz.func29,Tryz.ntmps29
 go_wp2_with fail
 go_quiet (fail)
 go_wp2_with fail
 go_quiet (fail)
 go_wp2_with fail
 go_quiet (fail)
 go_wp2_with fail
 refine wp_tail 17 (by kernel_rfl) (by kernel_rfl) ?_
 simp only[List.take_succ_cons,List.take_zero,List.drop_succ_cons,List.drop_zero]
 repeat still_step
 refine wpStill_nil ?_
 go_wp2_with fail
 refine (HPut.out _ (HK0.out.below (Below.drew (bdrewN w _)))).mono ?_;rintro e w3 ⟨rfl,k3⟩
 have C4:=HU.out w3 k3
 clear HPut k3 HU
 go_wp2_with fail
 refine C4.mono ?_;rintro e w4 ⟨rfl,k4⟩
 go_wp2
 first | go_end0 | ((try simp only[Exit.inBlock,Exit.then]);refine bodyPost_ret (results_none rfl _ _ _) rfl ?_)
 exact ⟨rfl,⟨_,_,k4.so.more (by omega)⟩,k4.kp⟩
end Go.Proofs.YtkmopcanaalemabGreat
