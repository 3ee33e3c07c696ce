import Derived.Test.YtkmopcanaalemabGreatCg31
import Derived.Test.YtkmopcanaalemabGreatCg29
import Derived.Test.YtkmopcanaalemabGreatCg17
import Derived.Test.YtkmopcanaalemabGreatCg33
import Derived.Test.YtkmopcanaalemabGreatCg34
import Derived.Test.YtkmopcanaalemabGreatCg28
import Derived.Test.YtkmopcanaalemabGreatCg21
namespace Go.Proofs.YtkmopcanaalemabGreat
open Go.RowKit
set_option maxRecDepth 20000 in
set_option maxHeartbeats 4000000 in
theorem rson1 {No:Nat→Prop} {w:World} {B RT G c:Nat} {rv:Value} {gs:List Nat} {r:RD} (h:Ro No w B RT G c rv gs r) (hc:c≤400000) (hln:r.1.ln=1) (her:r.1.er=0) {q:Int×Int} {l:List (Int×Int)} (hr:r.1.rows=q::l) (hb:Brw l) (hq:-2305843009213693952≤q.1∧q.1<q.2∧q.2≤2305843009213693952) (_:-2305843009213693952≤r.1.m∧r.1.m≤2305843009213693952) (_:-2305843009213693952≤r.1.i∧r.1.i≤2305843009213693952) (_:-2305843009213693952≤r.1.j∧r.1.j≤2305843009213693952) (less:Bool):
 Calls Tryz.prog 29 #[.pointer (some ⟨B,0,none⟩),.bool less] w (RP No w B RT G (c+40) (.tuple #[]) (ron1 r less q.1 q.2)):=by
 obtain ⟨xb,cap,g,gs2,ef,eg,hgB,hcap,hcap2,fx,g0,q0,q1,hnew⟩:=h.last hr
 subst ef eg
 have K0:Rk No w (w) B RT G c (.slice (some ⟨xb,0,none⟩) (l.length+1) cap) (g::gs2) r:=⟨h,Keep.refl _ _⟩
 have c1:w.cell? ⟨B,1,none⟩=some (.slice (some ⟨xb,0,none⟩) (l.length+1) cap):=K0.cell (j:=1) rfl
 have c2:w.cell? ⟨B,2,none⟩=some (.int .i64 1):=by rw[←hln];exact K0.cell (j:=2) rfl
 have hsub:((l.length:Int)+1) - 1=(l.length:Int):=by omega
 have hsubw:IntKind.i64.wrap ((l.length:Int)+1 - 1)=(l.length:Int):=by rw[IntKind.wrap_i64];omega
 have hlast:l.length<l.length+1:=Nat.lt_succ_self _
 have hn0:¬(l.length:Int)<0:=by omega
 have hlt1:(l.length:Int)<(l.length:Int)+1:=by omega
 have f0:=K0.so.free
 have HK0:Hid (Rk No w (w) B RT G c (.slice (some ⟨xb,0,none⟩) (l.length+1) cap) (g::gs2) r):=K0
 have HR:Hid (r.1.rows=q::l∧Brw l):=⟨hr,hb⟩
 have HE:Hid (r.1.er=0):=her
 cases less with
 | true=>
   have c9:w.cell? ⟨B,9,none⟩=some (.int .i64 (r.1.x).1):=K0.cell (j:=9) rfl
   have c10:w.cell? ⟨B,10,none⟩=some (.int .i64 (r.1.x).2.1):=K0.cell (j:=10) rfl
   have c11:w.cell? ⟨B,11,none⟩=some (.string (r.1.x).2.2):=K0.cell (j:=11) rfl
   have c12:w.cell? ⟨B,12,none⟩=some (.int .i64 (r.1.y).1):=K0.cell (j:=12) rfl
   have c13:w.cell? ⟨B,13,none⟩=some (.int .i64 (r.1.y).2.1):=K0.cell (j:=13) rfl
   have c14:w.cell? ⟨B,14,none⟩=some (.string (r.1.y).2.2):=K0.cell (j:=14) rfl
   obtain ⟨r5,hr5⟩:∃x,rput r (q.1) r.1.y (q.2) r.1.x=x:=⟨_,rfl⟩
   have HPut:Hid (∀W,Rk No w (W) B RT G c (.slice (some ⟨xb,0,none⟩) (l.length+1) cap) (g::gs2) r→Calls Tryz.prog 65 #[.pointer (some ⟨B,0,none⟩),.int .i64 (q.1),.agg #[.int .i64 r.1.y.1,.int .i64 r.1.y.2.1,.string r.1.y.2.2],.int .i64 (q.2),.agg #[.int .i64 r.1.x.1,.int .i64 r.1.x.2.1,.string r.1.x.2.2]] W fun e w'=>e= .returned (.tuple #[])∧Rk No w (w') B RT G (c+14) (.slice (some ⟨xb,0,none⟩) (l.length+1) cap) (g::gs2) r5):=fun W k=>by
    have:=rsput_any k.so (by omega) (q.1) (q.2) r.1.y r.1.x (by omega) (by omega) (by omega) (by omega)
    rw[hr5] at this
    exact this.mono fun e w' ⟨q1,q2,q3⟩=>⟨q1,q2,k.kp.trans q3⟩
   have H5:Hid (r5.1.rows=q::l∧r5.1.m=r.1.m∧r5.1.i=r.1.i∧r5.1.j=r.1.j):=by
    subst hr5
    have e:=rput_keeps r (q.1) r.1.y (q.2) r.1.x
    exact ⟨e.1.trans hr,e.2.1,e.2.2.1,e.2.2.2⟩
   have wd:IntKind.i64.wrap (q.2 - q.1)=q.2 - q.1:=by rw[IntKind.wrap_i64];omega
   have wt:(q.2 - q.1).tdiv 2=(q.2 - q.1) / 2:=by rw[Int.tdiv_eq_ediv_of_nonneg (by omega)]
   have wt2:IntKind.i64.wrap ((q.2 - q.1) / 2)=(q.2 - q.1) / 2:=by rw[IntKind.wrap_i64];omega
   obtain ⟨mid,hmid⟩:∃x,q.1+(q.2 - q.1) / 2=x:=⟨_,rfl⟩
   have hmb:-2305843009213693952≤mid∧mid≤2305843009213693952:=by omega
   have wm:IntKind.i64.wrap (q.1+(q.2 - q.1) / 2)=mid:=by rw[IntKind.wrap_i64];omega
   have HD:Hid (∀W,Rk No w (W) B RT G (c+14) (.slice (some ⟨xb,0,none⟩) (l.length+1) cap) (g::gs2) r5→Calls Tryz.prog 68 #[.pointer (some ⟨B,0,none⟩)] W fun e w'=>e= .returned (.tuple #[])∧∃rv' gs',Rk No w w' B RT G (c+14+2) rv' gs' (rdone r5)):=fun W k=>by
    have C:=rsdone_any k.so (by omega) H5.out.1 HR.out.2
    exact C.mono fun e w' ⟨z1,⟨rv',gs',z2⟩,z3⟩=>⟨z1,rv',gs',z2,k.kp.trans z3⟩
   have HR5:Hid (rput r q.1 r.1.y q.2 r.1.x=r5):=hr5
   clear hr5 hnew hr hb h K0 hln her
   unfold RP
   go_enter Tryz.func29,Tryz.ntmps29
   go_wp2_with fail
   go_quiet (fail)
   go_wp2_with fail
   refine wp_tail 11 (by kernel_rfl) (by kernel_rfl) ?_
   simp only[List.take_succ_cons,List.take_zero,List.drop_succ_cons,List.drop_zero]
   repeat still_step
   refine wpStill_nil ?_
   go_wp2_with fail
   refine (HPut.out _ (HK0.out.below (Below.drew (bdrewN w _)))).mono ?_;rintro e w3 ⟨rfl,k3⟩
   have hr5:=HR5.out
   have n15:w3.cell? ⟨B,15,none⟩=some (.int .i64 (r5.1.er)):=k3.cell (j:=15) rfl
   have n3:w3.cell? ⟨B,3,none⟩=some (.int .i64 (r5.1.m)):=k3.cell (j:=3) rfl
   have f3:=k3.so.free
   clear HPut c2
   by_cases he5:r5.1.er=0
   ·have e15:(r5.1.er==0)=true:=by simpa using he5
    by_cases hgt:1<q.2 - q.1
    ·obtain ⟨x,hx⟩:∃v,gtV ({r5.1 with m:=mid},r5.2) mid=v:=⟨_,rfl⟩
     obtain ⟨t2,ht2⟩:∃v,(gtD ({r5.1 with m:=mid},r5.2) mid).2=v:=⟨_,rfl⟩
     obtain ⟨y,hy⟩:∃v,gtV ({r5.1 with m:=mid,x:=x},t2) q.1=v:=⟨_,rfl⟩
     obtain ⟨t3,ht3⟩:∃v,(gtD ({r5.1 with m:=mid,x:=x},t2) q.1).2=v:=⟨_,rfl⟩
     have HC1:Hid (Calls Tryz.prog 66 #[.pointer (some ⟨B,0,none⟩),.int .i64 mid] ((w3).setCell ⟨B,3,none⟩ (.int .i64 mid)) fun e w'=>e= .returned (.agg #[.int .i64 x.1,.int .i64 x.2.1,.string x.2.2])∧Rk No w (w') B RT G ((c+14)+1) (.slice (some ⟨xb,0,none⟩) (l.length+1) cap) (g::gs2) ({r5.1 with m:=mid},t2)):=((k3).st1 3 (.int .i64 mid) {r5.1 with m:=mid} rfl rfl).gt (s:={r5.1 with m:=mid}) (t:=r5.2) (by omega) mid (by omega) (by omega) hx ht2
     have HC2:Hid (∀W,Rk No w (W) B RT G ((c+14)+1) (.slice (some ⟨xb,0,none⟩) (l.length+1) cap) (g::gs2) ({r5.1 with m:=mid,x:=x},t2)→Calls Tryz.prog 66 #[.pointer (some ⟨B,0,none⟩),.int .i64 q.1] W fun e w'=>e= .returned (.agg #[.int .i64 y.1,.int .i64 y.2.1,.string y.2.2])∧Rk No w (w') B RT G ((c+14)+1+1) (.slice (some ⟨xb,0,none⟩) (l.length+1) cap) (g::gs2) ({r5.1 with m:=mid,x:=x},t3)):=fun W k=>k.gt (by omega) q.1 (by omega) (by omega) hy ht3
     have HP:Hid (ron1 r true q.1 q.2=rask ({r5.1 with m:=mid,x:=x,y:=y},t3) 3 x y):=by
      show _=_
      unfold ron1
      rw[if_pos (show true=true from rfl),hr5,if_pos (show r5.1.er=0∧1<q.2 - q.1 from ⟨he5,hgt⟩),hmid]
      subst hy ht3 hx ht2
      rfl
     clear hy ht3 hx ht2 hmid
     clear hr5 he5 k3 HD
     go_wp2_with fail
     refine (HC1.out).mono ?_;rintro e w5 ⟨rfl,k5⟩
     have d9:w5.cell? ⟨B,9,none⟩=some (.int .i64 (r5.1.x).1):=k5.cell (j:=9) rfl
     have d10:w5.cell? ⟨B,10,none⟩=some (.int .i64 (r5.1.x).2.1):=k5.cell (j:=10) rfl
     have d11:w5.cell? ⟨B,11,none⟩=some (.string (r5.1.x).2.2):=k5.cell (j:=11) rfl
     have f5:=k5.so.free
     have K6:=k5.st3 9 x {r5.1 with m:=mid,x:=x} rfl rfl
     unfold stX at K6
     obtain ⟨W6,hW6⟩:∃W,(((w5).setCell ⟨B,9,none⟩ (.int .i64 x.1)).setCell ⟨B,10,none⟩ (.int .i64 x.2.1)).setCell ⟨B,11,none⟩ (.string x.2.2)=W:=⟨_,rfl⟩
     rw[hW6] at K6
     have C7:=HC2.out W6 K6
     clear HC1 HC2 k5 K6
     go_wp2_with fail
     refine C7.mono ?_;rintro e w7 ⟨rfl,k7⟩
     have j12:w7.cell? ⟨B,12,none⟩=some (.int .i64 (r5.1.y).1):=k7.cell (j:=12) rfl
     have j13:w7.cell? ⟨B,13,none⟩=some (.int .i64 (r5.1.y).2.1):=k7.cell (j:=13) rfl
     have j14:w7.cell? ⟨B,14,none⟩=some (.string (r5.1.y).2.2):=k7.cell (j:=14) rfl
     have f7:=k7.so.free
     have K8:=k7.st3 12 y {r5.1 with m:=mid,x:=x,y:=y} rfl rfl
     unfold stX at K8
     obtain ⟨W8,hW8⟩:∃W,(((w7).setCell ⟨B,12,none⟩ (.int .i64 y.1)).setCell ⟨B,13,none⟩ (.int .i64 y.2.1)).setCell ⟨B,14,none⟩ (.string y.2.2)=W:=⟨_,rfl⟩
     rw[hW8] at K8
     have m9:W8.cell? ⟨B,9,none⟩=some (.int .i64 (x).1):=K8.cell (j:=9) rfl
     have m10:W8.cell? ⟨B,10,none⟩=some (.int .i64 (x).2.1):=K8.cell (j:=10) rfl
     have m11:W8.cell? ⟨B,11,none⟩=some (.string (x).2.2):=K8.cell (j:=11) rfl
     have m12:W8.cell? ⟨B,12,none⟩=some (.int .i64 (y).1):=K8.cell (j:=12) rfl
     have m13:W8.cell? ⟨B,13,none⟩=some (.int .i64 (y).2.1):=K8.cell (j:=13) rfl
     have m14:W8.cell? ⟨B,14,none⟩=some (.string (y).2.2):=K8.cell (j:=14) rfl
     have CA:=K8.aq 3 x y
     clear C7 k7 K8
     go_wp2_with fail
     refine wp_tail 9 (by kernel_rfl) (by kernel_rfl) ?_
     simp only[List.take_succ_cons,List.take_zero,List.drop_succ_cons,List.drop_zero]
     repeat still_step
     refine wpStill_nil ?_
     go_wp2_with fail
     refine CA.mono ?_;rintro e w9 ⟨rfl,k9⟩
     go_wp2
     first | go_end0 | ((try simp only[Exit.inBlock,Exit.then]);refine bodyPost_ret (results_none rfl _ _ _) rfl ?_)
     rw[HP.out]
     exact ⟨rfl,⟨_,_,k9.so.more (by omega)⟩,k9.kp⟩
    ·have HP:Hid (ron1 r true q.1 q.2=rdone r5):=by
      show _=_
      unfold ron1
      rw[if_pos (show true=true from rfl),hr5,if_neg (show ¬(r5.1.er=0∧1<q.2 - q.1) from fun z=>hgt z.2)]
     have CD:=HD.out w3 k3
     clear hr5 he5 k3 HD hmid
     go_wp2_with fail
     refine CD.mono ?_;rintro e w4 ⟨rfl,rv4,gs4,k4⟩
     go_wp2
     first | go_end0 | ((try simp only[Exit.inBlock,Exit.then]);refine bodyPost_ret (results_none rfl _ _ _) rfl ?_)
     rw[HP.out]
     exact ⟨rfl,⟨_,_,k4.so.more (by omega)⟩,k4.kp⟩
   ·have e15:(r5.1.er==0)=false:=by simpa using he5
    have HP:Hid (ron1 r true q.1 q.2=rdone r5):=by
     show _=_
     unfold ron1
     rw[if_pos (show true=true from rfl),hr5,if_neg (show ¬(r5.1.er=0∧1<q.2 - q.1) from fun z=>he5 z.1)]
    have CD:=HD.out w3 k3
    clear hr5 he5 k3 HD hmid
    go_wp2_with fail
    refine CD.mono ?_;rintro e w4 ⟨rfl,rv4,gs4,k4⟩
    go_wp2
    first | go_end0 | ((try simp only[Exit.inBlock,Exit.then]);refine bodyPost_ret (results_none rfl _ _ _) rfl ?_)
    rw[HP.out]
    exact ⟨rfl,⟨_,_,k4.so.more (by omega)⟩,k4.kp⟩
 | false=>
   have c15:w.cell? ⟨B,15,none⟩=some (.int .i64 (r.1.er)):=K0.cell (j:=15) rfl
   have c3:w.cell? ⟨B,3,none⟩=some (.int .i64 (r.1.m)):=K0.cell (j:=3) rfl
   have wd:IntKind.i64.wrap (q.2 - q.1)=q.2 - q.1:=by rw[IntKind.wrap_i64];omega
   have wt:(q.2 - q.1).tdiv 2=(q.2 - q.1) / 2:=by rw[Int.tdiv_eq_ediv_of_nonneg (by omega)]
   have wt2:IntKind.i64.wrap ((q.2 - q.1) / 2)=(q.2 - q.1) / 2:=by rw[IntKind.wrap_i64];omega
   obtain ⟨mid,hmid⟩:∃x,q.1+(q.2 - q.1) / 2=x:=⟨_,rfl⟩
   have hmb:-2305843009213693952≤mid∧mid≤2305843009213693952:=by omega
   have wm:IntKind.i64.wrap (q.1+(q.2 - q.1) / 2)=mid:=by rw[IntKind.wrap_i64];omega
   have e15:(r.1.er==0)=true:=by simpa using her
   by_cases hgt:1<q.2 - q.1
   ·obtain ⟨x,hx⟩:∃v,gtV ({r.1 with m:=mid},r.2) mid=v:=⟨_,rfl⟩
    obtain ⟨t2,ht2⟩:∃v,(gtD ({r.1 with m:=mid},r.2) mid).2=v:=⟨_,rfl⟩
    obtain ⟨y,hy⟩:∃v,gtV ({r.1 with m:=mid,x:=x},t2) q.1=v:=⟨_,rfl⟩
    obtain ⟨t3,ht3⟩:∃v,(gtD ({r.1 with m:=mid,x:=x},t2) q.1).2=v:=⟨_,rfl⟩
    have HC1:Hid (∀m,Calls Tryz.prog 66 #[.pointer (some ⟨B,0,none⟩),.int .i64 mid] ((w.drewN m).setCell ⟨B,3,none⟩ (.int .i64 mid)) fun e w'=>e= .returned (.agg #[.int .i64 x.1,.int .i64 x.2.1,.string x.2.2])∧Rk No w (w') B RT G (c+1) (.slice (some ⟨xb,0,none⟩) (l.length+1) cap) (g::gs2) ({r.1 with m:=mid},t2)):=fun m=>((HK0.out.drewN m).st1 3 (.int .i64 mid) {r.1 with m:=mid} rfl rfl).gt (s:={r.1 with m:=mid}) (t:=r.2) (by omega) mid (by omega) (by omega) hx ht2
    have HC2:Hid (∀W,Rk No w (W) B RT G (c+1) (.slice (some ⟨xb,0,none⟩) (l.length+1) cap) (g::gs2) ({r.1 with m:=mid,x:=x},t2)→Calls Tryz.prog 66 #[.pointer (some ⟨B,0,none⟩),.int .i64 q.1] W fun e w'=>e= .returned (.agg #[.int .i64 y.1,.int .i64 y.2.1,.string y.2.2])∧Rk No w (w') B RT G (c+1+1) (.slice (some ⟨xb,0,none⟩) (l.length+1) cap) (g::gs2) ({r.1 with m:=mid,x:=x},t3)):=fun W k=>k.gt (by omega) q.1 (by omega) (by omega) hy ht3
    have HP:Hid (ron1 r false q.1 q.2=rask ({r.1 with m:=mid,x:=x,y:=y},t3) 3 x y):=by
     show _=_
     unfold ron1
     rw[if_neg (show ¬(false=true) from fun z=>by cases z),if_pos (show r.1.er=0∧1<q.2 - q.1 from ⟨her,hgt⟩),hmid]
     subst hy ht3 hx ht2
     rfl
    clear hy ht3 hx ht2 hmid
    clear hnew hr hb h K0 hln her
    unfold RP
    go_enter Tryz.func29,Tryz.ntmps29
    go_wp2_with fail
    go_quiet (fail)
    go_wp2_with fail
    refine (HC1.out _).mono ?_;rintro e w5 ⟨rfl,k5⟩
    have d9:w5.cell? ⟨B,9,none⟩=some (.int .i64 (r.1.x).1):=k5.cell (j:=9) rfl
    have d10:w5.cell? ⟨B,10,none⟩=some (.int .i64 (r.1.x).2.1):=k5.cell (j:=10) rfl
    have d11:w5.cell? ⟨B,11,none⟩=some (.string (r.1.x).2.2):=k5.cell (j:=11) rfl
    have f5:=k5.so.free
    have K6:=k5.st3 9 x {r.1 with m:=mid,x:=x} rfl rfl
    unfold stX at K6
    obtain ⟨W6,hW6⟩:∃W,(((w5).setCell ⟨B,9,none⟩ (.int .i64 x.1)).setCell ⟨B,10,none⟩ (.int .i64 x.2.1)).setCell ⟨B,11,none⟩ (.string x.2.2)=W:=⟨_,rfl⟩
    rw[hW6] at K6
    have C7:=HC2.out W6 K6
    clear HC1 HC2 k5 K6
    go_wp2_with fail
    refine C7.mono ?_;rintro e w7 ⟨rfl,k7⟩
    have j12:w7.cell? ⟨B,12,none⟩=some (.int .i64 (r.1.y).1):=k7.cell (j:=12) rfl
    have j13:w7.cell? ⟨B,13,none⟩=some (.int .i64 (r.1.y).2.1):=k7.cell (j:=13) rfl
    have j14:w7.cell? ⟨B,14,none⟩=some (.string (r.1.y).2.2):=k7.cell (j:=14) rfl
    have f7:=k7.so.free
    have K8:=k7.st3 12 y {r.1 with m:=mid,x:=x,y:=y} rfl rfl
    unfold stX at K8
    obtain ⟨W8,hW8⟩:∃W,(((w7).setCell ⟨B,12,none⟩ (.int .i64 y.1)).setCell ⟨B,13,none⟩ (.int .i64 y.2.1)).setCell ⟨B,14,none⟩ (.string y.2.2)=W:=⟨_,rfl⟩
    rw[hW8] at K8
    have m9:W8.cell? ⟨B,9,none⟩=some (.int .i64 (x).1):=K8.cell (j:=9) rfl
    have m10:W8.cell? ⟨B,10,none⟩=some (.int .i64 (x).2.1):=K8.cell (j:=10) rfl
    have m11:W8.cell? ⟨B,11,none⟩=some (.string (x).2.2):=K8.cell (j:=11) rfl
    have m12:W8.cell? ⟨B,12,none⟩=some (.int .i64 (y).1):=K8.cell (j:=12) rfl
    have m13:W8.cell? ⟨B,13,none⟩=some (.int .i64 (y).2.1):=K8.cell (j:=13) rfl
    have m14:W8.cell? ⟨B,14,none⟩=some (.string (y).2.2):=K8.cell (j:=14) rfl
    have CA:=K8.aq 3 x y
    clear C7 k7 K8
    go_wp2_with fail
    refine wp_tail 9 (by kernel_rfl) (by kernel_rfl) ?_
    simp only[List.take_succ_cons,List.take_zero,List.drop_succ_cons,List.drop_zero]
    repeat still_step
    refine wpStill_nil ?_
    go_wp2_with fail
    refine CA.mono ?_;rintro e w9 ⟨rfl,k9⟩
    go_wp2
    first | go_end0 | ((try simp only[Exit.inBlock,Exit.then]);refine bodyPost_ret (results_none rfl _ _ _) rfl ?_)
    rw[HP.out]
    exact ⟨rfl,⟨_,_,k9.so.more (by omega)⟩,k9.kp⟩
   ·have HP:Hid (ron1 r false q.1 q.2=rdone r):=by
     show _=_
     unfold ron1
     rw[if_neg (show ¬(false=true) from fun z=>by cases z),if_neg (show ¬(r.1.er=0∧1<q.2 - q.1) from fun z=>hgt z.2)]
    have HD:Hid (∀m,Calls Tryz.prog 68 #[.pointer (some ⟨B,0,none⟩)] (w.drewN m) fun e w'=>e= .returned (.tuple #[])∧∃rv' gs',Rk No w w' B RT G (c+2) rv' gs' (rdone r)):=fun m=>by
     have C:=rsdone_any (HK0.out.drewN m).so (by omega) hr HR.out.2
     exact C.mono fun e w' ⟨z1,⟨rv',gs',z2⟩,z3⟩=>⟨z1,rv',gs',z2,(HK0.out.drewN m).kp.trans z3⟩
    clear hmid hnew hr hb h K0 hln her
    unfold RP
    go_enter Tryz.func29,Tryz.ntmps29
    go_wp2_with fail
    go_quiet (fail)
    go_wp2_with fail
    refine (HD.out _).mono ?_;rintro e w4 ⟨rfl,rv4,gs4,k4⟩
    go_wp2
    first | go_end0 | ((try simp only[Exit.inBlock,Exit.then]);refine bodyPost_ret (results_none rfl _ _ _) rfl ?_)
    rw[HP.out]
    exact ⟨rfl,⟨_,_,k4.so.more (by omega)⟩,k4.kp⟩
end Go.Proofs.YtkmopcanaalemabGreat


namespace Go.Proofs.YtkmopcanaalemabGreat
open U
def Pb (m:Nat) (s:SS):Prop:=0≤s.p∧s.p≤(m:Int)∧0≤s.i∧s.i≤(m:Int)∧0≤s.j∧s.j≤(m:Int)
structure SN (m:Nat) (s:SS):Prop where
 wt:∀r∈s.wt,RO m r
 lt:s.lo<s.up
 lo:1≤s.lo
 up:s.up≤(m:Int)
 st:s.ak=1∨(s.ak=2∧s.lo+1<s.up∧s.p=s.lo+(s.up - s.lo) / 2)∨(s.ak=3∧s.lo+1<s.up∧s.p=s.lo+(s.up - s.lo) / 2)∨
  (s.ak=4∧s.lo<s.i∧s.i≤s.up - 1∧s.lo<s.j∧s.j≤s.up - 1)∨(s.ak=5∧s.lo<s.i∧s.i≤s.up - 1∧s.lo≤s.j∧s.j<s.up - 1)
 pb:Pb m s
def Qn (m:Nat) (s:SS):Prop:=SN m s∨∃e,s=endS e
theorem nrow_sn {m:Nat} {d:SD} (hp:Pb m d.1) (h0:RO m (d.1.lo,d.1.up)) (hw:∀r∈d.1.wt,RO m r):Qn m (nrow d).1.1:=by
 unfold nrow
 cases hq:pop d.1.lo d.1.up d.1.wt with
 | none=>exact .inr ⟨0,rfl⟩
 | some q=>
   obtain ⟨r,l⟩:=q
   obtain ⟨a1,a2,a3,a4,_⟩:=pop_ok m _ _ _ h0 hw _ hq
   exact .inl ⟨a4,a1,a2,a3,.inl rfl,hp⟩
theorem leave_sn {m:Nat} {d:SD} (hp:Pb m d.1) (hw:∀r∈d.1.wt,RO m r):Qn m (leaveR d).1.1:=
 nrow_sn (d:=({d.1 with lo:=0,up:=0},d.2)) hp (fun q=>absurd (show (0:Int)<0 from q) (by omega)) hw
theorem rise_sn {m:Nat} {d:SD} (hp:Pb m d.1) (hw:∀r∈d.1.wt,RO m r) (h1:1≤d.1.lo) (h2:d.1.up≤(m:Int)) (h3:d.1.lo≤d.1.i) (h4:d.1.i+1≤d.1.up - 1) (h5:d.1.lo<d.1.j) (h6:d.1.j≤d.1.up - 1):Qn m (riseR d).1.1:=
 .inl ⟨hw,by show d.1.lo<d.1.up;omega,h1,h2,.inr (.inr (.inr (.inl ⟨rfl,by show d.1.lo<d.1.i+1;omega,h4,h5,h6⟩))),⟨hp.1,hp.2.1,by show 0≤d.1.i+1;omega,by show d.1.i+1≤(m:Int);omega,hp.2.2.2.2.1,hp.2.2.2.2.2⟩⟩
theorem fall_sn {m:Nat} {d:SD} (hp:Pb m d.1) (hw:∀r∈d.1.wt,RO m r) (h1:1≤d.1.lo) (h2:d.1.up≤(m:Int)) (h3:d.1.lo<d.1.i) (h4:d.1.i≤d.1.up - 1) (h5:d.1.lo<d.1.j) (h6:d.1.j≤d.1.up - 1):Qn m (fallR d).1.1:=
 .inl ⟨hw,by show d.1.lo<d.1.up;omega,h1,h2,.inr (.inr (.inr (.inr ⟨rfl,h3,h4,by show d.1.lo≤d.1.j - 1;omega,by show d.1.j - 1<d.1.up - 1;omega⟩))),⟨hp.1,hp.2.1,hp.2.2.1,hp.2.2.2.1,by show 0≤d.1.j - 1;omega,by show d.1.j - 1≤(m:Int);omega⟩⟩
theorem split_sn {m:Nat} {d:SD} (hp:Pb m d.1) (hw:∀r∈d.1.wt,RO m r) (h1:1≤d.1.lo) (h2:d.1.up≤(m:Int)) (h3:d.1.lo+1<d.1.up):Qn m (splitR d).1.1:=by
 unfold splitR
 by_cases c:d.1.up - d.1.lo=2
 ·rw[if_pos c];exact leave_sn hp hw
 ·rw[if_neg c]
  simp only
  split
  ·exact .inr ⟨_,rfl⟩
  ·rename_i q
   have e4:=putD_1 ({(rdD (rdD d d.1.p) (d.1.up - 1)).1 with pv:=rdV d d.1.p,y:=rdV (rdD d d.1.p) (d.1.up - 1)},(rdD (rdD d d.1.p) (d.1.up - 1)).2) d.1.p (rdV (rdD d d.1.p) (d.1.up - 1)) (d.1.up - 1) (rdV d d.1.p)
   simp only at e4
   generalize putD _ d.1.p _ (d.1.up - 1) _=d4 at *
   obtain ⟨s4,t4⟩:=d4
   simp only at e4
   subst e4
   exact rise_sn (d:=({({(rdD (rdD d d.1.p) (d.1.up - 1)).1 with pv:=rdV d d.1.p,y:=rdV (rdD d d.1.p) (d.1.up - 1)}:SS) with i:=d.1.lo,j:=d.1.up - 1},t4)) ⟨hp.1,hp.2.1,by show 0≤d.1.lo;omega,by show d.1.lo≤(m:Int);omega,by show 0≤d.1.up - 1;omega,by show d.1.up - 1≤(m:Int);omega⟩ hw h1 h2 (Int.le_refl _) (by show d.1.lo+1≤d.1.up - 1;omega) (by show d.1.lo<d.1.up - 1;omega) (Int.le_refl _)
theorem part_sn {m:Nat} {d:SD} (hp:Pb m d.1) (hw:∀r∈d.1.wt,RO m r) (h1:1≤d.1.lo) (h2:d.1.up≤(m:Int)) (h3:d.1.lo<d.1.i) (h4:d.1.i≤d.1.up - 1):Qn m (partR d).1.1:=by
 unfold partR
 simp only
 have r1:RO m (d.1.lo,d.1.i - 1):=fun q=>⟨h1,by show d.1.i - 1≤(m:Int);omega⟩
 have r2:RO m (d.1.i+1,d.1.up):=fun q=>⟨by show 1≤d.1.i+1;omega,h2⟩
 have e4:=putD_1 ({(rdD (rdD d (d.1.up - 1)) d.1.i).1 with x:=rdV d (d.1.up - 1),y:=rdV (rdD d (d.1.up - 1)) d.1.i},(rdD (rdD d (d.1.up - 1)) d.1.i).2) (d.1.up - 1) (rdV (rdD d (d.1.up - 1)) d.1.i) d.1.i (rdV d (d.1.up - 1))
 simp only at e4
 split
 ·exact .inr ⟨_,rfl⟩
 ·generalize putD _ (d.1.up - 1) _ d.1.i _=d4 at *
  obtain ⟨s4,t4⟩:=d4
  simp only at e4
  subst e4
  split
  ·refine nrow_sn hp r2 (fun r hr=>?_)
   rcases List.mem_cons.1 hr with q | q
   ·rw[q];exact r1
   ·exact hw r q
  ·refine nrow_sn hp r1 (fun r hr=>?_)
   rcases List.mem_cons.1 hr with q | q
   ·rw[q];exact r2
   ·exact hw r q
theorem put_if (d:SD) (less:Bool) (a:Int) (v:V) (b:Int) (u:V):(if less=true then putD d a v b u else d).1=d.1:=by
 split
 ·exact putD_1 _ _ _ _ _
 ·rfl
theorem go_sn {m:Nat} {d:SD} (h:SN m d.1) (less:Bool):Qn m (goR d less).1.1:=by
 have hl:=h.lt
 have ho:=h.lo
 have hu:=h.up
 unfold goR
 rcases h.st with ea | ⟨ea,e1,ep⟩ | ⟨ea,e1,ep⟩ | ⟨ea,e1,e2,e3,e4⟩ | ⟨ea,e1,e2,e3,e4⟩
 ·rw[if_pos ea]
  unfold endsR
  have b3:=put_if d less d.1.lo d.1.y d.1.up d.1.x
  generalize (if less=true then putE d d.1.lo d.1.y d.1.up d.1.x else 0)=e at *
  generalize (if less=true then putD d d.1.lo d.1.y d.1.up d.1.x else d)=d1 at *
  obtain ⟨s1,t1⟩:=d1
  simp only at b3
  subst b3
  simp only
  split
  ·exact .inr ⟨_,rfl⟩
  ·split
   ·exact leave_sn (d:=(d.1,t1)) h.pb h.wt
   ·exact .inl ⟨h.wt,hl,ho,hu,.inr (.inl ⟨rfl,by show d.1.lo+1<d.1.up;omega,rfl⟩),⟨by show 0≤d.1.lo+(d.1.up - d.1.lo) / 2;omega,by show d.1.lo+(d.1.up - d.1.lo) / 2≤(m:Int);omega,h.pb.2.2⟩⟩
 ·rw[if_neg (show ¬d.1.ak=1 by omega),if_pos ea]
  unfold lowR
  split
  ·simp only
   split
   ·exact .inr ⟨_,rfl⟩
   ·have b3:=putD_1 d d.1.p d.1.y d.1.lo d.1.x
    generalize putD d d.1.p d.1.y d.1.lo d.1.x=d1 at *
    obtain ⟨s1,t1⟩:=d1
    simp only at b3
    subst b3
    exact split_sn (d:=(d.1,t1)) h.pb h.wt ho hu e1
  ·exact .inl ⟨h.wt,hl,ho,hu,.inr (.inr (.inl ⟨rfl,e1,ep⟩)),h.pb⟩
 ·rw[if_neg (show ¬d.1.ak=1 by omega),if_neg (show ¬d.1.ak=2 by omega),if_pos ea]
  unfold highR
  split
  ·simp only
   split
   ·exact .inr ⟨_,rfl⟩
   ·have b3:=putD_1 d d.1.p d.1.y d.1.up d.1.x
    generalize putD d d.1.p d.1.y d.1.up d.1.x=d1 at *
    obtain ⟨s1,t1⟩:=d1
    simp only at b3
    subst b3
    exact split_sn (d:=(d.1,t1)) h.pb h.wt ho hu e1
  ·exact split_sn h.pb h.wt ho hu e1
 ·rw[if_neg (show ¬d.1.ak=1 by omega),if_neg (show ¬d.1.ak=2 by omega),if_neg (show ¬d.1.ak=3 by omega),if_pos ea]
  unfold risingR
  split
  ·split
   ·exact .inr ⟨_,rfl⟩
   ·rename_i c
    exact rise_sn h.pb h.wt ho hu (by omega) (by omega) e3 e4
  ·exact fall_sn h.pb h.wt ho hu e1 e2 e3 e4
 ·rw[if_neg (show ¬d.1.ak=1 by omega),if_neg (show ¬d.1.ak=2 by omega),if_neg (show ¬d.1.ak=3 by omega),if_neg (show ¬d.1.ak=4 by omega),if_pos ea]
  unfold fallingR
  split
  ·split
   ·exact .inr ⟨_,rfl⟩
   ·rename_i c
    exact fall_sn h.pb h.wt ho hu e1 e2 (by omega) (by omega)
  ·split
   ·exact part_sn h.pb h.wt ho hu e1 e2
   ·rename_i c
    simp only
    split
    ·exact .inr ⟨_,rfl⟩
    ·have b3:=putD_1 d d.1.i d.1.y d.1.j d.1.x
     generalize putD d d.1.i d.1.y d.1.j d.1.x=d1 at *
     obtain ⟨s1,t1⟩:=d1
     simp only at b3
     subst b3
     exact rise_sn (d:=(d.1,t1)) h.pb h.wt ho hu (by simp only;omega) (by simp only;omega) (by simp only;omega) (by simp only;omega)
def Sy (n:Int) (s:SS):Prop:=s=s0 n∨Qn 300 s
theorem Sy.go {n:Int} (hn:n≤300) {d:SD} (h:Sy n d.1) (less:Bool):Sy n (goR d less).1.1:=by
 rcases h with e | h | ⟨e,he⟩
 ·obtain ⟨s,t⟩:=d
  simp only at e
  subst e
  have e1:goR (s0 n,t) less=nrow (s0 n,t):=rfl
  rw[e1]
  exact .inr (nrow_sn (d:=(s0 n,t)) ⟨by show (0:Int)≤0;omega,by show (0:Int)≤300;omega,by show (0:Int)≤0;omega,by show (0:Int)≤300;omega,by show (0:Int)≤0;omega,by show (0:Int)≤300;omega⟩ (fun _=>⟨Int.le_refl _,hn⟩) (fun r hr=>(by cases hr)))
 ·exact .inr (go_sn h less)
 ·obtain ⟨s,t⟩:=d
  simp only at he
  subst he
  exact .inr (.inr ⟨e,rfl⟩)
theorem Sy.fit {n:Int} (hn:n≤300) {s:SS} (h:Sy n s) (hw:s.wt.length≤900000):Fit s∧0≤s.ak∧s.ak≤6:=by
 rcases h with e | h | ⟨e,he⟩
 ·subst e
  refine ⟨⟨fun r hr hlt=>?_,fun q=>absurd (show (1:Int)≤0 from q) (by omega),fun q=>?_,fun q=>?_,fun q=>?_,hw⟩,Int.le_refl _,by show (0:Int)≤6;omega⟩
  ·rcases List.mem_cons.1 hr with e | e
   ·subst e
    have h1:((s0 n).lo,(s0 n).up).1=1:=rfl
    have h2:((s0 n).lo,(s0 n).up).2=n:=rfl
    rw[h1,h2]
    omega
   ·cases e
  ·rcases q with q | q
   ·exact absurd (show (0:Int)=2 from q) (by omega)
   ·exact absurd (show (0:Int)=3 from q) (by omega)
  ·rcases q with q | q
   ·exact absurd (show (0:Int)=4 from q) (by omega)
   ·exact absurd (show (0:Int)=5 from q) (by omega)
  ·rcases q with q | q
   ·exact absurd (show (0:Int)=4 from q) (by omega)
   ·exact absurd (show (0:Int)=5 from q) (by omega)
 ·have h1:=h.lt
  have h2:=h.lo
  have h3:=h.up
  refine ⟨⟨fun r hr hlt=>?_,fun _ _=>⟨⟨by omega,by omega⟩,⟨by omega,by omega⟩,h1⟩,fun q=>?_,fun q=>?_,fun q=>?_,hw⟩,?_⟩
  ·rcases List.mem_cons.1 hr with e | e
   ·subst e
    simp only
    omega
   ·have:=h.wt r e hlt
    omega
  ·rcases h.st with z | z | z | z | z<;>omega
  ·rcases h.st with z | z | z | z | z<;>omega
  ·rcases h.st with z | z | z | z | z<;>omega
  ·rcases h.st with z | z | z | z | z<;>omega
 ·subst he
  refine ⟨⟨fun r hr hlt=>?_,fun _ q=>absurd (show (6:Int)≤5 from q) (by omega),fun q=>?_,fun q=>?_,fun q=>?_,hw⟩,by show (0:Int)≤6;omega,Int.le_refl _⟩
  ·rcases List.mem_cons.1 hr with e | e
   ·subst e
    exact absurd (show (0:Int)<0 from hlt) (by omega)
   ·cases e
  ·rcases q with q | q
   ·exact absurd (show (6:Int)=2 from q) (by omega)
   ·exact absurd (show (6:Int)=3 from q) (by omega)
  ·rcases q with q | q
   ·exact absurd (show (6:Int)=4 from q) (by omega)
   ·exact absurd (show (6:Int)=5 from q) (by omega)
  ·rcases q with q | q
   ·exact absurd (show (6:Int)=4 from q) (by omega)
   ·exact absurd (show (6:Int)=5 from q) (by omega)
theorem Sy.pb {n:Int} {s:SS} (h:Sy n s):Pb 300 s:=by
 rcases h with e | h | ⟨e,he⟩
 ·subst e
  exact ⟨by show (0:Int)≤0;omega,by show (0:Int)≤300;omega,by show (0:Int)≤0;omega,by show (0:Int)≤300;omega,by show (0:Int)≤0;omega,by show (0:Int)≤300;omega⟩
 ·exact h.pb
 ·subst he
  exact ⟨by show (0:Int)≤0;omega,by show (0:Int)≤300;omega,by show (0:Int)≤0;omega,by show (0:Int)≤300;omega,by show (0:Int)≤0;omega,by show (0:Int)≤300;omega⟩
end Go.Proofs.YtkmopcanaalemabGreat


namespace Go.Proofs.YtkmopcanaalemabGreat
open Go.RowKit
set_option maxRecDepth 20000 in
set_option maxHeartbeats 4000000 in
theorem rson0 {No:Nat→Prop} {w:World} {B RT G c:Nat} {rv:Value} {gs:List Nat} {r:RD} (h:Ro No w B RT G c rv gs r) (hc:c≤400000) (hln:r.1.ln=0) (hb:Brw r.1.rows) (less:Bool):
 Calls Tryz.prog 29 #[.pointer (some ⟨B,0,none⟩),.bool less] w (RP No w B RT G (c+40) (.tuple #[]) (rfst r.1.rows r)):=by
 have c2:w.cell? ⟨B,2,none⟩=some (.int .i64 0):=by rw[←hln];exact h.cell (j:=2) rfl
 have C:=rsfirst_any h (by omega) hb
 unfold RP at C⊢
 clear h hln hb
 go_enter Tryz.func29,Tryz.ntmps29
 go_wp2_with fail
 refine C.mono ?_;rintro e w2 ⟨rfl,⟨rv',gs',k2⟩,k3⟩
 go_wp2
 first | go_end0 | ((try simp only[Exit.inBlock,Exit.then]);refine bodyPost_ret (results_none rfl _ _ _) rfl ?_)
 exact ⟨rfl,⟨_,_,k2.more (by omega)⟩,k3⟩
theorem ron_at {r:RD} {less:Bool} {q:Int×Int} {l:List (Int×Int)} (hr:r.1.rows=q::l):
 (r.1.ln=1→ron r less=ron1 r less q.1 q.2)∧(r.1.ln=3→ron r less=ron3 r less q.1 q.2)∧(r.1.ln=4→ron r less=ron4 r less q.1 q.2)∧(r.1.ln=6→ron r less=ron6 r less q.2)∧(r.1.ln=7→ron r less=ron7 r less q.1 q.2):=by
 unfold ron
 simp only[hr,List.headD_cons]
 refine ⟨fun e=>?_,fun e=>?_,fun e=>?_,fun e=>?_,fun e=>?_⟩
 ·rw[if_neg (show ¬r.1.ln=0 by omega),if_pos e]
 ·rw[if_neg (show ¬r.1.ln=0 by omega),if_neg (show ¬r.1.ln=1 by omega),if_pos e]
 ·rw[if_neg (show ¬r.1.ln=0 by omega),if_neg (show ¬r.1.ln=1 by omega),if_neg (show ¬r.1.ln=3 by omega),if_pos e]
 ·rw[if_neg (show ¬r.1.ln=0 by omega),if_neg (show ¬r.1.ln=1 by omega),if_neg (show ¬r.1.ln=3 by omega),if_neg (show ¬r.1.ln=4 by omega),if_pos e]
 ·rw[if_neg (show ¬r.1.ln=0 by omega),if_neg (show ¬r.1.ln=1 by omega),if_neg (show ¬r.1.ln=3 by omega),if_neg (show ¬r.1.ln=4 by omega),if_neg (show ¬r.1.ln=6 by omega),if_pos e]
theorem rson_any {No:Nat→Prop} {w:World} {B RT G c:Nat} {rv:Value} {gs:List Nat} {r:RD} (h:Ro No w B RT G c rv gs r) (hc:c≤400000) {d:SD} (hri:RI d r) (hf:Fit d.1) (hp:Pb 300 d.1) (hk:d.1.ak≠6) (less:Bool):
 Calls Tryz.prog 29 #[.pointer (some ⟨B,0,none⟩),.bool less] w (RP No w B RT G (c+40) (.tuple #[]) (ron r less)):=by
 obtain ⟨k0,k5,h1,h2,h3,h4,h5,h6,h7,h8,h9,h10⟩:=hri.st.resolve_left (fun q=>hk q.1)
 have hb:Brw r.1.rows:=by rw[h2];exact hf.row
 by_cases q0:d.1.ak=0
 ·have e:r.1.ln=0:=by rw[h3,q0];rfl
  have er:ron r less=rfst r.1.rows r:=by unfold ron;rw[if_pos e]
  rw[er]
  exact rson0 h hc e hb less
 ·have hl:=hf.lo (by omega) k5
  have hb2:Brw d.1.wt:=fun q hq=>hf.row q (List.mem_cons_of_mem _ hq)
  obtain ⟨p1,p2,p3,p4,p5,p6⟩:=hp
  have hq:-2305843009213693952≤(d.1.lo,d.1.up).1∧(d.1.lo,d.1.up).1<(d.1.lo,d.1.up).2∧(d.1.lo,d.1.up).2≤2305843009213693952:=⟨hl.1.1,hl.2.2,hl.2.1.2⟩
  have hm:-2305843009213693952≤r.1.m∧r.1.m≤2305843009213693952:=by rw[h4];omega
  have hi:-2305843009213693952≤r.1.i∧r.1.i≤2305843009213693952:=by rw[h5];omega
  have hj:-2305843009213693952≤r.1.j∧r.1.j≤2305843009213693952:=by rw[h6];omega
  obtain ⟨e1,e3,e4,e6,e7⟩:=ron_at (less:=less) h2
  by_cases q1:d.1.ak=1
  ·have e:r.1.ln=1:=by rw[h3,q1];rfl
   rw[e1 e]
   exact rson1 h hc e h1 h2 hb2 hq hm hi hj less
  ·by_cases q2:d.1.ak=2
   ·have e:r.1.ln=3:=by rw[h3,q2];rfl
    rw[e3 e]
    exact rson3 h hc e h1 h2 hb2 hq hm hi hj less
   ·by_cases q3:d.1.ak=3
    ·have e:r.1.ln=4:=by rw[h3,q3];rfl
     rw[e4 e]
     exact rson4 h hc e h1 h2 hb2 hq hm hi hj less
    ·by_cases q4:d.1.ak=4
     ·have e:r.1.ln=6:=by rw[h3,q4];rfl
      rw[e6 e]
      exact rson6 h hc e h1 h2 hb2 hq hm hi hj less
     ·have e:r.1.ln=7:=by rw[h3,show d.1.ak=5 by omega];rfl
      rw[e7 e]
      cases less with
      | true=>
        by_cases q:r.1.j<r.1.i
        ·have er:ron7 r true (d.1.lo,d.1.up).1 (d.1.lo,d.1.up).2=({r.1 with er:=15},r.2):=by unfold ron7;rw[if_pos ⟨rfl,q⟩]
         rw[er]
         exact rson7a h hc e h1 h2 hb2 hq hm hi hj q
        ·have er:ron7 r true (d.1.lo,d.1.up).1 (d.1.lo,d.1.up).2=rdown r:=by unfold ron7;rw[if_neg (fun z=>q z.2),if_pos rfl]
         rw[er]
         exact rson7b h hc e h1 h2 hb2 hq hm hi hj q
      | false=>
        by_cases q:r.1.i≤r.1.j
        ·have er:ron7 r false (d.1.lo,d.1.up).1 (d.1.lo,d.1.up).2=rup (rput r r.1.i r.1.y r.1.j r.1.x):=by
          unfold ron7
          rw[if_neg (show ¬(false=true∧r.1.j<r.1.i) from fun z=>by cases z.1),if_neg (show ¬(false=true) from fun z=>by cases z),if_pos q]
         rw[er]
         exact rson7c h hc e h1 h2 hb2 hq hm hi hj q
        ·have er:ron7 r false (d.1.lo,d.1.up).1 (d.1.lo,d.1.up).2=rpart r (d.1.lo,d.1.up).1 (d.1.lo,d.1.up).2:=by
          unfold ron7 rpart
          rw[if_neg (show ¬(false=true∧r.1.j<r.1.i) from fun z=>by cases z.1),if_neg (show ¬(false=true) from fun z=>by cases z),if_neg q]
         rw[er]
         exact rson7d h hc e h1 h2 hb2 hq hm hi hj q hf.wl
theorem Ro.pair {No:Nat→Prop} {w:World} {B RT G c:Nat} {rv:Value} {gs:List Nat} {r:RD} (h:Ro No w B RT G c rv gs r):
 ∃N2:Nat→Prop,Rk N2 ((w.alloc (vb 0 0 ⟨#[]⟩)).alloc (vb 0 0 ⟨#[]⟩)) ((w.alloc (vb 0 0 ⟨#[]⟩)).alloc (vb 0 0 ⟨#[]⟩)) B RT G c rv gs r∧∀w4 rv' gs' c' r' (x y:V),Rk N2 ((w.alloc (vb 0 0 ⟨#[]⟩)).alloc (vb 0 0 ⟨#[]⟩)) w4 B RT G c' rv' gs' r'→
  (R3 w4 w.heap.size nil∧R3 w4 (w.heap.size+1) nil)∧R3 (set3 (set3 w4 w.heap.size x) (w.heap.size+1) y) w.heap.size x∧R3 (set3 (set3 w4 w.heap.size x) (w.heap.size+1) y) (w.heap.size+1) y∧Ro No (set3 (set3 w4 w.heap.size x) (w.heap.size+1) y) B RT G c' rv' gs' r'∧Keep No w (set3 (set3 w4 w.heap.size x) (w.heap.size+1) y):=by
 have B0:=b2 w (vb 0 0 ⟨#[]⟩) (vb 0 0 ⟨#[]⟩)
 have X1:=(R3.made w nil).below (b1 _ (vb 0 0 ⟨#[]⟩))
 have X2:=R3.made (w.alloc (vb 0 0 ⟨#[]⟩)) nil
 have eX:(w.alloc (vb 0 0 ⟨#[]⟩)).heap.size=w.heap.size+1:=by simp
 rw[eX] at X2
 have z0:((w.alloc (vb 0 0 ⟨#[]⟩)).alloc (vb 0 0 ⟨#[]⟩)).heap.size=w.heap.size+2:=by simp
 have hNo:=h.nos
 refine ⟨_,⟨h.news B0,Keep.refl _ _⟩,fun w4 rv' gs' c' r' x y k=>?_⟩
 have n0:(fun g=>No g∨(w.heap.size≤g∧g<((w.alloc (vb 0 0 ⟨#[]⟩)).alloc (vb 0 0 ⟨#[]⟩)).heap.size)) w.heap.size:=.inr ⟨Nat.le_refl _,by omega⟩
 have n1:(fun g=>No g∨(w.heap.size≤g∧g<((w.alloc (vb 0 0 ⟨#[]⟩)).alloc (vb 0 0 ⟨#[]⟩)).heap.size)) (w.heap.size+1):=.inr ⟨by omega,by omega⟩
 have a1:=R3.kept X1 k.kp n0
 have a2:=R3.kept X2 k.kp n1
 have y1:=a1.set x
 have k1:Keep (fun g=>g≠w.heap.size) w4 (set3 w4 w.heap.size x):=(Keep.refl _ _).set3 (fun q=>q rfl) x
 have a2':=a2.kept k1 (by show w.heap.size+1≠w.heap.size;omega)
 have y2:=a2'.set y
 have k2:Keep (fun g=>g≠w.heap.size+1) (set3 w4 w.heap.size x) (set3 (set3 w4 w.heap.size x) (w.heap.size+1) y):=(Keep.refl _ _).set3 (fun q=>q rfl) y
 have y1':=y1.kept k2 (by show w.heap.size≠w.heap.size+1;omega)
 refine ⟨⟨a1,a2⟩,y1',y2,?_,?_⟩
 ·exact (k.so.frame (w':=set3 (set3 w4 w.heap.size x) (w.heap.size+1) y) (((Keep.refl _ _).set3 (fun q=>q n0) x).set3 (fun q=>q n1) y)).sub (fun g q=>.inl (.inl q))
 ·exact (((Keep.of B0).trans (k.kp.sub (fun g q=>.inl q))).set3 (fun q=>by have:=hNo _ q;omega) x).set3 (fun q=>by have:=hNo _ q;omega) y
set_option maxRecDepth 20000 in
set_option maxHeartbeats 4000000 in
theorem rsnext_any {No:Nat→Prop} {w:World} {B RT G c:Nat} {rv:Value} {gs:List Nat} {r:RD} (h:Ro No w B RT G c rv gs r) (hc:c≤390000) {d:SD} (hri:RI d r) (hf:Fit d.1) (hp:Pb 300 d.1) (less:Bool):
 Calls Tryz.prog 13 #[.pointer (some ⟨B,0,none⟩),.bool less] w fun e w'=>e= .returned (tol4 (rnx r less).2)∧(∃rv' gs',Ro No w' B RT G (c+40) rv' gs' (rnx r less).1)∧Keep No w w':=by
 obtain ⟨N2,K0,HF0⟩:=h.pair
 have HF:Hid _:=HF0
 obtain ⟨W0,hW0⟩:∃W0,(w.alloc (vb 0 0 ⟨#[]⟩)).alloc (vb 0 0 ⟨#[]⟩)=W0:=⟨_,rfl⟩
 rw[hW0] at HF K0
 unfold vb at hW0
 have c22:W0.cell? ⟨B,22,none⟩=some (.bool r.1.ak):=K0.cell (j:=22) rfl
 have f0:=K0.so.free
 have K1:=K0.st1 22 (.bool false) {r.1 with ak:=false} rfl rfl
 obtain ⟨W1,hW1⟩:∃W1,W0.setCell ⟨B,22,none⟩ (.bool false)=W1:=⟨_,rfl⟩
 rw[hW1] at K1
 have c2:W1.cell? ⟨B,2,none⟩=some (.int .i64 r.1.ln):=K1.cell (j:=2) rfl
 have HFin:Hid (∀w4 rv4 gs4 c4 (r1:RD),c4≤c+40→Rk N2 W0 w4 B RT G c4 rv4 gs4 r1→((R3 w4 w.heap.size nil∧R3 w4 (w.heap.size+1) nil)∧∀x y,R3 (set3 (set3 w4 w.heap.size x) (w.heap.size+1) y) w.heap.size x∧R3 (set3 (set3 w4 w.heap.size x) (w.heap.size+1) y) (w.heap.size+1) y∧Ro No (set3 (set3 w4 w.heap.size x) (w.heap.size+1) y) B RT G (c+40) rv4 gs4 r1∧Keep No w (set3 (set3 w4 w.heap.size x) (w.heap.size+1) y))):=fun w4 rv4 gs4 c4 r1 hc4 k4=>by
  refine ⟨(HF.out w4 rv4 gs4 c4 r1 nil nil k4).1,fun x y=>?_⟩
  obtain ⟨_,y1,y2,s5,k5⟩:=HF.out w4 rv4 gs4 c4 r1 x y k4
  exact ⟨y1,y2,s5.more hc4,k5⟩
 have hlB:B<w.heap.size:=h.lt
 by_cases h6:d.1.ak=6
 ·obtain ⟨_,hl6,he6⟩:d.1.ak=6∧r.1.ln=-1∧r.1.er=d.1.er:=by
   rcases hri.st with q | q
   ·exact q
   ·omega
  have HP:Hid (rnx r less=(({r.1 with ak:=false,ln:=-1},r.2),(nil,nil,false,r.1.er))):=by
   show _=_
   unfold rnx
   simp only[hl6]
   rw[if_neg (show ¬(0:Int)≤-1 by omega),if_pos (.inr rfl)]
  have hneg:¬(0:Int)≤-1:=by omega
  rw[hl6] at c2
  have c15:W1.cell? ⟨B,15,none⟩=some (.int .i64 r.1.er):=K1.cell (j:=15) rfl
  have c22':W1.cell? ⟨B,22,none⟩=some (.bool false):=K1.cell (j:=22) rfl
  have f1:=K1.so.free
  clear h hri hf hp hl6 he6 h6 HF0 HF K0
  go_enter Tryz.func13,Tryz.ntmps13
  by_cases he0:r.1.er=0
  ·have e0:(r.1.er !=0)=false:=by simpa using he0
   clear he0
   have K5:=K1.st1 2 (.int .i64 (-1)) {({r.1 with ak:=false},r.2).1 with ln:=-1} rfl rfl
   obtain ⟨W5,hW5⟩:∃W,W1.setCell ⟨B,2,none⟩ (.int .i64 (-1))=W:=⟨_,rfl⟩
   rw[hW5] at K5
   have b15:W5.cell? ⟨B,15,none⟩=some (.int .i64 r.1.er):=K5.cell (j:=15) rfl
   obtain ⟨⟨r1a,r2a⟩,hz⟩:=HFin.out _ _ _ _ _ (by omega) K5
   have HZ:Hid _:=hz nil nil
   have n0:=r1a.bx.c0
   have n1:=r1a.bx.c1
   have n2:=r1a.bx.c2
   have n3:=r2a.bx.c0
   have n4:=r2a.bx.c1
   have n5:=r2a.bx.c2
   have fa:=r1a.fz
   have fb:=r2a.fz
   simp only[nil] at n0 n1 n2 n3 n4 n5
   clear r1a r2a hz K5 HFin
   go_wp2_with fail
   go_region
   all_goals
    go_wp2
    have HZ2:=HZ.out
    unfold set3 nil at HZ2
    simp only at HZ2
    obtain ⟨W6,hW6⟩:∃W,(((((W5.setCell ⟨w.heap.size,0,none⟩ (.int .i64 0)).setCell ⟨w.heap.size,1,none⟩ (.int .i64 0)).setCell ⟨w.heap.size,2,none⟩ (.string ⟨#[]⟩)).setCell ⟨w.heap.size+1,0,none⟩ (.int .i64 0)).setCell ⟨w.heap.size+1,1,none⟩ (.int .i64 0)).setCell ⟨w.heap.size+1,2,none⟩ (.string ⟨#[]⟩)=W:=⟨_,rfl⟩
    rw[hW6] at HZ2⊢
    clear hW6
    obtain ⟨q1,q2,q3,q4⟩:=HZ2
    have o0:=q1.bx.c0
    have o1:=q1.bx.c1
    have o2:=q1.bx.c2
    have o3:=q2.bx.c0
    have o4:=q2.bx.c1
    have o5:=q2.bx.c2
    rw[HP.out]
    unfold tol4 nil
    refine bodyPost_ret (v:=.tuple #[.agg #[.int .i64 0,.int .i64 0,.string ⟨#[]⟩],.agg #[.int .i64 0,.int .i64 0,.string ⟨#[]⟩],.bool false,.int .i64 r.1.er]) (by simp[results,Tryz.results13,go_sem,o0,o1,o2,o3,o4,o5]) rfl ⟨rfl,⟨_,_,q3.below (bdrew1 _)⟩,q4.trans (Keep.of (bdrew1 _))⟩
  ·have e0:(r.1.er !=0)=true:=by simpa using he0
   have K5:=K1.st1 2 (.int .i64 (-1)) {({r.1 with ak:=false},r.2).1 with ln:=-1} rfl rfl
   obtain ⟨W5,hW5⟩:∃W,W1.setCell ⟨B,2,none⟩ (.int .i64 (-1))=W:=⟨_,rfl⟩
   rw[hW5] at K5
   have b15:W5.cell? ⟨B,15,none⟩=some (.int .i64 r.1.er):=K5.cell (j:=15) rfl
   obtain ⟨⟨r1a,r2a⟩,hz⟩:=HFin.out _ _ _ _ _ (by omega) K5
   have HZ:Hid _:=hz nil nil
   have n0:=r1a.bx.c0
   have n1:=r1a.bx.c1
   have n2:=r1a.bx.c2
   have n3:=r2a.bx.c0
   have n4:=r2a.bx.c1
   have n5:=r2a.bx.c2
   have fa:=r1a.fz
   have fb:=r2a.fz
   simp only[nil] at n0 n1 n2 n3 n4 n5
   clear r1a r2a hz K5 HFin
   go_wp2_with fail
   go_region
   all_goals
    go_wp2
    have HZ2:=HZ.out
    unfold set3 nil at HZ2
    simp only at HZ2
    obtain ⟨W6,hW6⟩:∃W,(((((W5.setCell ⟨w.heap.size,0,none⟩ (.int .i64 0)).setCell ⟨w.heap.size,1,none⟩ (.int .i64 0)).setCell ⟨w.heap.size,2,none⟩ (.string ⟨#[]⟩)).setCell ⟨w.heap.size+1,0,none⟩ (.int .i64 0)).setCell ⟨w.heap.size+1,1,none⟩ (.int .i64 0)).setCell ⟨w.heap.size+1,2,none⟩ (.string ⟨#[]⟩)=W:=⟨_,rfl⟩
    rw[hW6] at HZ2⊢
    clear hW6
    obtain ⟨q1,q2,q3,q4⟩:=HZ2
    have o0:=q1.bx.c0
    have o1:=q1.bx.c1
    have o2:=q1.bx.c2
    have o3:=q2.bx.c0
    have o4:=q2.bx.c1
    have o5:=q2.bx.c2
    rw[HP.out]
    unfold tol4 nil
    refine bodyPost_ret (v:=.tuple #[.agg #[.int .i64 0,.int .i64 0,.string ⟨#[]⟩],.agg #[.int .i64 0,.int .i64 0,.string ⟨#[]⟩],.bool false,.int .i64 r.1.er]) (by simp[results,Tryz.results13,go_sem,o0,o1,o2,o3,o4,o5]) rfl ⟨rfl,⟨_,_,q3.below (bdrew1 _)⟩,q4.trans (Keep.of (bdrew1 _))⟩
 ·have hri2:RI d ({r.1 with ak:=false},r.2):=⟨hri.tb,hri.st⟩
  have C:=rson_any K1.so (by omega) hri2 hf hp h6 less
  obtain ⟨k0,k5,z1,z2,z3,z4⟩:=hri.st.resolve_left (fun q=>h6 q.1)
  have hln:0≤r.1.ln:=by rw[z3];unfold lnOf;repeat (first | split | omega)
  have hln2:¬r.1.ln<0:=by omega
  obtain ⟨r5,hr5⟩:∃x,ron ({r.1 with ak:=false},r.2) less=x:=⟨_,rfl⟩
  rw[hr5] at C
  unfold RP at C
  have HC:Hid (Calls Tryz.prog 29 #[.pointer (some ⟨B,0,none⟩),.bool less] W1 fun e w'=>e= .returned (.tuple #[])∧∃rv' gs',Rk N2 W0 w' B RT G (c+40) rv' gs' r5):=C.mono fun e w' ⟨q1,⟨rv',gs',q2⟩,q3⟩=>⟨q1,rv',gs',q2,K1.kp.trans q3⟩
  have HPn:Hid (r5.1.er≠0∨r5.1.ak=false→rnx r less=(({r5.1 with ln:=-1},r5.2),(nil,nil,false,r5.1.er))):=fun q=>by
   unfold rnx
   simp only
   rw[if_pos hln,hr5,if_pos q]
  have HPy:Hid (r5.1.er=0→r5.1.ak=true→rnx r less=(r5,(r5.1.a,r5.1.b,true,0))):=fun q q'=>by
   unfold rnx
   simp only
   rw[if_pos hln,hr5,if_neg (fun z=>z.elim (fun y=>y q) (fun y=>by rw[q'] at y;cases y))]
  clear h hri hri2 hf hp h6 HF0 HF K0 C hr5 z1 z2 z3 z4 k0 k5 K1
  go_enter Tryz.func13,Tryz.ntmps13
  go_wp2_with fail
  refine HC.out.mono ?_;rintro e w4 ⟨rfl,rv4,gs4,K4⟩
  have e2:w4.cell? ⟨B,2,none⟩=some (.int .i64 r5.1.ln):=K4.cell (j:=2) rfl
  have e15:w4.cell? ⟨B,15,none⟩=some (.int .i64 r5.1.er):=K4.cell (j:=15) rfl
  have e22:w4.cell? ⟨B,22,none⟩=some (.bool r5.1.ak):=K4.cell (j:=22) rfl
  have f4:=K4.so.free
  clear HC
  by_cases he0:r5.1.er=0
  ·have e0:(r5.1.er !=0)=false:=by simpa using he0
   cases hak:r5.1.ak with
   | false=>
     have HP:Hid _:=HPn.out (.inr hak)
     rw[hak] at e22
     clear HPn HPy hak he0
     have K5:=K4.st1 2 (.int .i64 (-1)) {r5.1 with ln:=-1} rfl rfl
     obtain ⟨W5,hW5⟩:∃W,w4.setCell ⟨B,2,none⟩ (.int .i64 (-1))=W:=⟨_,rfl⟩
     rw[hW5] at K5
     have b15:W5.cell? ⟨B,15,none⟩=some (.int .i64 r5.1.er):=K5.cell (j:=15) rfl
     obtain ⟨⟨r1a,r2a⟩,hz⟩:=HFin.out _ _ _ _ _ (by omega) K5
     have HZ:Hid _:=hz nil nil
     have n0:=r1a.bx.c0
     have n1:=r1a.bx.c1
     have n2:=r1a.bx.c2
     have n3:=r2a.bx.c0
     have n4:=r2a.bx.c1
     have n5:=r2a.bx.c2
     have fa:=r1a.fz
     have fb:=r2a.fz
     simp only[nil] at n0 n1 n2 n3 n4 n5
     clear r1a r2a hz K5 HFin
     go_wp2_with fail
     go_region
     all_goals
      go_wp2
      have HZ2:=HZ.out
      unfold set3 nil at HZ2
      simp only at HZ2
      obtain ⟨W6,hW6⟩:∃W,(((((W5.setCell ⟨w.heap.size,0,none⟩ (.int .i64 0)).setCell ⟨w.heap.size,1,none⟩ (.int .i64 0)).setCell ⟨w.heap.size,2,none⟩ (.string ⟨#[]⟩)).setCell ⟨w.heap.size+1,0,none⟩ (.int .i64 0)).setCell ⟨w.heap.size+1,1,none⟩ (.int .i64 0)).setCell ⟨w.heap.size+1,2,none⟩ (.string ⟨#[]⟩)=W:=⟨_,rfl⟩
      rw[hW6] at HZ2⊢
      clear hW6
      obtain ⟨q1,q2,q3,q4⟩:=HZ2
      have o0:=q1.bx.c0
      have o1:=q1.bx.c1
      have o2:=q1.bx.c2
      have o3:=q2.bx.c0
      have o4:=q2.bx.c1
      have o5:=q2.bx.c2
      rw[HP.out]
      unfold tol4 nil
      refine bodyPost_ret (v:=.tuple #[.agg #[.int .i64 0,.int .i64 0,.string ⟨#[]⟩],.agg #[.int .i64 0,.int .i64 0,.string ⟨#[]⟩],.bool false,.int .i64 r5.1.er]) (by simp[results,Tryz.results13,go_sem,o0,o1,o2,o3,o4,o5]) rfl ⟨rfl,⟨_,_,q3.below (bdrew1 _)⟩,q4.trans (Keep.of (bdrew1 _))⟩
   | true=>
     have HP:Hid _:=HPy.out he0 hak
     rw[hak] at e22
     clear HPn HPy hak he0
     obtain ⟨⟨r1a,r2a⟩,hz⟩:=HFin.out _ _ _ _ _ (by omega) K4
     have HZ:Hid _:=hz r5.1.a r5.1.b
     have d16:w4.cell? ⟨B,16,none⟩=some (.int .i64 r5.1.a.1):=K4.cell (j:=16) rfl
     have d17:w4.cell? ⟨B,17,none⟩=some (.int .i64 r5.1.a.2.1):=K4.cell (j:=17) rfl
     have d18:w4.cell? ⟨B,18,none⟩=some (.string r5.1.a.2.2):=K4.cell (j:=18) rfl
     have d19:w4.cell? ⟨B,19,none⟩=some (.int .i64 r5.1.b.1):=K4.cell (j:=19) rfl
     have d20:w4.cell? ⟨B,20,none⟩=some (.int .i64 r5.1.b.2.1):=K4.cell (j:=20) rfl
     have d21:w4.cell? ⟨B,21,none⟩=some (.string r5.1.b.2.2):=K4.cell (j:=21) rfl
     have n0:=r1a.bx.c0
     have n1:=r1a.bx.c1
     have n2:=r1a.bx.c2
     have n3:=r2a.bx.c0
     have n4:=r2a.bx.c1
     have n5:=r2a.bx.c2
     have fa:=r1a.fz
     have fb:=r2a.fz
     simp only[nil] at n0 n1 n2 n3 n4 n5
     have g1:B≠w.heap.size:=by omega
     have g2:B≠w.heap.size+1:=by omega
     obtain ⟨va,hva⟩:∃x,r5.1.a=x:=⟨_,rfl⟩
     obtain ⟨vb,hvb⟩:∃x,r5.1.b=x:=⟨_,rfl⟩
     simp only[hva] at d16 d17 d18 HZ
     simp only[hvb] at d19 d20 d21 HZ
     have HVA:Hid (r5.1.a=va∧r5.1.b=vb):=⟨hva,hvb⟩
     clear r1a r2a hz HFin K4 hva hvb
     go_wp2_with fail
     go_region
     all_goals
      go_wp2
      have HZ2:=HZ.out
      unfold set3 at HZ2
      obtain ⟨W6,hW6⟩:∃W,((((((w4).setCell ⟨w.heap.size,0,none⟩ (.int .i64 va.1)).setCell ⟨w.heap.size,1,none⟩ (.int .i64 va.2.1)).setCell ⟨w.heap.size,2,none⟩ (.string va.2.2)).setCell ⟨w.heap.size+1,0,none⟩ (.int .i64 vb.1)).setCell ⟨w.heap.size+1,1,none⟩ (.int .i64 vb.2.1)).setCell ⟨w.heap.size+1,2,none⟩ (.string vb.2.2)=W:=⟨_,rfl⟩
      rw[hW6] at HZ2⊢
      clear hW6
      obtain ⟨q1,q2,q3,q4⟩:=HZ2
      have o0:=q1.bx.c0
      have o1:=q1.bx.c1
      have o2:=q1.bx.c2
      have o3:=q2.bx.c0
      have o4:=q2.bx.c1
      have o5:=q2.bx.c2
      rw[HP.out,HVA.out.1,HVA.out.2]
      unfold tol4
      refine bodyPost_ret (v:=.tuple #[.agg #[.int .i64 va.1,.int .i64 va.2.1,.string va.2.2],.agg #[.int .i64 vb.1,.int .i64 vb.2.1,.string vb.2.2],.bool true,.int .i64 0]) (by simp[results,Tryz.results13,go_sem,o0,o1,o2,o3,o4,o5]) rfl ⟨rfl,⟨_,_,q3.below (bdrew1 _)⟩,q4.trans (Keep.of (bdrew1 _))⟩
  ·have e0:(r5.1.er !=0)=true:=by simpa using he0
   have HP:Hid _:=HPn.out (.inl he0)
   clear HPn HPy
   have K5:=K4.st1 2 (.int .i64 (-1)) {r5.1 with ln:=-1} rfl rfl
   obtain ⟨W5,hW5⟩:∃W,w4.setCell ⟨B,2,none⟩ (.int .i64 (-1))=W:=⟨_,rfl⟩
   rw[hW5] at K5
   have b15:W5.cell? ⟨B,15,none⟩=some (.int .i64 r5.1.er):=K5.cell (j:=15) rfl
   obtain ⟨⟨r1a,r2a⟩,hz⟩:=HFin.out _ _ _ _ _ (by omega) K5
   have HZ:Hid _:=hz nil nil
   have n0:=r1a.bx.c0
   have n1:=r1a.bx.c1
   have n2:=r1a.bx.c2
   have n3:=r2a.bx.c0
   have n4:=r2a.bx.c1
   have n5:=r2a.bx.c2
   have fa:=r1a.fz
   have fb:=r2a.fz
   simp only[nil] at n0 n1 n2 n3 n4 n5
   clear r1a r2a hz K5 HFin
   go_wp2_with fail
   go_region
   all_goals
    go_wp2
    have HZ2:=HZ.out
    unfold set3 nil at HZ2
    simp only at HZ2
    obtain ⟨W6,hW6⟩:∃W,(((((W5.setCell ⟨w.heap.size,0,none⟩ (.int .i64 0)).setCell ⟨w.heap.size,1,none⟩ (.int .i64 0)).setCell ⟨w.heap.size,2,none⟩ (.string ⟨#[]⟩)).setCell ⟨w.heap.size+1,0,none⟩ (.int .i64 0)).setCell ⟨w.heap.size+1,1,none⟩ (.int .i64 0)).setCell ⟨w.heap.size+1,2,none⟩ (.string ⟨#[]⟩)=W:=⟨_,rfl⟩
    rw[hW6] at HZ2⊢
    clear hW6
    obtain ⟨q1,q2,q3,q4⟩:=HZ2
    have o0:=q1.bx.c0
    have o1:=q1.bx.c1
    have o2:=q1.bx.c2
    have o3:=q2.bx.c0
    have o4:=q2.bx.c1
    have o5:=q2.bx.c2
    rw[HP.out]
    unfold tol4 nil
    refine bodyPost_ret (v:=.tuple #[.agg #[.int .i64 0,.int .i64 0,.string ⟨#[]⟩],.agg #[.int .i64 0,.int .i64 0,.string ⟨#[]⟩],.bool false,.int .i64 r5.1.er]) (by simp[results,Tryz.results13,go_sem,o0,o1,o2,o3,o4,o5]) rfl ⟨rfl,⟨_,_,q3.below (bdrew1 _)⟩,q4.trans (Keep.of (bdrew1 _))⟩
end Go.Proofs.YtkmopcanaalemabGreat


namespace Go.Proofs.YtkmopcanaalemabGreat
open Go.RowKit
theorem So.frame {No : Nat → Prop} {w w' : World} {B : Nat} {wv : Value} {T A b a S hb c : Nat} {d : SD} (h : So No w B wv T A b a S hb c d) (k : Keep (fun g=>¬ No g) w w') : So (fun g=>No g ∨ (w.heap.size ≤ g ∧ g < w'.heap.size)) w' B wv T A b a S hb c d:=by
  have hl:=h.lt
  refine ⟨(k.block B hl h.nB).trans h.blk,own_kept h.row (fun g q hg=>k.block g hg (h.nW g q)),?_,fun q=>?_,fun g q z=>?_⟩
  · refine (h.tt.frame2 k.os k.tape k.output k.size (fun g hg q=>k.block g hg (fun z=>q (.inl z)))).sub fun g q=>?_
    rcases q with (q | q) | q
    · exact .inl (.inl q)
    · exact .inr q
    · exact .inl (.inr q)
  · exact q.elim h.nB (fun z=>by omega)
  · exact z.elim (h.nW g q) (fun z=>by have:=(h.row.lt g q).2;omega)
structure Sb (Q : Nat → Prop) (w : World) (B T S hb B2 RT G c : Nat) (d : SD) (r : RD) : Prop where
  ex : ∃ N1 N2 : Nat → Prop,(∃ wv A b a,So N1 w B wv T A b a S hb c d) ∧ (∃ rv gs,Ro N2 w B2 RT G c rv gs r) ∧ (∀ g,g < w.heap.size → N1 g ∨ N2 g) ∧ ∀ g,Q g → N1 g ∧ N2 g
structure Smr (Q : Nat → Prop) (w : World) (B T S hb RT G c : Nat) (d : SD) (u : TS) (s' : H.St) : Prop where
  ex : ∃ N1 N2 : Nat → Prop,(∃ wv A b a,So N1 w B wv T A b a S hb c d) ∧ (∃ A P ka va ca cb,RQ N2 w RT A P ka va ca cb G c u s') ∧ (∀ g,g < w.heap.size → N1 g ∨ N2 g) ∧ ∀ g,Q g → N1 g ∧ N2 g
section
variable {Q : Nat → Prop} {w w' : World} {B T S hb B2 RT G c : Nat} {d : SD} {r : RD} {t u : TS} {s s' : H.St}
theorem Sb.more {c' : Nat} (h : Sb Q w B T S hb B2 RT G c d r) (hc : c ≤ c') : Sb Q w B T S hb B2 RT G c' d r:=by
  obtain ⟨N1,N2,⟨wv,A,b,a,h1⟩,⟨rv,gs,h2⟩,h3,h4⟩:=h.ex
  exact ⟨N1,N2,⟨wv,A,b,a,h1.more hc⟩,⟨rv,gs,h2.more hc⟩,h3,h4⟩
theorem Sb.below (h : Sb Q w B T S hb B2 RT G c d r) (k : Below w.heap.size w w') : Sb Q w' B T S hb B2 RT G c d r:=by
  obtain ⟨N1,N2,⟨wv,A,b,a,h1⟩,⟨rv,gs,h2⟩,h3,h4⟩:=h.ex
  refine ⟨_,_,⟨wv,A,b,a,h1.news k⟩,⟨rv,gs,h2.news k⟩,fun g hg=>?_,fun g q=>⟨.inl (h4 g q).1,.inl (h4 g q).2⟩⟩
  by_cases e : g < w.heap.size
  · exact (h3 g e).imp .inl .inl
  · exact .inl (.inr ⟨by omega,hg⟩)
theorem Sb.news (h : Sb Q w B T S hb B2 RT G c d r) (k : Below w.heap.size w w') : Sb (fun g=>Q g ∨ (w.heap.size ≤ g ∧ g < w'.heap.size)) w' B T S hb B2 RT G c d r:=by
  obtain ⟨N1,N2,⟨wv,A,b,a,h1⟩,⟨rv,gs,h2⟩,h3,h4⟩:=h.ex
  refine ⟨_,_,⟨wv,A,b,a,h1.news k⟩,⟨rv,gs,h2.news k⟩,fun g hg=>?_,fun g q=>q.elim (fun q=>⟨.inl (h4 g q).1,.inl (h4 g q).2⟩) (fun q=>⟨.inr q,.inr q⟩)⟩
  by_cases e : g < w.heap.size
  · exact (h3 g e).imp .inl .inl
  · exact .inl (.inr ⟨by omega,hg⟩)
theorem Sb.sub {Q' : Nat → Prop} (h : Sb Q w B T S hb B2 RT G c d r) (hq : ∀ g,Q' g → Q g) : Sb Q' w B T S hb B2 RT G c d r:=by
  obtain ⟨N1,N2,h1,h2,h3,h4⟩:=h.ex
  exact ⟨N1,N2,h1,h2,h3,fun g q=>h4 g (hq g q)⟩
theorem Sb.bz (h : Sb Q w B T S hb B2 RT G c d r) : Bz Q w T S hb RT G c d.2.1 d.2.2 r.2.1 r.2.2:=by
  obtain ⟨N1,N2,⟨wv,A,b,a,h1⟩,⟨rv,gs,h2⟩,h3,h4⟩:=h.ex
  obtain ⟨N',A',P,ka,va,ca,cb,_,_,q,q4,_⟩:=h2.ex
  exact ⟨⟨N1,N2,⟨A,b,a,h1.tt.sub fun g z=>.inl z⟩,⟨A',P,ka,va,ca,cb,q.sub q4⟩,h3,h4⟩⟩
theorem Sb.next (h : Sb Q w B T S hb B2 RT G c d r) (hc : c ≤ 390000) (hf : Fit d.1) (less : Bool) (ha : 0 ≤ d.1.ak ∧ d.1.ak ≤ 6) :
    Calls Tryz.prog 12 #[.pointer (some ⟨B,0,none⟩),.bool less] w fun e w'=>e = .returned (tol4 (goR d less).2) ∧ Sb Q w' B T S hb B2 RT G (c + 40) (goR d less).1 r ∧ Keep Q w w':=by
  obtain ⟨N1,N2,⟨wv,A,b,a,h1⟩,⟨rv,gs,h2⟩,h3,h4⟩:=h.ex
  refine (next_any h1 (by omega) hf less ha).mono fun e w' ⟨e1,⟨wv',A',b',a',q1⟩,kk⟩=>⟨e1,⟨N1,_,⟨wv',A',b',a',q1.more (by omega)⟩,⟨rv,gs,(h2.frame (w':=w') ⟨kk.os,kk.tape,kk.output,kk.size,fun g hg hn=>kk.block g hg ((h3 g hg).resolve_right hn)⟩).more (by omega)⟩,fun g hg=>?_,fun g q=>⟨(h4 g q).1,.inl (h4 g q).2⟩⟩,kk.sub (fun g q=>(h4 g q).1)⟩
  by_cases e : g < w.heap.size
  · exact (h3 g e).imp id .inl
  · exact .inr (.inr ⟨by omega,hg⟩)
theorem Sb.rnext (h : Sb Q w B T S hb B2 RT G c d r) (hc : c ≤ 390000) {d0 : SD} (hri : RI d0 r) (hf : Fit d0.1) (hp : Pb 300 d0.1) (less : Bool) :
    Calls Tryz.prog 13 #[.pointer (some ⟨B2,0,none⟩),.bool less] w fun e w'=>e = .returned (tol4 (rnx r less).2) ∧ Sb Q w' B T S hb B2 RT G (c + 40) d (rnx r less).1 ∧ Keep Q w w':=by
  obtain ⟨N1,N2,⟨wv,A,b,a,h1⟩,⟨rv,gs,h2⟩,h3,h4⟩:=h.ex
  refine (rsnext_any h2 hc hri hf hp less).mono fun e w' ⟨e1,⟨rv',gs',q1⟩,kk⟩=>⟨e1,⟨_,N2,⟨wv,A,b,a,(h1.frame (w':=w') ⟨kk.os,kk.tape,kk.output,kk.size,fun g hg hn=>kk.block g hg ((h3 g hg).resolve_left hn)⟩).more (by omega)⟩,⟨rv',gs',q1⟩,fun g hg=>?_,fun g q=>⟨.inl (h4 g q).1,(h4 g q).2⟩⟩,kk.sub (fun g q=>(h4 g q).2)⟩
  by_cases e : g < w.heap.size
  · exact (h3 g e).imp .inl id
  · exact .inl (.inr ⟨by omega,hg⟩)
theorem Bz.snew (h : Bz Q w T S hb RT G c t s u s') (n : Int) :
    Calls Tryz.prog 10 #[.pointer (some ⟨T,0,none⟩),.int .i64 n] w fun e w'=>∃ B,e = .returned (.pointer (some ⟨B,0,none⟩)) ∧ Smr Q w' B T S hb RT G c (U.s0 n,t,s) u s' ∧ Keep Q w w':=by
  obtain ⟨N1,N2,⟨A,b,a,h1⟩,⟨A',P,ka,va,ca,cb,h2⟩,h3,h4⟩:=h.tt
  refine (snew_any h1 n).mono fun e w' ⟨e1,q1,kk⟩=>⟨_,e1,⟨N1,_,⟨_,A,b,a,q1⟩,⟨A',P,ka,va,ca,cb,h2.frame (w':=w') ⟨kk.os,kk.tape,kk.output,kk.size,fun g hg hn=>kk.block g hg ((h3 g hg).resolve_right hn)⟩⟩,fun g hg=>?_,fun g q=>⟨(h4 g q).1,.inl (h4 g q).2⟩⟩,kk.sub (fun g q=>(h4 g q).1)⟩
  by_cases e : g < w.heap.size
  · exact (h3 g e).imp id .inl
  · exact .inr (.inr ⟨by omega,hg⟩)
theorem Smr.rnew (h : Smr Q w B T S hb RT G c d u s') (n : Int) :
    Calls Tryz.prog 11 #[.pointer (some ⟨RT,0,none⟩),.int .i64 n] w fun e w'=>∃ B2,e = .returned (.pointer (some ⟨B2,0,none⟩)) ∧ Sb Q w' B T S hb B2 RT G c d (rs0 n,u,s') ∧ Keep Q w w':=by
  obtain ⟨N1,N2,⟨wv,A,b,a,h1⟩,⟨A',P,ka,va,ca,cb,h2⟩,h3,h4⟩:=h.ex
  refine (rsnew_any h2 n).mono fun e w' ⟨e1,q1,kb⟩=>⟨_,e1,⟨_,N2,⟨wv,A,b,a,h1.news kb⟩,⟨_,_,q1⟩,fun g hg=>?_,fun g q=>⟨.inl (h4 g q).1,(h4 g q).2⟩⟩,Keep.of kb⟩
  by_cases e : g < w.heap.size
  · exact (h3 g e).imp .inl id
  · exact .inl (.inr ⟨by omega,hg⟩)
end
end Go.Proofs.YtkmopcanaalemabGreat


namespace Go.Proofs.YtkmopcanaalemabGreat
theorem goR_end {d : SD} (h6 : d.1.ak = 6) (less : Bool) : goR d less = (d,endT d.1.er):=by
  unfold goR
  rw [if_neg (by omega),if_neg (by omega),if_neg (by omega),if_neg (by omega),if_neg (by omega),if_pos h6]
theorem lnOf_pos (k : Int) : 0 ≤ lnOf k:=by
  unfold lnOf
  repeat' split
  all_goals omega
theorem RI.fin {d : SD} {r : RD} (h : RI d r) (less : Bool) (hm : (rnx r less).2.2.2.1 = false) :
    (goR d less).1.1.ak = 6 ∧ (rnx r less).2 = endT (goR d less).1.1.er ∧ ∀ l2,goR (goR d less).1 l2 = ((goR d less).1,endT (goR d less).1.1.er):=by
  obtain ⟨g1,g2⟩:=h.go less
  have hk : (rnx r less).1.1.ln = -1 ∧ (rnx r less).2 = (nil,nil,false,(rnx r less).1.1.er):=by
    obtain ⟨r1,hr1⟩ : ∃ x,(if 0 ≤ r.1.ln then ron ({ r.1 with ak:=false },r.2) less else ({ r.1 with ak:=false },r.2)) = x:=⟨_,rfl⟩
    have e : rnx r less = if r1.1.er ≠ 0 ∨ r1.1.ak = false then (({ r1.1 with ln:=-1 },r1.2),(nil,nil,false,r1.1.er)) else (r1,(r1.1.a,r1.1.b,true,0)):=by subst hr1;rfl
    rw [e] at hm ⊢
    by_cases c : r1.1.er ≠ 0 ∨ r1.1.ak = false
    · rw [if_pos c]
      exact ⟨rfl,rfl⟩
    · rw [if_neg c] at hm
      cases hm
  rcases g1.st with ⟨e6,el,ee⟩ | ⟨k0,k5,h1,h2,h3,_⟩
  · refine ⟨e6,?_,fun l2=>goR_end e6 l2⟩
    rw [hk.2,ee]
    rfl
  · have:=lnOf_pos (goR d less).1.1.ak
    rw [hk.1] at h3
    omega
end Go.Proofs.YtkmopcanaalemabGreat


namespace Go.Proofs.YtkmopcanaalemabGreat
open Go.RowKit
structure Vin (w : World) (a : Option Addr) (L : Nat) (F : Nat → V) : Prop where
  at' : ∀ i,i < L → ∃ lb off,a = some ⟨lb,off,none⟩ ∧ lb < w.heap.size ∧ w.cell? ⟨lb,off + i * 3,none⟩ = some (.int .i64 (F i).1) ∧ w.cell? ⟨lb,off + i * 3 + 1,none⟩ = some (.int .i64 (F i).2.1) ∧ w.cell? ⟨lb,off + i * 3 + 2,none⟩ = some (.string (F i).2.2)
structure Bin (w : World) (a : Option Addr) (L : Nat) (An : Nat → Bool) : Prop where
  at' : ∀ i,i < L → ∃ lb off,a = some ⟨lb,off,none⟩ ∧ lb < w.heap.size ∧ w.cell? ⟨lb,off + i,none⟩ = some (.bool (An i))
theorem Vin.below {w w' : World} {a : Option Addr} {L : Nat} {F : Nat → V} (h : Vin w a L F) (k : Below w.heap.size w w') : Vin w' a L F:=⟨fun i hi=>by
  obtain ⟨lb,off,e,hl,c0,c1,c2⟩:=h.at' i hi
  exact ⟨lb,off,e,Nat.lt_of_lt_of_le hl k.size,by rw [k.cell (by exact hl)];exact c0,by rw [k.cell (by exact hl)];exact c1,by rw [k.cell (by exact hl)];exact c2⟩⟩
theorem Bin.below {w w' : World} {a : Option Addr} {L : Nat} {An : Nat → Bool} (h : Bin w a L An) (k : Below w.heap.size w w') : Bin w' a L An:=⟨fun i hi=>by
  obtain ⟨lb,off,e,hl,c0⟩:=h.at' i hi
  exact ⟨lb,off,e,Nat.lt_of_lt_of_le hl k.size,by rw [k.cell (by exact hl)];exact c0⟩⟩
end Go.Proofs.YtkmopcanaalemabGreat
