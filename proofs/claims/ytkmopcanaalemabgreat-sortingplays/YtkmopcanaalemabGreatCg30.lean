import Derived.Test.YtkmopcanaalemabGreatCg29
import Derived.Test.YtkmopcanaalemabGreatCg02
import Derived.BigRegion
import Derived.Deep.DeepCutAuto
namespace Go.Proofs.YtkmopcanaalemabGreat
open Go.RowKit
theorem rput_a {r:RD} {a:Int} {v:V} {b:Int} {u:V} (h0:r.1.er=0) (h1:(tset r.2.1 r.2.2 (kn a) v).2.2=0):
 rput r a v b u=({r.1 with er:=(tset (tset r.2.1 r.2.2 (kn a) v).1 (tset r.2.1 r.2.2 (kn a) v).2.1 (kn b) u).2.2},(tset (tset r.2.1 r.2.2 (kn a) v).1 (tset r.2.1 r.2.2 (kn a) v).2.1 (kn b) u).1,(tset (tset r.2.1 r.2.2 (kn a) v).1 (tset r.2.1 r.2.2 (kn a) v).2.1 (kn b) u).2.1):=by
 have e:stE (endS 0,r.2) a v=0:=h1
 unfold rput
 rw[if_pos h0]
 unfold putE putD
 rw[if_neg (fun q=>q e),if_neg (fun q=>q e)]
 rfl
theorem rput_b {r:RD} {a:Int} {v:V} {b:Int} {u:V} (h0:r.1.er=0) (h1:(tset r.2.1 r.2.2 (kn a) v).2.2≠0):
 rput r a v b u=({r.1 with er:=(tset r.2.1 r.2.2 (kn a) v).2.2},(tset r.2.1 r.2.2 (kn a) v).1,(tset r.2.1 r.2.2 (kn a) v).2.1):=by
 have e:stE (endS 0,r.2) a v≠0:=h1
 unfold rput
 rw[if_pos h0]
 unfold putE putD
 rw[if_pos e,if_pos e]
 rfl
set_option maxRecDepth 20000 in
set_option maxHeartbeats 4000000 in
theorem rsput_any {No:Nat→Prop} {w:World} {B RT G c:Nat} {rv:Value} {gs:List Nat} {r:RD} (h:Ro No w B RT G c rv gs r) (hc:c≤600000) (i1 i2:Int) (v u:V) (h1:-9223372036854775808≤i1) (h2:i1≤9223372036854775807) (h3:-9223372036854775808≤i2) (h4:i2≤9223372036854775807):
 Calls Tryz.prog 65 #[.pointer (some ⟨B,0,none⟩),.int .i64 i1,.agg #[.int .i64 v.1,.int .i64 v.2.1,.string v.2.2],.int .i64 i2,.agg #[.int .i64 u.1,.int .i64 u.2.1,.string u.2.2]] w fun e w'=>e= .returned (.tuple #[])∧Ro No w' B RT G (c+14) rv gs (rput r i1 v i2 u)∧Keep No w w':=by
 have B0:=b2 w (vb v.1 v.2.1 v.2.2) (vb u.1 u.2.1 u.2.2)
 have X1:=(Bx.made w v).below (b1 _ (vb u.1 u.2.1 u.2.2))
 have X2:=Bx.made (w.alloc (vb v.1 v.2.1 v.2.2)) u
 have eX:(w.alloc (vb v.1 v.2.1 v.2.2)).heap.size=w.heap.size+1:=by simp
 rw[eX] at X2
 have z0:((w.alloc (vb v.1 v.2.1 v.2.2)).alloc (vb u.1 u.2.1 u.2.2)).heap.size=w.heap.size+2:=by simp
 have s0:=h.news B0
 obtain ⟨W0,hW0⟩:∃W0,(w.alloc (vb v.1 v.2.1 v.2.2)).alloc (vb u.1 u.2.1 u.2.2)=W0:=⟨_,rfl⟩
 rw[hW0] at B0 X1 X2 z0 s0
 obtain ⟨N2,hN2⟩:∃N2,(fun g=>No g∨(w.heap.size≤g∧g<W0.heap.size))=N2:=⟨_,rfl⟩
 have HN:Hid ((∀g,No g→N2 g)∧N2 w.heap.size∧N2 (w.heap.size+1)):=by
  subst hN2
  exact ⟨fun g q=>.inl q,.inr ⟨Nat.le_refl _,by omega⟩,.inr ⟨by omega,by omega⟩⟩
 rw[hN2] at s0
 clear hN2
 have K0:Rk N2 W0 W0 B RT G c rv gs r:=⟨s0,Keep.refl _ _⟩
 have HK0:Hid (Rk N2 W0 W0 B RT G c rv gs r):=K0
 have HE:Hid (∀w1 c' r',c'≤c+14→Rk N2 W0 w1 B RT G c' rv gs r'→Ro No w1 B RT G (c+14) rv gs r'∧Keep No w w1):=fun w1 c' r' q k=>⟨(k.so.sub HN.out.1).more q,(Keep.of B0).trans (k.kp.sub HN.out.1)⟩
 have HX:Hid (∀W,Keep N2 W0 W→(W.cell? ⟨w.heap.size,0,none⟩=some (.int .i64 v.1)∧W.cell? ⟨w.heap.size,1,none⟩=some (.int .i64 v.2.1)∧W.cell? ⟨w.heap.size,2,none⟩=some (.string v.2.2))∧(W.cell? ⟨w.heap.size+1,0,none⟩=some (.int .i64 u.1)∧W.cell? ⟨w.heap.size+1,1,none⟩=some (.int .i64 u.2.1)∧W.cell? ⟨w.heap.size+1,2,none⟩=some (.string u.2.2))):=fun W k=>by
  have q1:=X1.kept k HN.out.2.1
  have q2:=X2.kept k HN.out.2.2
  exact ⟨⟨q1.c0,q1.c1,q1.c2⟩,q2.c0,q2.c1,q2.c2⟩
 have HI:Hid (∀(n:Int) (W:World),Calls Tryz.prog 17 #[.int .i64 n] W fun e w'=>e= .returned (.agg #[.int .i64 2,.int .i64 n,.string ⟨#[]⟩])∧Below W.heap.size W w'):=fun n W=>mkI n W
 have HS:Hid (∀(W:World) (c':Nat) (r':RD) (n:Int) (x:V),c'≤700000→(-9223372036854775808≤n∧n≤9223372036854775807)→Rk N2 W0 W B RT G c' rv gs r'→Calls Tryz.prog 27 #[.pointer (some ⟨RT,0,none⟩),.agg #[.int .i64 2,.int .i64 n,.string ⟨#[]⟩],.agg #[.int .i64 x.1,.int .i64 x.2.1,.string x.2.2]] W fun e w'=>e= .returned (.int .i64 (tset r'.2.1 r'.2.2 (kn n) x).2.2)∧Rk N2 W0 w' B RT G (c'+7) rv gs (r'.1,(tset r'.2.1 r'.2.2 (kn n) x).1,(tset r'.2.1 r'.2.2 (kn n) x).2.1)):=fun W c' r' n x hc' hn k=>(k.so.st hc' n hn.1 hn.2 x).mono fun e w' ⟨q1,q2,q3⟩=>⟨q1,q2,k.kp.trans q3⟩
 obtain ⟨⟨x0,x1,x2⟩,⟨y0,y1,y2⟩⟩:=HX.out W0 (Keep.refl _ _)
 have c0:W0.cell? ⟨B,0,none⟩=some (.pointer (some ⟨RT,0,none⟩)):=K0.cell (j:=0) rfl
 have c15:W0.cell? ⟨B,15,none⟩=some (.int .i64 r.1.er):=K0.cell (j:=15) rfl
 unfold vb at hW0
 clear h B0 X1 X2 z0 s0 K0 eX
 by_cases h0:r.1.er=0
 ·have e0:(r.1.er==0)=true:=by simpa using h0
  obtain ⟨R1,hR1⟩:∃R1,tset r.2.1 r.2.2 (kn i1) v=R1:=⟨_,rfl⟩
  have HPb:Hid (R1.2.2≠0→rput r i1 v i2 u=({r.1 with er:=R1.2.2},R1.1,R1.2.1)):=fun q=>by rw[rput_b h0 (by rw[hR1];exact q),hR1]
  have HPa:Hid (R1.2.2=0→rput r i1 v i2 u=({r.1 with er:=(tset R1.1 R1.2.1 (kn i2) u).2.2},(tset R1.1 R1.2.1 (kn i2) u).1,(tset R1.1 R1.2.1 (kn i2) u).2.1)):=fun q=>by rw[rput_a h0 (by rw[hR1];exact q),hR1]
  have HS1:Hid (∀W,Rk N2 W0 W B RT G c rv gs r→Calls Tryz.prog 27 #[.pointer (some ⟨RT,0,none⟩),.agg #[.int .i64 2,.int .i64 i1,.string ⟨#[]⟩],.agg #[.int .i64 v.1,.int .i64 v.2.1,.string v.2.2]] W fun e w'=>e= .returned (.int .i64 R1.2.2)∧Rk N2 W0 w' B RT G (c+7) rv gs (r.1,R1.1,R1.2.1)):=fun W k=>by
   have:=HS.out W c r i1 v (by omega) ⟨h1,h2⟩ k
   rw[hR1] at this
   exact this
  have HE0:Hid (r.1.er=0):=h0
  clear hR1 h0 y0 y1 y2
  go_enter Tryz.func65,Tryz.ntmps65
  go_wp2_with fail
  go_cut [] (fun wx=>Rk N2 W0 wx B RT G (c+7) rv gs ({r.1 with er:=R1.2.2},R1.1,R1.2.1))
  case first=>
   go_region_with (first
    | (go_at_call 17;refine (HI.out _ _).mono ?_;rintro e w2 ⟨rfl,hb2⟩;have HR2:Hid (Rk N2 W0 w2 B RT G c rv gs r):=(HK0.out.drew.below hb2);obtain ⟨⟨i0,i1',i2'⟩,_⟩:=HX.out w2 HR2.out.kp;have i3:w2.cell? ⟨B,0,none⟩=some (.pointer (some ⟨RT,0,none⟩)):=HR2.out.cell (j:=0) rfl;clear hb2)
    | (go_at_call 27;refine (HS1.out w2 HR2.out).mono ?_;rintro e w3 ⟨rfl,k3⟩;have j0:w3.cell? ⟨B,15,none⟩=some (.int .i64 r.1.er):=k3.cell (j:=15) rfl;have jf:=k3.so.free;have HR3:Hid (Rk N2 W0 w3 B RT G (c+7) rv gs (r.1,R1.1,R1.2.1)):=k3;clear k3))
   all_goals
    go_wp2_with fail
    go_meet
    exact HR3.out.st1 15 (.int .i64 R1.2.2) {r.1 with er:=R1.2.2} rfl rfl
  case rest=>
   have HC:Hid (Rk N2 W0 wc B RT G (c+7) rv gs ({r.1 with er:=R1.2.2},R1.1,R1.2.1)):=hcut
   have a15:wc.cell? ⟨B,15,none⟩=some (.int .i64 R1.2.2):=hcut.cell (j:=15) rfl
   have a0:wc.cell? ⟨B,0,none⟩=some (.pointer (some ⟨RT,0,none⟩)):=hcut.cell (j:=0) rfl
   obtain ⟨_,⟨y0,y1,y2⟩⟩:=HX.out wc hcut.kp
   clear hcut HS1 HK0 x0 x1 x2 c0 c15 e0 HE0
   by_cases hE:R1.2.2=0
   ·have e1:(R1.2.2==0)=true:=by simpa using hE
    obtain ⟨R2,hR2⟩:∃R2,tset R1.1 R1.2.1 (kn i2) u=R2:=⟨_,rfl⟩
    have HP:=HPa.out hE
    rw[hR2] at HP
    have HS2:Hid (∀W,Rk N2 W0 W B RT G (c+7) rv gs ({r.1 with er:=R1.2.2},R1.1,R1.2.1)→Calls Tryz.prog 27 #[.pointer (some ⟨RT,0,none⟩),.agg #[.int .i64 2,.int .i64 i2,.string ⟨#[]⟩],.agg #[.int .i64 u.1,.int .i64 u.2.1,.string u.2.2]] W fun e w'=>e= .returned (.int .i64 R2.2.2)∧Rk N2 W0 w' B RT G (c+7+7) rv gs ({r.1 with er:=R1.2.2},R2.1,R2.2.1)):=fun W k=>by
     have:=HS.out W (c+7) _ i2 u (by omega) ⟨h3,h4⟩ k
     rw[hR2] at this
     exact this
    have HQ:Hid (rput r i1 v i2 u=({r.1 with er:=R2.2.2},R2.1,R2.2.1)):=HP
    clear hR2 HP HPa HPb hE HS
    go_wp2_with fail
    go_region_with (first
     | (go_at_call 17;refine (HI.out _ _).mono ?_;rintro e w2 ⟨rfl,hb2⟩;have HR2:Hid (Rk N2 W0 w2 B RT G (c+7) rv gs ({r.1 with er:=R1.2.2},R1.1,R1.2.1)):=(HC.out.drew.below hb2);obtain ⟨_,⟨i0,i1',i2'⟩⟩:=HX.out w2 HR2.out.kp;have i3:w2.cell? ⟨B,0,none⟩=some (.pointer (some ⟨RT,0,none⟩)):=HR2.out.cell (j:=0) rfl;clear hb2)
     | (go_at_call 27;refine (HS2.out w2 HR2.out).mono ?_;rintro e w3 ⟨rfl,k3⟩;have j0:w3.cell? ⟨B,15,none⟩=some (.int .i64 R1.2.2):=k3.cell (j:=15) rfl;have jf:=k3.so.free;have HR3:Hid (Rk N2 W0 w3 B RT G (c+7+7) rv gs ({r.1 with er:=R1.2.2},R2.1,R2.2.1)):=k3;clear k3))
    all_goals
     go_wp2_with fail
     have kz:=HR3.out.st1 15 (.int .i64 R2.2.2) {r.1 with er:=R2.2.2} rfl rfl
     go_end0
     rw[HQ.out]
     exact ⟨rfl,HE.out _ _ _ (by omega) kz⟩
   ·have e1:(R1.2.2==0)=false:=by simpa using hE
    have HP:=HPb.out hE
    have HQ:Hid (rput r i1 v i2 u=({r.1 with er:=R1.2.2},R1.1,R1.2.1)):=HP
    clear HP HPa HPb hE HS
    go_wp2
    go_end0
    rw[HQ.out]
    exact ⟨rfl,HE.out _ _ _ (by omega) HC.out⟩
 ·have e0:(r.1.er==0)=false:=by simpa using h0
  have HP:rput r i1 v i2 u=r:=by unfold rput;rw[if_neg h0]
  rw[HP]
  clear h0 HP HS
  go_enter Tryz.func65,Tryz.ntmps65
  go_wp2
  go_end0
  exact ⟨rfl,HE.out _ _ _ (by omega) HK0.out⟩
end Go.Proofs.YtkmopcanaalemabGreat


namespace Go.Proofs.YtkmopcanaalemabGreat
open Go.RowKit
theorem wpAny_inv {P:Program} {ops:Array Oper} {Q:Exit→Act→World→Prop} {md:Region.Mode} (I:Array Bool→Act→World→Prop)
 (hz:∀l a w,I l a w→l.size=ops.size)
 (hs:∀l a w,I l a w→∀i∈Region.ready md ops l,wpOp P ops Q i (I (l.setIfInBounds i true)) a w)
 (hd:∀l a w,I l a w→Region.ready md ops l=[]→Q .normal a w):
 ∀(fuel:Nat) (l:Array Bool) (a:Act) (w:World),l.toList.count false≤fuel→I l a w→wpAny P md ops Q fuel l a w:=by
 intro fuel
 induction fuel with
 | zero=>
   intro l a w hc h
   have hr:Region.ready md ops l=[]:=by
    unfold Region.ready
    rw[List.filter_eq_nil_iff]
    intro i hi
    have hi:=List.mem_range.1 hi
    rw[←hz l a w h] at hi
    have hc0:l.toList.count false=0:=by omega
    have hm:¬false∈l.toList:=List.count_eq_zero.1 hc0
    have :l.getD i true=true:=by
     cases hb:l.getD i true with
     | true=>rfl
     | false=>
       exfalso
       apply hm
       rw[Array.getD_eq_getD_getElem?,Array.getElem?_eq_getElem hi] at hb
       have :l[i]=false:=hb
       rw[←this,Array.mem_toList_iff]
       exact Array.getElem_mem hi
    simp[this]
   exact ⟨hr,hd l a w h hr⟩
 | succ fuel ih=>
   intro l a w hc h
   refine ⟨fun hr=>hd l a w h hr,fun i hi=>?_⟩
   refine wpOp_mono (fun a' w' h'=>ih _ a' w' ?_ h') (hs l a w h i hi)
   unfold Region.ready at hi
   have h1:=List.mem_filter.1 hi
   have h2:=List.mem_range.1 h1.1
   rw[←hz l a w h] at h2
   have h3:l.getD i true=false:=by
    have:=h1.2
    simp only[Bool.and_eq_true,Bool.not_eq_true'] at this
    exact this.1
   rw[Array.getD_eq_getD_getElem?,Array.getElem?_eq_getElem h2] at h3
   have h3:l[i]=false:=h3
   have e:(l.setIfInBounds i true).toList=l.toList.set i true:=by simp
   rw[e,List.count_set (by simpa using h2)]
   have h4:l.toList[i]'(by simpa using h2)=false:=by simpa using h3
   rw[h4]
   have e1:(if (false==false)=true then 1 else 0)=1:=rfl
   have e2:(if (true==false)=true then 1 else 0)=0:=rfl
   rw[e1,e2]
   omega
theorem ready_get {md:Region.Mode} {ops:Array Oper} {l:Array Bool} {i:Nat} {o:Oper} (hi:i∈Region.ready md ops l) (ho:ops[i]?=some o):l.getD i false=false∧∀e∈o.after.toList,Region.binds md e=true→l.getD e.on false=true:=by
 unfold Region.ready at hi
 have h1:=(List.mem_filter.1 hi).2
 rw[ho] at h1
 simp only[Option.map_some,Option.getD_some,Bool.and_eq_true,Bool.not_eq_true'] at h1
 refine ⟨?_,fun e he hb=>?_⟩
 ·have h2:=h1.1
  rw[Array.getD_eq_getD_getElem?] at h2⊢
  cases hq:l[i]? with
  | none=>rw[hq] at h2;cases h2
  | some b=>rw[hq] at h2;exact h2
 ·have h3:=h1.2
  rw[Array.all_eq_true'] at h3
  have:=h3 e (by simpa using he)
  rw[hb] at this
  simpa using this
theorem wpOp_val {P:Program} {ops:Array Oper} {Q:Exit→Act→World→Prop} {i d:Nat} {o:Oper} {K:Act→World→Prop} {a:Act} {w w':World} {v:Value} (ho:ops[i]?=some o) (hw:Region.wanted o (yielded ops a.tmps)=true) (hd:o.dst=some d) (hr:(execOp a.eval o).run P w= .ok (.value v) w') (hK:K (a.put (some d) v) w'):wpOp P ops Q i K a w:=by
 unfold wpOp
 rw[ho]
 simp only[hw,if_true]
 refine .inl ?_
 unfold Oper.wp
 rw[hr,←hd] at *
 exact hK
theorem tmp_at {a:Act} {k:Nat} {v:Value} (h:a.tmps.getD k undef=v):a.tmps[k]?.getD undef=v:=by rw[←Array.getD_eq_getD_getElem?];exact h
theorem ready_lt {md:Region.Mode} {ops:Array Oper} {l:Array Bool} {i:Nat} (hi:i∈Region.ready md ops l):i<ops.size:=by
 unfold Region.ready at hi
 exact List.mem_range.1 (List.mem_filter.1 hi).1
theorem ready_nil {md:Region.Mode} {ops:Array Oper} {l:Array Bool} {i:Nat} {o:Oper} (hr:Region.ready md ops l=[]) (hz:l.size=ops.size) (ho:ops[i]?=some o) (hdep:∀e∈o.after.toList,l.getD e.on false=true):l.getD i false=true:=by
 have hi:i<ops.size:=(Array.getElem?_eq_some_iff.1 ho).1
 cases hb:l.getD i false with
 | true=>rfl
 | false=>
   exfalso
   have :i∈Region.ready md ops l:=by
    unfold Region.ready
    refine List.mem_filter.2 ⟨List.mem_range.2 hi,?_⟩
    have h1:l.getD i true=false:=by
     rw[Array.getD_eq_getD_getElem?,Array.getElem?_eq_getElem (by omega)] at hb⊢
     exact hb
    rw[h1,ho]
    simp only[Option.map_some,Option.getD_some,Bool.not_false,Bool.true_and]
    rw[Array.all_eq_true']
    intro e he
    rw[hdep e (by simpa using he)]
    simp
   rw[hr] at this
   cases this
theorem getD_set {α:Type} (t:Array α) (d k:Nat) (u z:α):(t.setIfInBounds d u).getD k z=if d=k∧d<t.size then u else t.getD k z:=by
 rw[Array.getD_eq_getD_getElem?,Array.getD_eq_getD_getElem?,Array.getElem?_setIfInBounds]
 by_cases h:d=k
 ·subst h
  by_cases h2:d<t.size
  ·simp[h2]
  ·simp[h2]
 ·simp[h]
theorem wpOp_skip {P:Program} {ops:Array Oper} {Q:Exit→Act→World→Prop} {i:Nat} {o:Oper} {K:Act→World→Prop} {a:Act} {w w':World} (ho:ops[i]?=some o) (hw:Region.wanted o (yielded ops a.tmps)=true) (hd:o.dst=none) (hr:(execOp a.eval o).run P w= .ok .skip w') (hK:K a w'):wpOp P ops Q i K a w:=by
 unfold wpOp
 rw[ho]
 simp only[hw,if_true]
 refine .inl ?_
 unfold Oper.wp
 rw[hr,Oper.upon_skip,hd]
 exact hK
theorem ready_nil2 {md:Region.Mode} {ops:Array Oper} {l:Array Bool} {i:Nat} {o:Oper} (hr:Region.ready md ops l=[]) (hz:l.size=ops.size) (ho:ops[i]?=some o) (hdep:∀e∈o.after.toList,Region.binds md e=true→l.getD e.on false=true):l.getD i false=true:=by
 have hi:i<ops.size:=(Array.getElem?_eq_some_iff.1 ho).1
 cases hb:l.getD i false with
 | true=>rfl
 | false=>
   exfalso
   have :i∈Region.ready md ops l:=by
    unfold Region.ready
    refine List.mem_filter.2 ⟨List.mem_range.2 hi,?_⟩
    have h1:l.getD i true=false:=by
     rw[Array.getD_eq_getD_getElem?,Array.getElem?_eq_getElem (by omega)] at hb⊢
     exact hb
    rw[h1,ho]
    simp only[Option.map_some,Option.getD_some,Bool.not_false,Bool.true_and]
    rw[Array.all_eq_true']
    intro e he
    cases hbb:Region.binds md e with
    | false=>rfl
    | true=>
      rw[hdep e (by simpa using he) hbb]
      rfl
   rw[hr] at this
   cases this
structure Sg (n tz:Nat) (Fx:List Nat) (fv:Nat→Value) (Pu:List (Nat×Nat)) (pv:Nat→Value) (St:List Nat) (Ly:Nat→World→Prop) (l:Array Bool) (a:Act) (w:World):Prop where
 sz:l.size=n
 tz:a.tmps.size=tz
 df:a.defers=[]
 fx:∀x∈Fx,a.tmps.getD x undef=fv x
 pu:∀x∈Pu,l.getD x.1 false=true→a.tmps.getD x.2 undef=pv x.1
 ex:∃s,s≤St.length∧Ly s w∧∀j c,St[j]?=some c→(l.getD c false=true↔j<s)
section
variable {n tz:Nat} {Fx:List Nat} {fv:Nat→Value} {Pu:List (Nat×Nat)} {pv:Nat→Value} {St:List Nat} {Ly:Nat→World→Prop} {l:Array Bool} {a:Act} {w w':World}
theorem Sg.pure (h:Sg n tz Fx fv Pu pv St Ly l a w) (i d:Nat) (v:Value) (hv:v=pv i) (h1:¬d∈Fx) (h2:∀x∈Pu,x.1=i∨(x.1≠i∧x.2≠d)) (h4:¬i∈St) (h5:∀x∈Pu,x.1=i→x.2=d) (hd:d<tz):Sg n tz Fx fv Pu pv St Ly (l.setIfInBounds i true) (a.put (some d) v) w:=by
 obtain ⟨s,e1,e2,e4⟩:=h.ex
 have hg:∀k,k≠d→(a.tmps.setIfInBounds d v).getD k undef=a.tmps.getD k undef:=fun k hk=>by rw[getD_set,if_neg (fun e=>hk e.1.symm)]
 have hl:∀k,k≠i→(l.setIfInBounds i true).getD k false=l.getD k false:=fun k hk=>by rw[getD_set,if_neg (fun e=>hk e.1.symm)]
 refine ⟨by simpa using h.sz,by simpa [Act.put] using h.tz,h.df,fun x hx=>?_,fun x hx hb=>?_,s,e1,e2,fun j c hc=>?_⟩
 ·exact (hg x (fun e=>h1 (e▸hx))).trans (h.fx x hx)
 ·rcases h2 x hx with e | ⟨e,e'⟩
  ·have:=h5 x hx e
   show (a.tmps.setIfInBounds d v).getD x.2 undef=_
   rw[this,getD_set,if_pos ⟨rfl,by rw[h.tz];exact hd⟩,e,hv]
  ·rw[hl x.1 e] at hb
   exact (hg x.2 e').trans (h.pu x hx hb)
 ·rw[hl c (fun e=>h4 (e▸List.mem_of_getElem? hc))]
  exact e4 j c hc
theorem Sg.at (h:Sg n tz Fx fv Pu pv St Ly l a w) (j c:Nat) (hc:St[j]?=some c) (hn:l.getD c false=false) (hp:∀i c',j=i+1→St[i]?=some c'→l.getD c' false=true):Ly j w:=by
 obtain ⟨s,e1,e2,e4⟩:=h.ex
 have h1:¬j<s:=fun e=>by have:=(e4 j c hc).2 e;rw[this] at hn;cases hn
 have hs:s=j:=by
  cases j with
  | zero=>omega
  | succ i=>
    have hj:=(List.getElem?_eq_some_iff.1 hc).1
    obtain ⟨c',hc'⟩:∃c',St[i]?=some c':=⟨St[i],List.getElem?_eq_getElem (by omega)⟩
    have:=(e4 i c' hc').1 (hp i c' rfl hc')
    omega
 subst hs
 exact e2
theorem Sg.store (h:Sg n tz Fx fv Pu pv St Ly l a w) (j i:Nat) (hc:St[j]?=some i) (hn:l.getD i false=false) (hp:∀i' c',j=i'+1→St[i']?=some c'→l.getD c' false=true) (hL:Ly (j+1) w') (h2:∀x∈Pu,x.1≠i) (h4:∀j' c,St[j']?=some c→j'=j∨c≠i) (hi:i<n):Sg n tz Fx fv Pu pv St Ly (l.setIfInBounds i true) a w':=by
 obtain ⟨s,e1,e2,e4⟩:=h.ex
 have hj:=(List.getElem?_eq_some_iff.1 hc).1
 have hs:s=j:=by
  have q1:¬j<s:=fun e=>by have:=(e4 j _ hc).2 e;rw[this] at hn;cases hn
  cases j with
  | zero=>omega
  | succ i'=>
    obtain ⟨c',hc'⟩:∃c',St[i']?=some c':=⟨St[i'],List.getElem?_eq_getElem (by omega)⟩
    have:=(e4 i' c' hc').1 (hp i' c' rfl hc')
    omega
 have hl:∀k,k≠i→(l.setIfInBounds i true).getD k false=l.getD k false:=fun k hk=>by rw[getD_set,if_neg (fun e=>hk e.1.symm)]
 refine ⟨by simpa using h.sz,h.tz,h.df,h.fx,fun x hx hb=>?_,j+1,hj,hL,fun j' c hc'=>?_⟩
 ·rw[hl x.1 (h2 x hx)] at hb
  exact h.pu x hx hb
 ·rcases h4 j' c hc' with e | q1
  ·subst e
   rw[hc] at hc'
   injection hc' with hc'
   subst hc'
   rw[getD_set,if_pos ⟨rfl,by rw[h.sz];exact hi⟩]
   exact ⟨fun _=>by omega,fun _=>rfl⟩
  ·rw[hl c q1,e4 j' c hc',hs]
   have :j'≠j:=fun e=>by
    subst e
    rw[hc] at hc'
    injection hc' with hc'
    exact q1 hc'.symm
   omega
theorem Sg.start (ht:a.tmps.size=tz) (hd:a.defers=[]) (hf:∀x∈Fx,a.tmps.getD x undef=fv x) (hL:Ly 0 w):Sg n tz Fx fv Pu pv St Ly (Array.replicate n false) a w:=by
 have h0:∀k,(Array.replicate n false).getD k false=false:=fun k=>by
  rw[Array.getD_eq_getD_getElem?,Array.getElem?_replicate]
  split<;>rfl
 refine ⟨by simp,ht,hd,hf,fun x _ hb=>?_,0,Nat.zero_le _,hL,fun j c _=>⟨fun hb=>?_,fun h=>absurd h (Nat.not_lt_zero _)⟩⟩
 ·rw[h0] at hb;cases hb
 ·rw[h0] at hb;cases hb
end
theorem stores_other (St:List Nat) (j i:Nat) (h:(List.range St.length).all (fun k=>k==j || ((St[k]?).map fun c=>c !=i).getD true)=true):∀j' c,St[j']?=some c→j'=j∨c≠i:=by
 intro k c hc
 have hk:k<St.length:=(List.getElem?_eq_some_iff.1 hc).1
 have:=List.all_eq_true.1 h k (List.mem_range.2 hk)
 rw[hc] at this
 simpa using this
end Go.Proofs.YtkmopcanaalemabGreat


namespace Go.Proofs.YtkmopcanaalemabGreat
open Go.RowKit
def askS (r:RD) (k:Int) (v u:V) (s:Nat):Rst:=if s=0 then r.1 else if s=1 then {r.1 with ln:=k} else if s=2 then {r.1 with ln:=k,a:=v} else if s=3 then {r.1 with ln:=k,a:=v,b:=u} else {r.1 with ln:=k,a:=v,b:=u,ak:=true}
def AsL (No:Nat→Prop) (w:World) (B RT G c:Nat) (rv:Value) (gs:List Nat) (r:RD) (k:Int) (v u:V) (s:Nat) (W:World):Prop:=Rk No w W B RT G c rv gs (askS r k v u s,r.2)∧Bx W w.heap.size v∧Bx W (w.heap.size+1) u
set_option maxRecDepth 20000 in
set_option maxHeartbeats 4000000 in
theorem rsask_any {No:Nat→Prop} {w:World} {B RT G c:Nat} {rv:Value} {gs:List Nat} {r:RD} (h:Ro No w B RT G c rv gs r) (k:Int) (v u:V):
 Calls Tryz.prog 67 #[.pointer (some ⟨B,0,none⟩),.int .i64 k,.agg #[.int .i64 v.1,.int .i64 v.2.1,.string v.2.2],.agg #[.int .i64 u.1,.int .i64 u.2.1,.string u.2.2]] w fun e w'=>e= .returned (.tuple #[])∧Ro No w' B RT G c rv gs (rask r k v u)∧Keep No w w':=by
 have B0:=b2 w (vb v.1 v.2.1 v.2.2) (vb u.1 u.2.1 u.2.2)
 have X1:=(Bx.made w v).below (b1 _ (vb u.1 u.2.1 u.2.2))
 have X2:=Bx.made (w.alloc (vb v.1 v.2.1 v.2.2)) u
 have eX:(w.alloc (vb v.1 v.2.1 v.2.2)).heap.size=w.heap.size+1:=by simp
 rw[eX] at X2
 have s0:=h.below B0
 have hlt:=h.lt
 obtain ⟨W0,hW0⟩:∃W0,(w.alloc (vb v.1 v.2.1 v.2.2)).alloc (vb u.1 u.2.1 u.2.2)=W0:=⟨_,rfl⟩
 rw[hW0] at B0 X1 X2 s0
 have HL0:Hid (AsL No w B RT G c rv gs r k v u 0 W0.drew):=⟨(Rk.mk s0 (Keep.of B0)).drew,X1.below (bdrew1 W0),X2.below (bdrew1 W0)⟩
 have HNe:Hid (w.heap.size≠B∧w.heap.size+1≠B):=⟨by omega,by omega⟩
 unfold vb at hW0
 clear h B0 X1 X2 s0 eX hlt
 go_enter Tryz.func67,Tryz.ntmps67
 go_wp2_with fail
 refine wp_region_any (by kernel_rfl) ?_
 refine wpAny_inv (fun l' a w'=>Sg 19 23 [0,1,6,7] (fun x=>if x=0 then .pointer (some ⟨B,0,none⟩) else if x=1 then .int .i64 k else if x=6 then .pointer (some ⟨w.heap.size,0,none⟩) else .pointer (some ⟨w.heap.size+1,0,none⟩)) [(0,8),(1,9),(2,10),(3,11),(4,12),(5,13),(6,14),(7,15),(8,16),(10,17),(11,18),(13,19),(14,20),(16,21),(17,22)] (fun i=>if i=4 then (.int .i64 k) else if i=5 then (.agg #[.int .i64 v.1,.int .i64 v.2.1,.string v.2.2]) else if i=6 then (.agg #[.int .i64 u.1,.int .i64 u.2.1,.string u.2.2]) else if i=8 then (.pointer (some ⟨B,2,none⟩)) else if i=11 then (.pointer (some ⟨B,16,none⟩)) else if i=14 then (.pointer (some ⟨B,19,none⟩)) else if i=17 then (.pointer (some ⟨B,22,none⟩)) else (.pointer (some ⟨B,0,none⟩))) [9,12,15,18] (AsL No w B RT G c rv gs r k v u) l' a w') ?hz ?hs ?hd 19 _ _ _ (by decide) ?h0
 case hz=>exact fun l a w h=>h.sz
 case h0=>exact Sg.start rfl rfl (fun x hx=>by simp at hx;rcases hx with rfl | rfl | rfl | rfl<;>rfl) HL0.out
 case hs=>
  intro q9 a w' h i hi
  have hin:i<19:=ready_lt hi
  have hii:i=0∨i=1∨i=2∨i=3∨i=4∨i=5∨i=6∨i=7∨i=8∨i=9∨i=10∨i=11∨i=12∨i=13∨i=14∨i=15∨i=16∨i=17∨i=18:=by omega
  clear hin
  rcases hii with rfl | rfl | rfl | rfl | rfl | rfl | rfl | rfl | rfl | rfl | rfl | rfl | rfl | rfl | rfl | rfl | rfl | rfl | rfl
  ·have f0:a.tmps[0]?.getD undef=(.pointer (some ⟨B,0,none⟩)):=tmp_at (h.fx 0 (by simp))
   refine wpOp_val rfl rfl rfl (v:=(.pointer (some ⟨B,0,none⟩))) (w':=w') ?_ (h.pure 0 8 _ rfl (by decide) (by decide) (by decide) (by decide) (by decide))
   simp[go_sem,f0]
  ·have f0:a.tmps[0]?.getD undef=(.pointer (some ⟨B,0,none⟩)):=tmp_at (h.fx 0 (by simp))
   refine wpOp_val rfl rfl rfl (v:=(.pointer (some ⟨B,0,none⟩))) (w':=w') ?_ (h.pure 1 9 _ rfl (by decide) (by decide) (by decide) (by decide) (by decide))
   simp[go_sem,f0]
  ·have f0:a.tmps[0]?.getD undef=(.pointer (some ⟨B,0,none⟩)):=tmp_at (h.fx 0 (by simp))
   refine wpOp_val rfl rfl rfl (v:=(.pointer (some ⟨B,0,none⟩))) (w':=w') ?_ (h.pure 2 10 _ rfl (by decide) (by decide) (by decide) (by decide) (by decide))
   simp[go_sem,f0]
  ·have f0:a.tmps[0]?.getD undef=(.pointer (some ⟨B,0,none⟩)):=tmp_at (h.fx 0 (by simp))
   refine wpOp_val rfl rfl rfl (v:=(.pointer (some ⟨B,0,none⟩))) (w':=w') ?_ (h.pure 3 11 _ rfl (by decide) (by decide) (by decide) (by decide) (by decide))
   simp[go_sem,f0]
  ·have f0:a.tmps[1]?.getD undef=(.int .i64 k):=tmp_at (h.fx 1 (by simp))
   refine wpOp_val rfl rfl rfl (v:=(.int .i64 k)) (w':=w') ?_ (h.pure 4 12 _ rfl (by decide) (by decide) (by decide) (by decide) (by decide))
   simp[go_sem,f0]
  ·have f0:a.tmps[6]?.getD undef= .pointer (some ⟨w.heap.size,0,none⟩):=tmp_at (h.fx 6 (by simp))
   obtain ⟨s9,_,hL,_⟩:=h.ex
   have b0:=hL.2.1.c0
   have b1:=hL.2.1.c1
   have b2:=hL.2.1.c2
   refine wpOp_val rfl rfl rfl (v:=(.agg #[.int .i64 v.1,.int .i64 v.2.1,.string v.2.2])) (w':=w') ?_ (h.pure 5 13 _ rfl (by decide) (by decide) (by decide) (by decide) (by decide))
   simp[go_sem,f0,b0,b1,b2]
  ·have f0:a.tmps[7]?.getD undef= .pointer (some ⟨w.heap.size+1,0,none⟩):=tmp_at (h.fx 7 (by simp))
   obtain ⟨s9,_,hL,_⟩:=h.ex
   have b0:=hL.2.2.c0
   have b1:=hL.2.2.c1
   have b2:=hL.2.2.c2
   refine wpOp_val rfl rfl rfl (v:=(.agg #[.int .i64 u.1,.int .i64 u.2.1,.string u.2.2])) (w':=w') ?_ (h.pure 6 14 _ rfl (by decide) (by decide) (by decide) (by decide) (by decide))
   simp[go_sem,f0,b0,b1,b2]
  ·have hr:=(ready_get hi rfl).2
   have f0:a.tmps[8]?.getD undef=(.pointer (some ⟨B,0,none⟩)):=tmp_at (h.pu (0,8) (by simp) (hr {on:=0,ground:=.data} (by simp) rfl))
   refine wpOp_val rfl rfl rfl (v:=(.pointer (some ⟨B,0,none⟩))) (w':=w') ?_ (h.pure 7 15 _ rfl (by decide) (by decide) (by decide) (by decide) (by decide))
   simp[go_sem,f0]
  ·have hr:=(ready_get hi rfl).2
   have f0:a.tmps[15]?.getD undef=(.pointer (some ⟨B,0,none⟩)):=tmp_at (h.pu (7,15) (by simp) (hr {on:=7,ground:=.data} (by simp) rfl))
   refine wpOp_val rfl rfl rfl (v:=(.pointer (some ⟨B,2,none⟩))) (w':=w') ?_ (h.pure 8 16 _ rfl (by decide) (by decide) (by decide) (by decide) (by decide))
   simp[go_sem,f0]
  ·obtain ⟨hb,hr⟩:=ready_get hi rfl
   have hpp:∀i' c',0=i'+1→([9,12,15,18]:List Nat)[i']?=some c'→q9.getD c' false=true:=fun i' c' e hc=>by
    exact absurd e (by omega)
   have hL:=h.at 0 9 rfl hb hpp
   have e16:a.tmps[16]?.getD undef=(.pointer (some ⟨B,2,none⟩)):=tmp_at (h.pu (8,16) (by simp) (hr {on:=8,ground:=.data} (by simp) rfl))
   have e12:a.tmps[12]?.getD undef=(.int .i64 k):=tmp_at (h.pu (4,12) (by simp) (hr {on:=4,ground:=.data} (by simp) rfl))
   have z0:w'.cell? ⟨B,2,none⟩=some (.int .i64 r.1.ln):=hL.1.cell (j:=2) rfl
   have zf:=hL.1.so.free
   have kB:Keep (fun g=>g≠B) w' (w'.setCell ⟨B,2,none⟩ (.int .i64 k)):=(Keep.refl _ _).set (p:=⟨B,2,none⟩) (fun q=>q rfl) _
   have L2:AsL No w B RT G c rv gs r k v u 1 (w'.setCell ⟨B,2,none⟩ (.int .i64 k)):=⟨hL.1.st1 2 (.int .i64 k) {r.1 with ln:=k} rfl rfl,hL.2.1.kept kB HNe.out.1,hL.2.2.kept kB HNe.out.2⟩
   refine wpOp_skip rfl rfl rfl (w':=w'.setCell ⟨B,2,none⟩ (.int .i64 k)) ?_ (h.store 0 9 rfl hb hpp L2 (by decide) (stores_other [9,12,15,18] 0 9 (by decide)) (by decide))
   simp[go_sem,e16,e12,zf,z0]
  ·have hr:=(ready_get hi rfl).2
   have f0:a.tmps[9]?.getD undef=(.pointer (some ⟨B,0,none⟩)):=tmp_at (h.pu (1,9) (by simp) (hr {on:=1,ground:=.data} (by simp) rfl))
   refine wpOp_val rfl rfl rfl (v:=(.pointer (some ⟨B,0,none⟩))) (w':=w') ?_ (h.pure 10 17 _ rfl (by decide) (by decide) (by decide) (by decide) (by decide))
   simp[go_sem,f0]
  ·have hr:=(ready_get hi rfl).2
   have f0:a.tmps[17]?.getD undef=(.pointer (some ⟨B,0,none⟩)):=tmp_at (h.pu (10,17) (by simp) (hr {on:=10,ground:=.data} (by simp) rfl))
   refine wpOp_val rfl rfl rfl (v:=(.pointer (some ⟨B,16,none⟩))) (w':=w') ?_ (h.pure 11 18 _ rfl (by decide) (by decide) (by decide) (by decide) (by decide))
   simp[go_sem,f0]
  ·obtain ⟨hb,hr⟩:=ready_get hi rfl
   have hpp:∀i' c',1=i'+1→([9,12,15,18]:List Nat)[i']?=some c'→q9.getD c' false=true:=fun i' c' e hc=>by
    obtain rfl:i'=0:=by omega
    obtain rfl:c'=9:=by injection hc with hc;exact hc.symm
    exact hr {on:=9,ground:=.chain} (by simp) rfl
   have hL:=h.at 1 12 rfl hb hpp
   have e18:a.tmps[18]?.getD undef=(.pointer (some ⟨B,16,none⟩)):=tmp_at (h.pu (11,18) (by simp) (hr {on:=11,ground:=.data} (by simp) rfl))
   have e13:a.tmps[13]?.getD undef=(.agg #[.int .i64 v.1,.int .i64 v.2.1,.string v.2.2]):=tmp_at (h.pu (5,13) (by simp) (hr {on:=5,ground:=.data} (by simp) rfl))
   have z0:w'.cell? ⟨B,16,none⟩=some (.int .i64 r.1.a.1):=hL.1.cell (j:=16) rfl
   have z1:w'.cell? ⟨B,17,none⟩=some (.int .i64 r.1.a.2.1):=hL.1.cell (j:=17) rfl
   have z2:w'.cell? ⟨B,18,none⟩=some (.string r.1.a.2.2):=hL.1.cell (j:=18) rfl
   have zf:=hL.1.so.free
   have kB:Keep (fun g=>g≠B) w' (stX w' B 16 v):=stX_keep w' B 16 v
   have L2:AsL No w B RT G c rv gs r k v u 2 (stX w' B 16 v):=⟨hL.1.st3 16 v {r.1 with ln:=k,a:=v} rfl rfl,hL.2.1.kept kB HNe.out.1,hL.2.2.kept kB HNe.out.2⟩
   refine wpOp_skip rfl rfl rfl (w':=stX w' B 16 v) ?_ (h.store 1 12 rfl hb hpp L2 (by decide) (stores_other [9,12,15,18] 1 12 (by decide)) (by decide))
   unfold stX
   simp[go_sem,e18,e13,zf,z0,z1,z2]
  ·have hr:=(ready_get hi rfl).2
   have f0:a.tmps[10]?.getD undef=(.pointer (some ⟨B,0,none⟩)):=tmp_at (h.pu (2,10) (by simp) (hr {on:=2,ground:=.data} (by simp) rfl))
   refine wpOp_val rfl rfl rfl (v:=(.pointer (some ⟨B,0,none⟩))) (w':=w') ?_ (h.pure 13 19 _ rfl (by decide) (by decide) (by decide) (by decide) (by decide))
   simp[go_sem,f0]
  ·have hr:=(ready_get hi rfl).2
   have f0:a.tmps[19]?.getD undef=(.pointer (some ⟨B,0,none⟩)):=tmp_at (h.pu (13,19) (by simp) (hr {on:=13,ground:=.data} (by simp) rfl))
   refine wpOp_val rfl rfl rfl (v:=(.pointer (some ⟨B,19,none⟩))) (w':=w') ?_ (h.pure 14 20 _ rfl (by decide) (by decide) (by decide) (by decide) (by decide))
   simp[go_sem,f0]
  ·obtain ⟨hb,hr⟩:=ready_get hi rfl
   have hpp:∀i' c',2=i'+1→([9,12,15,18]:List Nat)[i']?=some c'→q9.getD c' false=true:=fun i' c' e hc=>by
    obtain rfl:i'=1:=by omega
    obtain rfl:c'=12:=by injection hc with hc;exact hc.symm
    exact hr {on:=12,ground:=.chain} (by simp) rfl
   have hL:=h.at 2 15 rfl hb hpp
   have e20:a.tmps[20]?.getD undef=(.pointer (some ⟨B,19,none⟩)):=tmp_at (h.pu (14,20) (by simp) (hr {on:=14,ground:=.data} (by simp) rfl))
   have e14:a.tmps[14]?.getD undef=(.agg #[.int .i64 u.1,.int .i64 u.2.1,.string u.2.2]):=tmp_at (h.pu (6,14) (by simp) (hr {on:=6,ground:=.data} (by simp) rfl))
   have z0:w'.cell? ⟨B,19,none⟩=some (.int .i64 r.1.b.1):=hL.1.cell (j:=19) rfl
   have z1:w'.cell? ⟨B,20,none⟩=some (.int .i64 r.1.b.2.1):=hL.1.cell (j:=20) rfl
   have z2:w'.cell? ⟨B,21,none⟩=some (.string r.1.b.2.2):=hL.1.cell (j:=21) rfl
   have zf:=hL.1.so.free
   have kB:Keep (fun g=>g≠B) w' (stX w' B 19 u):=stX_keep w' B 19 u
   have L2:AsL No w B RT G c rv gs r k v u 3 (stX w' B 19 u):=⟨hL.1.st3 19 u {r.1 with ln:=k,a:=v,b:=u} rfl rfl,hL.2.1.kept kB HNe.out.1,hL.2.2.kept kB HNe.out.2⟩
   refine wpOp_skip rfl rfl rfl (w':=stX w' B 19 u) ?_ (h.store 2 15 rfl hb hpp L2 (by decide) (stores_other [9,12,15,18] 2 15 (by decide)) (by decide))
   unfold stX
   simp[go_sem,e20,e14,zf,z0,z1,z2]
  ·have hr:=(ready_get hi rfl).2
   have f0:a.tmps[11]?.getD undef=(.pointer (some ⟨B,0,none⟩)):=tmp_at (h.pu (3,11) (by simp) (hr {on:=3,ground:=.data} (by simp) rfl))
   refine wpOp_val rfl rfl rfl (v:=(.pointer (some ⟨B,0,none⟩))) (w':=w') ?_ (h.pure 16 21 _ rfl (by decide) (by decide) (by decide) (by decide) (by decide))
   simp[go_sem,f0]
  ·have hr:=(ready_get hi rfl).2
   have f0:a.tmps[21]?.getD undef=(.pointer (some ⟨B,0,none⟩)):=tmp_at (h.pu (16,21) (by simp) (hr {on:=16,ground:=.data} (by simp) rfl))
   refine wpOp_val rfl rfl rfl (v:=(.pointer (some ⟨B,22,none⟩))) (w':=w') ?_ (h.pure 17 22 _ rfl (by decide) (by decide) (by decide) (by decide) (by decide))
   simp[go_sem,f0]
  ·obtain ⟨hb,hr⟩:=ready_get hi rfl
   have hpp:∀i' c',3=i'+1→([9,12,15,18]:List Nat)[i']?=some c'→q9.getD c' false=true:=fun i' c' e hc=>by
    obtain rfl:i'=2:=by omega
    obtain rfl:c'=15:=by injection hc with hc;exact hc.symm
    exact hr {on:=15,ground:=.chain} (by simp) rfl
   have hL:=h.at 3 18 rfl hb hpp
   have e22:a.tmps[22]?.getD undef=(.pointer (some ⟨B,22,none⟩)):=tmp_at (h.pu (17,22) (by simp) (hr {on:=17,ground:=.data} (by simp) rfl))
   have z0:w'.cell? ⟨B,22,none⟩=some (.bool r.1.ak):=hL.1.cell (j:=22) rfl
   have zf:=hL.1.so.free
   have kB:Keep (fun g=>g≠B) w' (w'.setCell ⟨B,22,none⟩ (.bool true)):=(Keep.refl _ _).set (p:=⟨B,22,none⟩) (fun q=>q rfl) _
   have L2:AsL No w B RT G c rv gs r k v u 4 (w'.setCell ⟨B,22,none⟩ (.bool true)):=⟨hL.1.st1 22 (.bool true) {r.1 with ln:=k,a:=v,b:=u,ak:=true} rfl rfl,hL.2.1.kept kB HNe.out.1,hL.2.2.kept kB HNe.out.2⟩
   refine wpOp_skip rfl rfl rfl (w':=w'.setCell ⟨B,22,none⟩ (.bool true)) ?_ (h.store 3 18 rfl hb hpp L2 (by decide) (stores_other [9,12,15,18] 3 18 (by decide)) (by decide))
   simp[go_sem,e22,zf,z0]
 case hd=>
  intro l a w' h hr
  have hz:=h.sz
  have d0:=ready_nil2 (i:=0) hr hz rfl (fun e he hbb=>by simp at he<;>(repeat' (first | (rcases he with rfl | he) | (subst he)))<;>first | assumption | exact absurd hbb (by decide))
  have d1:=ready_nil2 (i:=1) hr hz rfl (fun e he hbb=>by simp at he<;>(repeat' (first | (rcases he with rfl | he) | (subst he)))<;>first | assumption | exact absurd hbb (by decide))
  have d2:=ready_nil2 (i:=2) hr hz rfl (fun e he hbb=>by simp at he<;>(repeat' (first | (rcases he with rfl | he) | (subst he)))<;>first | assumption | exact absurd hbb (by decide))
  have d3:=ready_nil2 (i:=3) hr hz rfl (fun e he hbb=>by simp at he<;>(repeat' (first | (rcases he with rfl | he) | (subst he)))<;>first | assumption | exact absurd hbb (by decide))
  have d4:=ready_nil2 (i:=4) hr hz rfl (fun e he hbb=>by simp at he<;>(repeat' (first | (rcases he with rfl | he) | (subst he)))<;>first | assumption | exact absurd hbb (by decide))
  have d5:=ready_nil2 (i:=5) hr hz rfl (fun e he hbb=>by simp at he<;>(repeat' (first | (rcases he with rfl | he) | (subst he)))<;>first | assumption | exact absurd hbb (by decide))
  have d6:=ready_nil2 (i:=6) hr hz rfl (fun e he hbb=>by simp at he<;>(repeat' (first | (rcases he with rfl | he) | (subst he)))<;>first | assumption | exact absurd hbb (by decide))
  have d7:=ready_nil2 (i:=7) hr hz rfl (fun e he hbb=>by simp at he<;>(repeat' (first | (rcases he with rfl | he) | (subst he)))<;>first | assumption | exact absurd hbb (by decide))
  have d8:=ready_nil2 (i:=8) hr hz rfl (fun e he hbb=>by simp at he<;>(repeat' (first | (rcases he with rfl | he) | (subst he)))<;>first | assumption | exact absurd hbb (by decide))
  have d9:=ready_nil2 (i:=9) hr hz rfl (fun e he hbb=>by simp at he<;>(repeat' (first | (rcases he with rfl | he) | (subst he)))<;>first | assumption | exact absurd hbb (by decide))
  have d10:=ready_nil2 (i:=10) hr hz rfl (fun e he hbb=>by simp at he<;>(repeat' (first | (rcases he with rfl | he) | (subst he)))<;>first | assumption | exact absurd hbb (by decide))
  have d11:=ready_nil2 (i:=11) hr hz rfl (fun e he hbb=>by simp at he<;>(repeat' (first | (rcases he with rfl | he) | (subst he)))<;>first | assumption | exact absurd hbb (by decide))
  have d12:=ready_nil2 (i:=12) hr hz rfl (fun e he hbb=>by simp at he<;>(repeat' (first | (rcases he with rfl | he) | (subst he)))<;>first | assumption | exact absurd hbb (by decide))
  have d13:=ready_nil2 (i:=13) hr hz rfl (fun e he hbb=>by simp at he<;>(repeat' (first | (rcases he with rfl | he) | (subst he)))<;>first | assumption | exact absurd hbb (by decide))
  have d14:=ready_nil2 (i:=14) hr hz rfl (fun e he hbb=>by simp at he<;>(repeat' (first | (rcases he with rfl | he) | (subst he)))<;>first | assumption | exact absurd hbb (by decide))
  have d15:=ready_nil2 (i:=15) hr hz rfl (fun e he hbb=>by simp at he<;>(repeat' (first | (rcases he with rfl | he) | (subst he)))<;>first | assumption | exact absurd hbb (by decide))
  have d16:=ready_nil2 (i:=16) hr hz rfl (fun e he hbb=>by simp at he<;>(repeat' (first | (rcases he with rfl | he) | (subst he)))<;>first | assumption | exact absurd hbb (by decide))
  have d17:=ready_nil2 (i:=17) hr hz rfl (fun e he hbb=>by simp at he<;>(repeat' (first | (rcases he with rfl | he) | (subst he)))<;>first | assumption | exact absurd hbb (by decide))
  have d18:=ready_nil2 (i:=18) hr hz rfl (fun e he hbb=>by simp at he<;>(repeat' (first | (rcases he with rfl | he) | (subst he)))<;>first | assumption | exact absurd hbb (by decide))
  obtain ⟨s9,hs9,hL,h9⟩:=h.ex
  have:=(h9 3 18 rfl).1 d18
  have hs4:s9≤4:=hs9
  obtain rfl:s9=4:=by omega
  have hdf:=h.df
  go_wp2
  exact bodyPost_end (results_none rfl _ _ _) hdf ⟨rfl,hL.1.so,hL.1.kp⟩
end Go.Proofs.YtkmopcanaalemabGreat


namespace Go.Proofs.YtkmopcanaalemabGreat
open Go.RowKit
theorem Rk.gt {N2:Nat→Prop} {W0 w:World} {B RT G c:Nat} {rv:Value} {gs:List Nat} {s:Rst} {t:TS×H.St} (h:Rk N2 W0 w B RT G c rv gs (s,t)) (hc:c≤700000) (n:Int) (h1:-9223372036854775808≤n) (h2:n≤9223372036854775807) {x:V} {t2:TS×H.St} (hx:gtV (s,t) n=x) (ht:(gtD (s,t) n).2=t2):
 Calls Tryz.prog 66 #[.pointer (some ⟨B,0,none⟩),.int .i64 n] w fun e w'=>e= .returned (.agg #[.int .i64 x.1,.int .i64 x.2.1,.string x.2.2])∧Rk N2 W0 w' B RT G (c+1) rv gs (s,t2):=by
 subst hx ht
 exact (rsget_any h.so hc n h1 h2).mono fun e w' ⟨q1,q2,q3⟩=>⟨q1,q2,h.kp.trans q3⟩
theorem Rk.aq {N2:Nat→Prop} {W0 w:World} {B RT G c:Nat} {rv:Value} {gs:List Nat} {r:RD} (h:Rk N2 W0 w B RT G c rv gs r) (k:Int) (v u:V):
 Calls Tryz.prog 67 #[.pointer (some ⟨B,0,none⟩),.int .i64 k,.agg #[.int .i64 v.1,.int .i64 v.2.1,.string v.2.2],.agg #[.int .i64 u.1,.int .i64 u.2.1,.string u.2.2]] w.drew fun e w'=>e= .returned (.tuple #[])∧Rk N2 W0 w' B RT G c rv gs (rask r k v u):=
 (rsask_any h.drew.so k v u).mono fun _ _ ⟨q1,q2,q3⟩=>⟨q1,q2,h.drew.kp.trans q3⟩
set_option maxRecDepth 20000 in
set_option maxHeartbeats 4000000 in
theorem rsup_any {No:Nat→Prop} {w:World} {B RT G c:Nat} {rv:Value} {gs:List Nat} {r:RD} (h:Ro No w B RT G c rv gs r) (hc:c≤690000) (h1:-4611686018427387904≤r.1.i) (h2:r.1.i≤4611686018427387904):
 Calls Tryz.prog 70 #[.pointer (some ⟨B,0,none⟩)] w fun e w'=>e= .returned (.tuple #[])∧Ro No w' B RT G (c+1) rv gs (rup r)∧Keep No w w':=by
 have K0:Rk No w w B RT G c rv gs r:=⟨h,Keep.refl _ _⟩
 have c15:w.cell? ⟨B,15,none⟩=some (.int .i64 (r.1.er)):=K0.cell (j:=15) rfl
 have c4:w.cell? ⟨B,4,none⟩=some (.int .i64 (r.1.i)):=K0.cell (j:=4) rfl
 have f0:=K0.so.free
 by_cases h0:r.1.er=0
 ·have e0:(r.1.er==0)=true:=by simpa using h0
  have K1:=K0.st1 4 (.int .i64 (r.1.i+1)) {r.1 with i:=r.1.i+1} rfl rfl
  obtain ⟨W1,hW1⟩:∃W1,w.setCell ⟨B,4,none⟩ (.int .i64 (r.1.i+1))=W1:=⟨_,rfl⟩
  rw[hW1] at K1
  have wi:IntKind.i64.wrap (r.1.i+1)=r.1.i+1:=by rw[IntKind.wrap_i64];omega
  have b4:W1.cell? ⟨B,4,none⟩=some (.int .i64 (r.1.i+1)):=K1.cell (j:=4) rfl
  obtain ⟨x,hx⟩:∃q,gtV ({r.1 with i:=r.1.i+1},r.2) (r.1.i+1)=q:=⟨_,rfl⟩
  obtain ⟨t2,ht2⟩:∃q,(gtD ({r.1 with i:=r.1.i+1},r.2) (r.1.i+1)).2=q:=⟨_,rfl⟩
  have Cw2:=K1.gt (s:={r.1 with i:=r.1.i+1}) (t:=r.2) (by omega) (r.1.i+1) (by omega) (by omega) hx ht2
  have HP:Hid (rup r=rask ({r.1 with i:=r.1.i+1,x:=x},t2) 6 x r.1.p):=by
   show _=_
   unfold rup
   rw[if_pos h0]
   subst hx ht2
   rfl
  rw[HP.out]
  clear hx ht2 K0 K1 h HP h0
  go_enter Tryz.func70,Tryz.ntmps70
  go_wp2_with fail
  refine Cw2.mono ?_;rintro e w2 ⟨rfl,k2⟩
  have d9:w2.cell? ⟨B,9,none⟩=some (.int .i64 (r.1.x).1):=k2.cell (j:=9) rfl
  have d10:w2.cell? ⟨B,10,none⟩=some (.int .i64 (r.1.x).2.1):=k2.cell (j:=10) rfl
  have d11:w2.cell? ⟨B,11,none⟩=some (.string (r.1.x).2.2):=k2.cell (j:=11) rfl
  have f2:=k2.so.free
  have K3:=k2.st3 9 x {r.1 with i:=r.1.i+1,x:=x} rfl rfl
  unfold stX at K3
  obtain ⟨W3,hW3⟩:∃W3,((w2.setCell ⟨B,9,none⟩ (.int .i64 x.1)).setCell ⟨B,10,none⟩ (.int .i64 x.2.1)).setCell ⟨B,11,none⟩ (.string x.2.2)=W3:=⟨_,rfl⟩
  rw[hW3] at K3
  have e9:W3.cell? ⟨B,9,none⟩=some (.int .i64 (x).1):=K3.cell (j:=9) rfl
  have e10:W3.cell? ⟨B,10,none⟩=some (.int .i64 (x).2.1):=K3.cell (j:=10) rfl
  have e11:W3.cell? ⟨B,11,none⟩=some (.string (x).2.2):=K3.cell (j:=11) rfl
  have e6:W3.cell? ⟨B,6,none⟩=some (.int .i64 (r.1.p).1):=K3.cell (j:=6) rfl
  have e7:W3.cell? ⟨B,7,none⟩=some (.int .i64 (r.1.p).2.1):=K3.cell (j:=7) rfl
  have e8:W3.cell? ⟨B,8,none⟩=some (.string (r.1.p).2.2):=K3.cell (j:=8) rfl
  have CA:=K3.aq 6 x r.1.p
  clear Cw2 k2 K3
  go_wp2_with fail
  refine wp_tail 9 (by kernel_rfl) (by kernel_rfl) ?_
  simp only[List.take_succ_cons,List.take_zero,List.drop_succ_cons,List.drop_zero]
  repeat still_step
  refine wpStill_nil ?_
  go_wp2_with fail
  refine CA.mono ?_;rintro e w4 ⟨rfl,k4⟩
  go_wp2
  first | go_end0 | ((try simp only[Exit.inBlock,Exit.then]);refine bodyPost_ret (results_none rfl _ _ _) rfl ?_)
  exact ⟨rfl,k4.so,k4.kp⟩
 ·have e0:(r.1.er==0)=false:=by simpa using h0
  have HP:rup r=r:=by unfold rup;rw[if_neg h0]
  rw[HP]
  have HK:Hid (Ro No w B RT G (c+1) rv gs r):=h.more (by omega)
  clear HP h0 h K0
  go_enter Tryz.func70,Tryz.ntmps70
  go_wp2
  first | go_end0 | ((try simp only[Exit.inBlock,Exit.then]);refine bodyPost_ret (results_none rfl _ _ _) rfl ?_)
  exact ⟨rfl,HK.out,Keep.refl _ _⟩
def Brw (l:List (Int×Int)):Prop:=∀q∈l,q.1<q.2→-4611686018427387904≤q.1∧q.2≤4611686018427387904
set_option maxRecDepth 20000 in
set_option maxHeartbeats 4000000 in
theorem rsfirst_any {No:Nat→Prop} {w:World} {B RT G c:Nat} {rv:Value} {gs:List Nat} {r:RD} (h:Ro No w B RT G c rv gs r) (hc:c≤600000) (hb:Brw r.1.rows):
 Calls Tryz.prog 64 #[.pointer (some ⟨B,0,none⟩)] w (RP No w B RT G (c+2) (.tuple #[]) (rfst r.1.rows r)):=by
 obtain ⟨R,hR⟩:∃R,rfst r.1.rows r=R:=⟨_,rfl⟩
 rw[hR]
 have HS:Hid (∃(l:List (Int×Int)) (rv':Value) (gs':List Nat),Rk No w w B RT G c rv' gs' ({r.1 with rows:=l},r.2)∧rfst l r=R∧Brw l):=⟨r.1.rows,rv,gs,⟨h,Keep.refl _ _⟩,hR,hb⟩
 unfold RP
 clear h hR hb
 go_enter Tryz.func64,Tryz.ntmps64
 go_wp2
 go_loopw [] (fun wr=>Hid (∃(l:List (Int×Int)) (rv':Value) (gs':List Nat),Rk No w wr B RT G c rv' gs' ({r.1 with rows:=l},r.2)∧rfst l r=R∧Brw l)) (fun wr=>rwlen wr B)
 case atStart=>exact HS
 case round=>
  clear HS
  obtain ⟨l,rv',gs',K,hN,hb'⟩:=hrel.out
  clear hrel
  have c1:wr.cell? ⟨B,1,none⟩=some rv':=K.cell (j:=1) rfl
  have c15:wr.cell? ⟨B,15,none⟩=some (.int .i64 r.1.er):=K.cell (j:=15) rfl
  have hm:=K.so.rwlen
  cases l with
  | nil=>
    obtain ⟨ad,cap,ef0⟩:=K.so.form
    have ef:rv'= .slice ad 0 cap:=ef0
    subst ef
    have HZ:Hid (Rk No w wr B RT G c (.slice ad 0 cap) gs' R):=(by rw[←hN];exact K)
    clear hN hb' hm K ef0
    go_wp2
    first | go_end0 | ((try simp only[Exit.inBlock,Exit.then]);refine bodyPost_ret (results_none rfl _ _ _) rfl ?_)
    exact ⟨rfl,⟨_,_,HZ.out.so.more (by omega)⟩,HZ.out.kp⟩
  | cons q l=>
    obtain ⟨xb,cap,g,gs2,ef,eg,hgB,hcap,hcap2,fx,g0,q0,q1,hnew⟩:=K.so.last rfl
    subst ef eg
    have HN:Hid (rfst (q::l) r=R):=hN
    have HB:Hid (Brw (q::l)):=hb'
    have HK:Hid (Rk No w wr B RT G c (.slice (some ⟨xb,0,none⟩) (l.length+1) cap) (g::gs2) ({r.1 with rows:=q::l},r.2)):=K
    have HNew:Hid _:=hnew
    have hpos:(0:Int)<(l.length:Int)+1:=by omega
    have hsub:((l.length:Int)+1) - 1=(l.length:Int):=by omega
    have hsubw:IntKind.i64.wrap ((l.length:Int)+1 - 1)=(l.length:Int):=by rw[IntKind.wrap_i64];omega
    have hlast:l.length<l.length+1:=Nat.lt_succ_self _
    have hn0:¬(l.length:Int)<0:=by omega
    have hlt1:(l.length:Int)<(l.length:Int)+1:=by omega
    clear hN hb' K hnew hgB
    by_cases her:r.1.er=0
    ·have e0:(r.1.er==0)=true:=by simpa using her
     have HE:Hid (r.1.er=0):=her
     clear her
     go_wp2_with fail
     go_quiet (fail)
     go_wp2_with fail
     go_quiet (fail)
     by_cases hq:q.1<q.2
     ·have hbd:=HB.out q (List.mem_cons_self ..) hq
      obtain ⟨x,hx⟩:∃x,gtV ({r.1 with rows:=q::l},r.2) q.1=x:=⟨_,rfl⟩
      obtain ⟨t2,ht2⟩:∃t2,(gtD ({r.1 with rows:=q::l},r.2) q.1).2=t2:=⟨_,rfl⟩
      obtain ⟨y,hy⟩:∃y,gtV ({r.1 with rows:=q::l},t2) q.2=y:=⟨_,rfl⟩
      obtain ⟨t3,ht3⟩:∃t3,(gtD ({r.1 with rows:=q::l},t2) q.2).2=t3:=⟨_,rfl⟩
      have HP:Hid (R=rask ({r.1 with rows:=q::l,x:=x,y:=y},t3) 1 y x):=by
       show _=_
       rw[←HN.out]
       unfold rfst
       rw[if_neg (show ¬(r.1.er≠0) from fun z=>z HE.out),if_pos hq]
       subst hx ht2 hy ht3
       rfl
      have HC1:Hid (∀m,Calls Tryz.prog 66 #[.pointer (some ⟨B,0,none⟩),.int .i64 q.1] (wr.drewN m) fun e w'=>e= .returned (.agg #[.int .i64 x.1,.int .i64 x.2.1,.string x.2.2])∧Rk No w w' B RT G (c+1) (.slice (some ⟨xb,0,none⟩) (l.length+1) cap) (g::gs2) ({r.1 with rows:=q::l},t2)):=fun m=>(HK.out.drewN m).gt (by omega) q.1 (by omega) (by omega) hx ht2
      have HC2:Hid (∀W,Rk No w W B RT G (c+1) (.slice (some ⟨xb,0,none⟩) (l.length+1) cap) (g::gs2) ({r.1 with rows:=q::l,x:=x},t2)→Calls Tryz.prog 66 #[.pointer (some ⟨B,0,none⟩),.int .i64 q.2] W fun e w'=>e= .returned (.agg #[.int .i64 y.1,.int .i64 y.2.1,.string y.2.2])∧Rk No w w' B RT G (c+1+1) (.slice (some ⟨xb,0,none⟩) (l.length+1) cap) (g::gs2) ({r.1 with rows:=q::l,x:=x},t3)):=fun W k=>k.gt (by omega) q.2 (by omega) (by omega) hy ht3
      have hq2:(q.1:Int)<q.2:=hq
      clear HN HB hx ht2 hy ht3 hm HNew hbd
      go_wp2_with fail
      refine (HC1.out _).mono ?_;rintro e w2 ⟨rfl,k2⟩
      have d9:w2.cell? ⟨B,9,none⟩=some (.int .i64 (r.1.x).1):=k2.cell (j:=9) rfl
      have d10:w2.cell? ⟨B,10,none⟩=some (.int .i64 (r.1.x).2.1):=k2.cell (j:=10) rfl
      have d11:w2.cell? ⟨B,11,none⟩=some (.string (r.1.x).2.2):=k2.cell (j:=11) rfl
      have f2:=k2.so.free
      have K3:=k2.st3 9 x {r.1 with rows:=q::l,x:=x} rfl rfl
      unfold stX at K3
      obtain ⟨W3,hW3⟩:∃W3,((w2.setCell ⟨B,9,none⟩ (.int .i64 x.1)).setCell ⟨B,10,none⟩ (.int .i64 x.2.1)).setCell ⟨B,11,none⟩ (.string x.2.2)=W3:=⟨_,rfl⟩
      rw[hW3] at K3
      obtain ⟨_,p1⟩:=K3.so.top rfl rfl
      have C2:=HC2.out W3 K3
      clear HC1 HC2 k2 K3
      go_wp2_with fail
      refine C2.mono ?_;rintro e w4 ⟨rfl,k4⟩
      have j12:w4.cell? ⟨B,12,none⟩=some (.int .i64 (r.1.y).1):=k4.cell (j:=12) rfl
      have j13:w4.cell? ⟨B,13,none⟩=some (.int .i64 (r.1.y).2.1):=k4.cell (j:=13) rfl
      have j14:w4.cell? ⟨B,14,none⟩=some (.string (r.1.y).2.2):=k4.cell (j:=14) rfl
      have f4:=k4.so.free
      have K5:=k4.st3 12 y {r.1 with rows:=q::l,x:=x,y:=y} rfl rfl
      unfold stX at K5
      obtain ⟨W5,hW5⟩:∃W5,((w4.setCell ⟨B,12,none⟩ (.int .i64 y.1)).setCell ⟨B,13,none⟩ (.int .i64 y.2.1)).setCell ⟨B,14,none⟩ (.string y.2.2)=W5:=⟨_,rfl⟩
      rw[hW5] at K5
      have m9:W5.cell? ⟨B,9,none⟩=some (.int .i64 (x).1):=K5.cell (j:=9) rfl
      have m10:W5.cell? ⟨B,10,none⟩=some (.int .i64 (x).2.1):=K5.cell (j:=10) rfl
      have m11:W5.cell? ⟨B,11,none⟩=some (.string (x).2.2):=K5.cell (j:=11) rfl
      have m12:W5.cell? ⟨B,12,none⟩=some (.int .i64 (y).1):=K5.cell (j:=12) rfl
      have m13:W5.cell? ⟨B,13,none⟩=some (.int .i64 (y).2.1):=K5.cell (j:=13) rfl
      have m14:W5.cell? ⟨B,14,none⟩=some (.string (y).2.2):=K5.cell (j:=14) rfl
      have CA:=K5.aq 1 y x
      clear C2 k4 K5 HK
      go_wp2_with fail
      refine wp_tail 9 (by kernel_rfl) (by kernel_rfl) ?_
      simp only[List.take_succ_cons,List.take_zero,List.drop_succ_cons,List.drop_zero]
      repeat still_step
      refine wpStill_nil ?_
      go_wp2_with fail
      refine CA.mono ?_;rintro e w6 ⟨rfl,k6⟩
      go_wp2
      first | go_end0 | ((try simp only[Exit.inBlock,Exit.then]);refine bodyPost_ret (results_none rfl _ _ _) rfl ?_)
      rw[HP.out]
      exact ⟨rfl,⟨_,_,k6.so⟩,k6.kp⟩
     ·have hq2:¬(q.1:Int)<q.2:=hq
      have fB:=HK.out.so.free
      have hm2:rwlen wr B=l.length+1:=hm
      clear hm hq
      have HZ:Hid (∀m,Rk No w ((wr.drewN m).setCell ⟨B,1,none⟩ (.slice (some ⟨xb,0,none⟩) l.length cap)) B RT G c (.slice (some ⟨xb,0,none⟩) l.length cap) gs2 ({r.1 with rows:=l},r.2)):=fun m=>by
       have kk:Keep (fun x=>x≠B∧x<wr.heap.size) wr ((wr.drewN m).setCell ⟨B,1,none⟩ (.slice (some ⟨xb,0,none⟩) l.length cap)):=(Keep.of (bdrewN wr m)).set (p:=⟨B,1,none⟩) (fun q=>q.1 rfl) _
       have b1':=blk_set (j:=1) (HK.out.drewN m).so.blk (.slice (some ⟨xb,0,none⟩) l.length cap)
       obtain ⟨z1,z2⟩:=HNew.out _ {r.1 with rows:=l} kk (b1'.trans rfl) rfl
       exact ⟨z1,HK.out.kp.trans z2⟩
      clear HNew
      go_wp2_with fail
      go_region
      all_goals
       go_wp2_with fail
       refine ⟨⟨l,_,_,HZ.out _,?_,fun q' hq'=>HB.out q' (List.mem_cons_of_mem _ hq')⟩,?_⟩
       ·rw[←HN.out]
        conv=>rhs;unfold rfst
        rw[if_neg (show ¬(r.1.er≠0) from fun z=>z HE.out),if_neg (show ¬q.1<q.2 by omega)]
       ·rw[(HZ.out _).so.rwlen,hm2]
        show l.length<l.length+1
        omega
    ·have e0:(r.1.er==0)=false:=by simpa using her
     have HZ:Hid (Rk No w wr B RT G c (.slice (some ⟨xb,0,none⟩) (l.length+1) cap) (g::gs2) R):=by
      have e:R=({r.1 with rows:=q::l},r.2):=by
       rw[←HN.out]
       unfold rfst
       rw[if_pos her]
      rw[e]
      exact HK.out
     clear her HN HB HK HNew hm
     go_wp2
     first | go_end0 | ((try simp only[Exit.inBlock,Exit.then]);refine bodyPost_ret (results_none rfl _ _ _) rfl ?_)
     exact ⟨rfl,⟨_,_,HZ.out.so.more (by omega)⟩,HZ.out.kp⟩
end Go.Proofs.YtkmopcanaalemabGreat
