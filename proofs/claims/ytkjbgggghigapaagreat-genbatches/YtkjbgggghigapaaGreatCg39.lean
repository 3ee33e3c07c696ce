import Derived.Test.YtkjbgggghigapaaGreatCg32
namespace Go.Proofs.YtkjbgggghigapaaGreat
open Go.RowKit
theorem rem201 (n:Int):∃m:Nat,m≤200∧wrap64 ((IntKind.u64.wrap n).tmod 201)=(m:Int):=by
 have h0:0≤IntKind.u64.wrap n:=by simp[IntKind.wrap,IntKind.bits,IntKind.signed];omega
 generalize IntKind.u64.wrap n=x at *
 have e:x.tmod 201=x % 201:=Int.tmod_eq_emod_of_nonneg h0
 refine ⟨(x % 201).toNat,by omega,?_⟩
 rw[e]
 unfold wrap64
 omega
theorem ba_app (a b:List UInt8):(⟨a.toArray⟩++⟨b.toArray⟩:ByteArray)=⟨(a++b).toArray⟩:=by
 apply ByteArray.ext
 simp
theorem repB_len:∀n,(repB n).length=3 * n
 | 0=>rfl
 | n+1=>by simp[repB,repB_len n];omega
theorem btF_le (n:Int):∀(l:List In) (a b:Int),btF n l a b=true→a≤n+1∧b≤50
 | [],a,b,h=>by
   simp only[btF,Bool.and_eq_true,decide_eq_true_eq] at h
   omega
 | i::r,a,b,h=>by
   unfold btF at h
   split at h
   ·split at h
    ·exact btF_le n r a b h
    ·cases h
   ·split at h
    ·have:=btF_le n r a (b+1) h;omega
    ·split at h
     ·split at h
      ·next q=>have:=btF_le n r (a+i.2.1) 0 h;omega
      ·cases h
     ·exact btF_le n r a b h
theorem lt_cell {w:World} {a:Addr} {v:Value} (h:w.cell? a=some v):a.block<w.heap.size:=by
 apply Classical.byContradiction
 intro q
 unfold World.cell? at h
 rw[Array.getElem?_eq_none (by omega)] at h
 cases h
set_option maxRecDepth 20000 in
set_option maxHeartbeats 16000000 in
theorem batches_any (HT:∀m,m≤200→∀S U,(chT (txtB m)).2.1=0∧(chT (txtB m)).2.2=0∧btU m (genU (txtB m) S U)=true) (n:Int) (w:World) (_hb:-9223372036854775808≤n∧n≤9223372036854775807):Calls Tryz.prog 6 #[.int .i64 n] w fun e w'=>e= .returned (.bool true)∧Below w.heap.size w w':=by
 have C:=fixed_any w
 obtain ⟨m,hm,hw⟩:=rem201 n
 go_enter Tryz.func6,Tryz.ntmps6
 go_wp2_with fail
 refine C.mono ?_
 rintro e w1 ⟨rfl,hB1⟩
 have HB1:Hid (Below w.heap.size w w1):=hB1
 clear C hB1
 go_wp2_with fail
 go_loopw [3,4] (fun sv iv wx=>∃i:Nat,iv= .int .i64 (i:Nat)∧sv= .string ⟨([120,32,61,32,123]++repB i).toArray⟩∧i≤m∧Hid (wx=w1)) (fun _ iv _=>m - (intOf iv).toNat)
 case atStart=>exact ⟨0,rfl,rfl,Nat.zero_le _,rfl⟩
 case round=>
  obtain ⟨i,rfl,rfl,hi,hx⟩:=hrel
  by_cases hlt:i<m
  ·have h1:(i:Int)<(m:Int):=by omega
   have wi:IntKind.i64.wrap ((i:Int)+1)=(i:Int)+1:=by rw[IntKind.wrap_i64];omega
   have hz:¬9223372036854775807<(repB i).length+1+1+1+1+1+3:=by rw[repB_len];omega
   have hs:((⟨(120::32::61::32::123::repB i).toArray⟩:ByteArray)++⟨#[55,44,32]⟩)=⟨([120,32,61,32,123]++repB (i+1)).toArray⟩:=by
    have q:=ba_app (120::32::61::32::123::repB i) [55,44,32]
    rw[show ((⟨#[55,44,32]⟩:ByteArray))=⟨([55,44,32]:List UInt8).toArray⟩ from rfl,q]
    simp[repB]
   have HS:Hid (((⟨(120::32::61::32::123::repB i).toArray⟩:ByteArray)++⟨#[55,44,32]⟩)=⟨([120,32,61,32,123]++repB (i+1)).toArray⟩):=hs
   clear hs
   go_wp2
   refine ⟨⟨i+1,by go_num,by rw[HS.out],by omega,hx⟩,?_⟩
   simp[intOf];omega
  ·have h1:¬(i:Int)<(m:Int):=by omega
   obtain rfl:i=m:=by omega
   have hz:¬9223372036854775807<(repB i).length+1+1+1+1+1+1:=by rw[repB_len];omega
   have hs:((⟨(120::32::61::32::123::repB i).toArray⟩:ByteArray)++⟨#[125]⟩)=⟨(txtB i).toArray⟩:=by
    have q:=ba_app (120::32::61::32::123::repB i) [125]
    rw[show ((⟨#[125]⟩:ByteArray))=⟨([125]:List UInt8).toArray⟩ from rfl,q]
    simp[txtB]
   have CG:=Gen_any (txtB i) (by simp[txtB,repB_len];omega) wr
   have hlm:(i:Int)≤200:=by omega
   obtain ⟨t1,t2,-⟩:=HT i hm 0 0
   unfold GnP at CG
   rw[t1,t2] at CG
   have HT2:=HT i hm
   have hx':Hid (wr=w1):=hx
   clear hlt hi hx HT t1 t2
   go_wp2_with fail
   refine CG.mono ?_
   rintro e v1 ⟨vU,vG,S,U,rfl,hG,hB⟩
   obtain ⟨-,-,t3⟩:=HT2 S U
   obtain ⟨u,hu,hc1,hF⟩:∃u,genU (txtB i) S U=[u]∧(i=0∨u.cs.length=1)∧btF (i:Nat) u.cd 1 0=true:=by
    generalize genU (txtB i) S U=us at t3
    match us,t3 with
    | [u],t3=>
      simp only[btU,Bool.and_eq_true,Bool.or_eq_true,decide_eq_true_eq] at t3
      exact ⟨u,rfl,t3.1,t3.2⟩
   rw[hu] at hG
   obtain ⟨aG,cG,rfl⟩:=row_form hG.gr
   obtain ⟨g,nU,-,-,rfl,-,-,-,-,-,-,-⟩:=hG.unit (i:=0) rfl
   generalize (genG (txtB i)).length=nG at *
   have BB:=b2 v1 (.cells #[.slice (some ⟨g,0,none⟩) 1 nU,.slice aG nG cG] 25) (.cells #[.int .i64 0,.int .i64 0] 28)
   have P0:=(Bx.new v1 25 #[.slice (some ⟨g,0,none⟩) 1 nU,.slice aG nG cG]).alloc (.cells #[.int .i64 0,.int .i64 0] 28)
   obtain ⟨V2,hV2⟩:∃V2,(v1.alloc (.cells #[.slice (some ⟨g,0,none⟩) 1 nU,.slice aG nG cG] 25)).alloc (.cells #[.int .i64 0,.int .i64 0] 28)=V2:=⟨_,rfl⟩
   have HV2:Hid ((v1.alloc (.cells #[.slice (some ⟨g,0,none⟩) 1 nU,.slice aG nG cG] 25)).alloc (.cells #[.int .i64 0,.int .i64 0] 28)=V2):=hV2
   have BW:Below w.heap.size w V2:=by
    rw[←hV2]
    have q:=HB1.out
    rw[←hx'.out] at q
    exact bthen (bthen q q.size hB) (by have:=q.size;have:=hB.size;omega) BB
   have hG2:=hG.below BB
   obtain ⟨g',n',c,k,eq,-,-,-,d3,d4,hc,hk⟩:=hG2.unit (i:=0) rfl
   obtain ⟨rfl,rfl⟩:g=g'∧nU=n':=by simpa using eq
   obtain ⟨ac,cc,rfl⟩:=row_form hc
   obtain ⟨ak,ck,rfl⟩:=row_form hk
   rw[hV2] at hG2 hk P0
   have HP:Hid (Bx v1.heap.size 25 #[.slice (some ⟨g,0,none⟩) 1 nU,.slice aG nG cG] V2∧Below w.heap.size w V2∧V2.ownsRow 0 48 4 (.slice ak u.cd.length ck) u.cd.length (icl u.cd)∧V2.cell? ⟨g,4,none⟩=some (.slice ak u.cd.length ck)):=⟨P0,BW,hk,by rw[←hV2];exact d4⟩
   have hN:Hid (i≤200):=hm
   have hFH:Hid (btF (i:Nat) u.cd 1 0=true):=hF
   have hcs:((i:Int)>0∧u.cs.length=1)∨¬(i:Int)>0:=by
    rcases hc1 with h | h
    ·exact .inr (by omega)
    ·by_cases q:(i:Int)>0
     ·exact .inl ⟨q,h⟩
     ·exact .inr q
   clear hG hG2 hk P0 BW BB hB hu t3 hc hF hc1 HT2 CG HB1 hx' hV2 hm hz hs h1 eq
   rcases hcs with ⟨hi0,e1⟩ | hi0
   ·rw[e1] at d3
    clear e1
    go_wp2_with fail
    rw[HV2.out]
    clear d3 d4 hi0
    go_loopw [7,8,9,10] (fun nv wv iv _ wx=>∃(j:Nat) (a b:Int),nv= .int .i64 a∧wv= .int .i64 b∧iv= .int .i64 (j:Nat)∧j≤u.cd.length∧1≤a∧0≤b∧Hid (Below V2.heap.size V2 wx∧btF (i:Nat) (u.cd.drop j) a b=true)) (fun _ _ iv _ _=>u.cd.length - (intOf iv).toNat)
    case atStart=>exact ⟨0,1,0,rfl,rfl,rfl,Nat.zero_le _,by omega,by omega,Below.refl _ _,hFH.out⟩
    case round=>
     obtain ⟨j,a,b,rfl,rfl,rfl,hj,ha,hb,HR⟩:=hrel
     have q0:wr.cell? ⟨v1.heap.size,0,none⟩=some (.slice (some ⟨g,0,none⟩) 1 nU):=(HP.out.1.below HR.out.1).c 0 _ rfl
     have q4:wr.cell? ⟨g,4,none⟩=some (.slice ak u.cd.length ck):=(HR.out.1.cell (p:=⟨g,4,none⟩) (lt_cell HP.out.2.2.2)).trans HP.out.2.2.2
     by_cases hlt:j<u.cd.length
     ·have h1:(j:Int)<(u.cd.length:Int):=by omega
      obtain ⟨x,hx⟩:∃x,u.cd[j]?=some x:=⟨_,List.getElem?_eq_getElem hlt⟩
      have hd:u.cd.drop j=x::u.cd.drop (j+1):=by rw[List.drop_eq_getElem_cons hlt];rw[List.getElem?_eq_getElem hlt] at hx;injection hx with hx;rw[hx]
      have hF:=HR.out.2
      have hle:=btF_le (i:Nat) _ _ _ hF
      rw[hd] at hF
      have hkw:=own_keep HP.out.2.2.1 (w':=wr) fun g hg=>HR.out.1.block g (HP.out.2.2.1.lt g hg).2
      obtain ⟨gk,nk,ek,-,-⟩:=hkw.form (by omega)
      injection ek with ek1 _ ek3
      subst ek1 ek3
      obtain ⟨a0,a1,a2,a3⟩:=ins_at hkw hx
      obtain ⟨op,A,B,Cc⟩:=x
      simp only at a0 a1 a2 a3
      have wj:IntKind.i64.wrap ((j:Int)+1)=(j:Int)+1:=by
       have:=hN.out
       have q:u.cd.length≤maxLen:=by
        rcases hkw.2 with ⟨_,e⟩ | ⟨_,_,_,_,_,_,e4,e5,_⟩<;>omega
       unfold maxLen at q
       rw[IntKind.wrap_i64];omega
      have hNN:=hN.out
      have HB2:Hid (Below V2.heap.size V2 (wr.alloc (.cells #[.int .i64 op,.int .i64 A,.int .i64 B,.int .i64 Cc] 48))):=HR.out.1.alloc HR.out.1.size _
      clear HR hkw hx hd
      by_cases h26:op=26
      ·subst h26
       unfold btF at hF
       rw[if_pos rfl] at hF
       by_cases hA:A=(i:Nat)∧B=0
       ·rw[if_pos hA] at hF
        obtain ⟨rfl,rfl⟩:=hA
        have HF2:Hid (btF (i:Nat) (u.cd.drop (j+1)) a b=true):=hF
        clear hF
        go_wp2
        refine ⟨⟨j+1,a,b,rfl,rfl,by go_num,by omega,ha,hb,HB2.out,HF2.out⟩,?_⟩
        simp[intOf];omega
       ·rw[if_neg hA] at hF
        cases hF
      ·by_cases h2:op=2
       ·subst h2
        unfold btF at hF
        rw[if_neg (show ¬((2:Int)=26) by decide),if_pos rfl] at hF
        have HF2:Hid (btF (i:Nat) (u.cd.drop (j+1)) a (b+1)=true):=hF
        have wb:IntKind.i64.wrap (b+1)=b+1:=by rw[IntKind.wrap_i64];omega
        clear hF h26
        go_wp2
        refine ⟨⟨j+1,a,b+1,rfl,by go_num,by go_num,by omega,ha,by omega,HB2.out,HF2.out⟩,?_⟩
        simp[intOf];omega
       ·by_cases h28:op=28
        ·subst h28
         unfold btF at hF
         rw[if_neg (show ¬((28:Int)=26) by decide),if_neg (show ¬((28:Int)=2) by decide),if_pos rfl] at hF
         by_cases hA:A=b∧B=a∧1≤A∧A≤50
         ·rw[if_pos hA] at hF
          obtain ⟨rfl,rfl,hA1,hA2⟩:=hA
          have HF2:Hid (btF (i:Nat) (u.cd.drop (j+1)) (B+A) 0=true):=hF
          have wb:IntKind.i64.wrap (B+A)=B+A:=by rw[IntKind.wrap_i64];omega
          have hA3:¬A<1:=by omega
          have hA4:¬A>50:=by omega
          clear hF h26 h2
          go_wp2
          refine ⟨⟨j+1,B+A,0,by go_num,rfl,by go_num,by omega,by omega,by omega,HB2.out,HF2.out⟩,?_⟩
          simp[intOf];omega
         ·rw[if_neg hA] at hF
          cases hF
        ·unfold btF at hF
         rw[if_neg h26,if_neg h2,if_neg h28] at hF
         have HF2:Hid (btF (i:Nat) (u.cd.drop (j+1)) a b=true):=hF
         have e26:(op==26)=false:=by simpa using h26
         have e2:(op==2)=false:=by simpa using h2
         have e28:(op==28)=false:=by simpa using h28
         clear hF h26 h2 h28
         go_wp2
         refine ⟨⟨j+1,a,b,rfl,rfl,by go_num,by omega,ha,hb,HB2.out,HF2.out⟩,?_⟩
         simp[intOf];omega
     ·have h1:¬(j:Int)<(u.cd.length:Int):=by omega
      have hF:=HR.out.2
      rw[List.drop_eq_nil_of_le (by omega)] at hF
      unfold btF at hF
      simp only[Bool.and_eq_true,decide_eq_true_eq] at hF
      obtain ⟨rfl,rfl⟩:=hF
      have hNN:=hN.out
      have wi:IntKind.i64.wrap ((i:Int)+1)=(i:Int)+1:=by rw[IntKind.wrap_i64];omega
      have HE:Hid (Below w.heap.size w wr):=bthen HP.out.2.1 HP.out.2.1.size HR.out.1
      clear HR
      go_wp2
      go_ret
      exact ⟨rfl,HE.out⟩
   ·go_wp2_with fail
    rw[HV2.out]
    clear d3 d4 hi0
    go_loopw [7,8,9,10] (fun nv wv iv _ wx=>∃(j:Nat) (a b:Int),nv= .int .i64 a∧wv= .int .i64 b∧iv= .int .i64 (j:Nat)∧j≤u.cd.length∧1≤a∧0≤b∧Hid (Below V2.heap.size V2 wx∧btF (i:Nat) (u.cd.drop j) a b=true)) (fun _ _ iv _ _=>u.cd.length - (intOf iv).toNat)
    case atStart=>exact ⟨0,1,0,rfl,rfl,rfl,Nat.zero_le _,by omega,by omega,Below.refl _ _,hFH.out⟩
    case round=>
     obtain ⟨j,a,b,rfl,rfl,rfl,hj,ha,hb,HR⟩:=hrel
     have q0:wr.cell? ⟨v1.heap.size,0,none⟩=some (.slice (some ⟨g,0,none⟩) 1 nU):=(HP.out.1.below HR.out.1).c 0 _ rfl
     have q4:wr.cell? ⟨g,4,none⟩=some (.slice ak u.cd.length ck):=(HR.out.1.cell (p:=⟨g,4,none⟩) (lt_cell HP.out.2.2.2)).trans HP.out.2.2.2
     by_cases hlt:j<u.cd.length
     ·have h1:(j:Int)<(u.cd.length:Int):=by omega
      obtain ⟨x,hx⟩:∃x,u.cd[j]?=some x:=⟨_,List.getElem?_eq_getElem hlt⟩
      have hd:u.cd.drop j=x::u.cd.drop (j+1):=by rw[List.drop_eq_getElem_cons hlt];rw[List.getElem?_eq_getElem hlt] at hx;injection hx with hx;rw[hx]
      have hF:=HR.out.2
      have hle:=btF_le (i:Nat) _ _ _ hF
      rw[hd] at hF
      have hkw:=own_keep HP.out.2.2.1 (w':=wr) fun g hg=>HR.out.1.block g (HP.out.2.2.1.lt g hg).2
      obtain ⟨gk,nk,ek,-,-⟩:=hkw.form (by omega)
      injection ek with ek1 _ ek3
      subst ek1 ek3
      obtain ⟨a0,a1,a2,a3⟩:=ins_at hkw hx
      obtain ⟨op,A,B,Cc⟩:=x
      simp only at a0 a1 a2 a3
      have wj:IntKind.i64.wrap ((j:Int)+1)=(j:Int)+1:=by
       have:=hN.out
       have q:u.cd.length≤maxLen:=by
        rcases hkw.2 with ⟨_,e⟩ | ⟨_,_,_,_,_,_,e4,e5,_⟩<;>omega
       unfold maxLen at q
       rw[IntKind.wrap_i64];omega
      have hNN:=hN.out
      have HB2:Hid (Below V2.heap.size V2 (wr.alloc (.cells #[.int .i64 op,.int .i64 A,.int .i64 B,.int .i64 Cc] 48))):=HR.out.1.alloc HR.out.1.size _
      clear HR hkw hx hd
      by_cases h26:op=26
      ·subst h26
       unfold btF at hF
       rw[if_pos rfl] at hF
       by_cases hA:A=(i:Nat)∧B=0
       ·rw[if_pos hA] at hF
        obtain ⟨rfl,rfl⟩:=hA
        have HF2:Hid (btF (i:Nat) (u.cd.drop (j+1)) a b=true):=hF
        clear hF
        go_wp2
        refine ⟨⟨j+1,a,b,rfl,rfl,by go_num,by omega,ha,hb,HB2.out,HF2.out⟩,?_⟩
        simp[intOf];omega
       ·rw[if_neg hA] at hF
        cases hF
      ·by_cases h2:op=2
       ·subst h2
        unfold btF at hF
        rw[if_neg (show ¬((2:Int)=26) by decide),if_pos rfl] at hF
        have HF2:Hid (btF (i:Nat) (u.cd.drop (j+1)) a (b+1)=true):=hF
        have wb:IntKind.i64.wrap (b+1)=b+1:=by rw[IntKind.wrap_i64];omega
        clear hF h26
        go_wp2
        refine ⟨⟨j+1,a,b+1,rfl,by go_num,by go_num,by omega,ha,by omega,HB2.out,HF2.out⟩,?_⟩
        simp[intOf];omega
       ·by_cases h28:op=28
        ·subst h28
         unfold btF at hF
         rw[if_neg (show ¬((28:Int)=26) by decide),if_neg (show ¬((28:Int)=2) by decide),if_pos rfl] at hF
         by_cases hA:A=b∧B=a∧1≤A∧A≤50
         ·rw[if_pos hA] at hF
          obtain ⟨rfl,rfl,hA1,hA2⟩:=hA
          have HF2:Hid (btF (i:Nat) (u.cd.drop (j+1)) (B+A) 0=true):=hF
          have wb:IntKind.i64.wrap (B+A)=B+A:=by rw[IntKind.wrap_i64];omega
          have hA3:¬A<1:=by omega
          have hA4:¬A>50:=by omega
          clear hF h26 h2
          go_wp2
          refine ⟨⟨j+1,B+A,0,by go_num,rfl,by go_num,by omega,by omega,by omega,HB2.out,HF2.out⟩,?_⟩
          simp[intOf];omega
         ·rw[if_neg hA] at hF
          cases hF
        ·unfold btF at hF
         rw[if_neg h26,if_neg h2,if_neg h28] at hF
         have HF2:Hid (btF (i:Nat) (u.cd.drop (j+1)) a b=true):=hF
         have e26:(op==26)=false:=by simpa using h26
         have e2:(op==2)=false:=by simpa using h2
         have e28:(op==28)=false:=by simpa using h28
         clear hF h26 h2 h28
         go_wp2
         refine ⟨⟨j+1,a,b,rfl,rfl,by go_num,by omega,ha,hb,HB2.out,HF2.out⟩,?_⟩
         simp[intOf];omega
     ·have h1:¬(j:Int)<(u.cd.length:Int):=by omega
      have hF:=HR.out.2
      rw[List.drop_eq_nil_of_le (by omega)] at hF
      unfold btF at hF
      simp only[Bool.and_eq_true,decide_eq_true_eq] at hF
      obtain ⟨rfl,rfl⟩:=hF
      have hNN:=hN.out
      have wi:IntKind.i64.wrap ((i:Int)+1)=(i:Int)+1:=by rw[IntKind.wrap_i64];omega
      have HE:Hid (Below w.heap.size w wr):=bthen HP.out.2.1 HP.out.2.1.size HR.out.1
      clear HR
      go_wp2
      go_ret
      exact ⟨rfl,HE.out⟩
end Go.Proofs.YtkjbgggghigapaaGreat
