import Derived.Test.YtlgkfhipobdcfaaGreatDoorCg49
import Derived.Test.YtlgkfhipobdcfaaGreatDoorCg07
import Derived.Test.YtlgkfhipobdcfaaGreatDoorCg33
import Derived.Test.YtlgkfhipobdcfaaGreatDoorCg42
import Derived.Test.YtlgkfhipobdcfaaGreatDoorCg31
namespace Go.Proofs.YtlgkfhipobdcfaaGreatDoor
open Go.RowKit
theorem rScan_any (s : ByteArray) (w : World) (hs : s.size ≤ 9223372036854775807) :
    Calls Tryz.prog 23 #[.string s] w fun e W'=>∃ v,e = .returned (.tuple #[v,.agg #[.int .i64 (scT s.data.toList).2.1,.int .i64 (scT s.data.toList).2.2]]) ∧ W'.ownsRow w.heap.size 63 4 v (scT s.data.toList).1.length (cellsT (scT s.data.toList).1) ∧ Below w.heap.size w W':=by
  by_cases hb : 20000 < s.size
  · refine (rScan_big s w hb hs).mono fun e W' ⟨he,hB⟩=>?_
    have : scT s.data.toList = ([],14,-1):=by unfold scT;rw [scT_len,if_pos hb]
    rw [this]
    exact ⟨_,he,World.ownsRow_nil _ _ _ _,hB⟩
  · refine (rScan_small s w (by omega) _ rfl).mono fun e W' ⟨v,ts,c,p,he,h1,h2,hB⟩=>?_
    have hLD : LD s 0 = s.data.toList:=by simp [LD]
    have : scT s.data.toList = (ts,c,p):=by
      unfold scT
      rw [scT_len,if_neg hb,h1,hLD]
      all_goals (cases scn s.data.toList 0 [] <;> rfl)
    rw [this]
    exact ⟨v,he,h2,hB⟩
end Go.Proofs.YtlgkfhipobdcfaaGreatDoor


namespace Go.Proofs.YtlgkfhipobdcfaaGreatDoor
open Go.RowKit
theorem rparse_any (s : ByteArray) (w : World) (hs : s.size ≤ 9223372036854775807) :
    Calls Tryz.prog 10 #[.string s] w fun e W'=>∃ k t n p a c ks,e = .returned (.tuple #[(.agg #[.int .i64 (k),.string ⟨(t).toArray⟩,.int .i64 (n),.int .i64 (p),.slice a ks.len c]),.agg #[.int .i64 (prT s.data.toList).2.1,.int .i64 (prT s.data.toList).2.2]]) ∧ (prT s.data.toList).1 = one k t n p ks ∧ TN 32 W' (fun g=>w.heap.size ≤ g) k t n p (.slice a ks.len c) ks ∧ Below w.heap.size w W':=by
  have CS : RSc s:=fun w=>rScan_any s w hs
  obtain ⟨⟨ts,cd,x⟩,hsc⟩ : ∃ r,scT s.data.toList = r:=⟨_,rfl⟩
  by_cases hc : cd = 0
  · subst hc
    obtain ⟨h1,h2,h3⟩:=scT_ok s.data.toList (by rw [hsc])
    have hW2:=scT_w2 s.data.toList
    rw [hsc] at h1 h3 hW2
    simp only at h1 h3 hW2
    subst h3
    have hl:=GT.len _ _ h1
    rw [scT_len] at h2 hl
    have ends:=GT.ends _ _ h1
    refine (rParse_go s w CS ts hsc ends (by omega) _ rfl (cr_blk ends hW2 _ true ts ends)).mono fun e W' ⟨k,t,n,p,a,c,ks,cd,x,he,hq,hT,hB⟩=>?_
    have : prT s.data.toList = (one k t n p ks,cd,x):=by
      unfold prT
      rw [hsc,hq]
      simp
    rw [this]
    exact ⟨k,t,n,p,a,c,ks,he,rfl,hT,hB⟩
  · refine (rParse_fault s w CS ts cd x hsc hc).mono fun e W' ⟨he,hB⟩=>?_
    have : prT s.data.toList = (noF,cd,x):=by
      unfold prT
      rw [hsc]
      simp only [ne_eq]
      rw [if_pos hc]
    rw [this]
    exact ⟨0,[],0,0,none,0,.nil,he,rfl,TN.leaf _ _ _ _ _ _ _,hB⟩
end Go.Proofs.YtlgkfhipobdcfaaGreatDoor


namespace Go.Proofs.YtlgkfhipobdcfaaGreatDoor
open Go.RowKit
set_option maxRecDepth 20000 in
set_option maxHeartbeats 4000000 in
theorem trees_walk (s : ByteArray) (W : World) (hs : s.size ≤ 9223372036854775807) : Calls Tryz.prog 3 #[.string s] W fun e w'=>e = .returned (.bool true) ∧ Below W.heap.size W w':=by
  have C1:=parse_any s W hs
  have C2:=fun w=>rparse_any s w hs
  obtain ⟨⟨f,cd,x⟩,hq⟩ : ∃ r,prT s.data.toList = r:=⟨_,rfl⟩
  rw [hq] at C1 C2
  simp only at C1 C2
  go_enter Tryz.func3,Tryz.ntmps3
  go_wp2_with fail
  refine C1.mono ?_;rintro e w1 ⟨k,t,n,p,a,c,ks,rfl,he,hT,hB⟩
  subst he
  obtain ⟨X,hX⟩ : ∃ X,w1.heap.size = X:=⟨_,rfl⟩
  have B1:=Bx.new w1 24 #[.int .i64 k,.string ⟨t.toArray⟩,.int .i64 n,.int .i64 p,.slice a ks.len c]
  have e1 : (w1.alloc (.cells #[.int .i64 k,.string ⟨t.toArray⟩,.int .i64 n,.int .i64 p,.slice a ks.len c] 24)).heap.size = X + 1:=by simp [hX]
  have B2:=Bx.new (w1.alloc (.cells #[.int .i64 k,.string ⟨t.toArray⟩,.int .i64 n,.int .i64 p,.slice a ks.len c] 24)) 27 #[.int .i64 cd,.int .i64 x]
  rw [e1] at B2
  have B1':=B1.alloc (.cells #[.int .i64 cd,.int .i64 x] 27)
  rw [hX] at B1'
  have K1 : Below X w1 ((w1.alloc (.cells #[.int .i64 k,.string ⟨t.toArray⟩,.int .i64 n,.int .i64 p,.slice a ks.len c] 24)).alloc (.cells #[.int .i64 cd,.int .i64 x] 27)):=((Below.refl X w1).alloc (by omega) _).alloc (by rw [e1];omega) _
  obtain ⟨V1,hV1⟩ : ∃ V1,(w1.alloc (.cells #[.int .i64 k,.string ⟨t.toArray⟩,.int .i64 n,.int .i64 p,.slice a ks.len c] 24)).alloc (.cells #[.int .i64 cd,.int .i64 x] 27) = V1:=⟨_,rfl⟩
  rw [hV1] at B2 B1' K1
  have HV1 : Hid ((w1.alloc (.cells #[.int .i64 k,.string ⟨t.toArray⟩,.int .i64 n,.int .i64 p,.slice a ks.len c] 24)).alloc (.cells #[.int .i64 cd,.int .i64 x] 27) = V1):=hV1
  have H1 : Hid (Bx X 24 #[.int .i64 k,.string ⟨t.toArray⟩,.int .i64 n,.int .i64 p,.slice a ks.len c] V1 ∧ Bx (X + 1) 27 #[.int .i64 cd,.int .i64 x] V1 ∧ Below X w1 V1 ∧ Below W.heap.size W w1):=⟨B1',B2,K1,hB⟩
  have HT : Hid (TN 24 w1 (fun g=>W.heap.size ≤ g) k t n p (.slice a ks.len c) ks):=hT
  clear C1 hB hT B1 B1' B2 K1 e1 hV1 hq
  go_wp2_with fail
  rw [HV1.out]
  refine (C2 V1).mono ?_;rintro e w2 ⟨k2,t2,n2,p2,a2,c2,ks2,rfl,he,hT2,hB2⟩
  simp only [one,F.cons.injEq] at he
  obtain ⟨rfl,rfl,rfl,rfl,rfl,-⟩:=he
  have b2X:=H1.out.1.below hB2
  have b2Y:=H1.out.2.1.below hB2
  obtain ⟨Y,hY⟩ : ∃ Y,w2.heap.size = Y:=⟨_,rfl⟩
  have hX2:=b2Y.lt
  have K2 : Below X w1 w2:=H1.out.2.2.1.trans (hB2.mono (by have:=H1.out.2.1.lt;omega))
  have B3:=Bx.new w2 32 #[.int .i64 k,.string ⟨t.toArray⟩,.int .i64 n,.int .i64 p,.slice a2 ks.len c2]
  have e2 : (w2.alloc (.cells #[.int .i64 k,.string ⟨t.toArray⟩,.int .i64 n,.int .i64 p,.slice a2 ks.len c2] 32)).heap.size = Y + 1:=by simp [hY]
  have B4:=Bx.new (w2.alloc (.cells #[.int .i64 k,.string ⟨t.toArray⟩,.int .i64 n,.int .i64 p,.slice a2 ks.len c2] 32)) 27 #[.int .i64 cd,.int .i64 x]
  rw [e2] at B4
  have B3':=B3.alloc (.cells #[.int .i64 cd,.int .i64 x] 27)
  rw [hY] at B3'
  have K3 : Below Y w2 ((w2.alloc (.cells #[.int .i64 k,.string ⟨t.toArray⟩,.int .i64 n,.int .i64 p,.slice a2 ks.len c2] 32)).alloc (.cells #[.int .i64 cd,.int .i64 x] 27)):=((Below.refl Y w2).alloc (by omega) _).alloc (by rw [e2];omega) _
  obtain ⟨V2,hV2⟩ : ∃ V2,(w2.alloc (.cells #[.int .i64 k,.string ⟨t.toArray⟩,.int .i64 n,.int .i64 p,.slice a2 ks.len c2] 32)).alloc (.cells #[.int .i64 cd,.int .i64 x] 27) = V2:=⟨_,rfl⟩
  rw [hV2] at B4 B3' K3
  have HV2 : Hid ((w2.alloc (.cells #[.int .i64 k,.string ⟨t.toArray⟩,.int .i64 n,.int .i64 p,.slice a2 ks.len c2] 32)).alloc (.cells #[.int .i64 cd,.int .i64 x] 27) = V2):=hV2
  have H2 : Hid (Bx X 24 #[.int .i64 k,.string ⟨t.toArray⟩,.int .i64 n,.int .i64 p,.slice a ks.len c] V2 ∧ Bx (X + 1) 27 #[.int .i64 cd,.int .i64 x] V2 ∧ Bx Y 32 #[.int .i64 k,.string ⟨t.toArray⟩,.int .i64 n,.int .i64 p,.slice a2 ks.len c2] V2 ∧ Bx (Y + 1) 27 #[.int .i64 cd,.int .i64 x] V2 ∧ Below X w1 V2 ∧ Below Y w2 V2 ∧ Below W.heap.size W w1):=⟨b2X.below (hY ▸ K3),b2Y.below (hY ▸ K3),B3',B4,K2.trans (K3.mono (by omega)),K3,H1.out.2.2.2⟩
  have HT2 : Hid (TN 32 w2 (fun g=>V1.heap.size ≤ g) k t n p (.slice a2 ks.len c2) ks):=hT2
  clear C2 hB2 hT2 B3 B3' B4 K2 K3 e2 hV2 b2X b2Y HV1 H1
  go_wp2_with fail
  rw [HV2.out]
  refine (fixed_any V2).mono ?_;rintro e w3 ⟨rfl,hb3⟩
  have c3X:=H2.out.1.below hb3
  have c3f:=H2.out.2.1.below hb3
  have c3Y:=H2.out.2.2.1.below hb3
  have c3g:=H2.out.2.2.2.1.below hb3
  have hY3:=H2.out.2.2.2.1.lt
  have KX : Below X w1 w3:=H2.out.2.2.2.2.1.trans (hb3.mono (by omega))
  have KY : Below Y w2 w3:=H2.out.2.2.2.2.2.1.trans (hb3.mono (by omega))
  have KW : Hid (Below W.heap.size W w3):=H2.out.2.2.2.2.2.2.trans (KX.mono (by have:=H2.out.2.2.2.2.2.2.size;omega))
  obtain ⟨x0,x1,x2,x3,x4⟩:=c3X.five
  obtain ⟨y0,y1,y2,y3,y4⟩:=c3Y.five
  have u0 : w3.cell? ⟨X + 1,0,none⟩ = some (.int .i64 cd):=c3f.c 0 _ rfl
  have u1 : w3.cell? ⟨X + 1,1,none⟩ = some (.int .i64 x):=c3f.c 1 _ rfl
  have v0 : w3.cell? ⟨Y + 1,0,none⟩ = some (.int .i64 cd):=c3g.c 0 _ rfl
  have v1 : w3.cell? ⟨Y + 1,1,none⟩ = some (.int .i64 x):=c3g.c 1 _ rfl
  have heq : ∀ W,(binOp .eql 27 (.agg #[.int .i64 cd,.int .i64 x]) (.agg #[.int .i64 cd,.int .i64 x])).run Tryz.prog W = .ok (.bool true) W:=fun W=>by rw [eql27];simp
  have hTN:=HT.out
  have C4:=alike_any ks.siz ks (Nat.le_refl _) (Nat.le_trans hTN.cap.1 hTN.cap.2) w3 (fun g=>W.heap.size ≤ g) (fun g=>V1.heap.size ≤ g) k t n p a a2 c c2 (hTN.rw0.below (hX ▸ KX)) (HT2.out.rwE.below (hY ▸ KY))
  clear hTN HT HT2 c3X c3f c3Y c3g KX KY H2 HV2 hb3
  go_wp2_with fail
  refine C4.mono ?_;rintro e w4 ⟨rfl,hb4⟩
  have KF : Hid (Below W.heap.size W w4):=KW.out.trans (hb4.mono KW.out.size)
  clear C4 hb4
  go_wp2
  go_ret
  exact ⟨rfl,KF.out⟩
end Go.Proofs.YtlgkfhipobdcfaaGreatDoor
