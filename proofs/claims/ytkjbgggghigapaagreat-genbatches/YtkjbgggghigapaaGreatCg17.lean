import Derived.Test.YtkjbgggghigapaaGreatCg16
import Derived.Deep.DeepCutAuto
import Derived.Deep.RegionHeld3
namespace Go.Proofs.YtkjbgggghigapaaGreat
open Go.RowKit
theorem fsl_slo (s : Cs) : (slo s).fs.length = s.fs.length:=by unfold slo;cases s.fs[s.nu]? <;> simp
theorem fs_brN : ∀ (r : F) (s : Cs),(brN r s).fs = s.fs
  | .nil,_=>rfl
  | .cons _ t _ p _ r,s=>(fs_brN r _).trans (fs_unk t p s)
set_option maxRecDepth 20000 in
set_option maxHeartbeats 8000000 in
theorem function_any' {N : Nat} {nd : Ndc} (H : ∀ k t n p ks s,Gd (ks.siz + 1) s (nd k t n p ks s)) (CE : CN 23 N nd) (No : Nat → Prop) (b : Nat) (s : Cs) (W : World) (k : Int) (t : Tx) (m : Nat) (p : Int) (a : Option Addr) (c : Nat) (ks : F) (h : Ck No b s W) (hr : Rv W No a ks) (hs : ks.siz < N + 1) (hwk : ks.wfC = true) (ht : t.length ≤ 20000) (hcc : ks.len ≤ c ∧ c ≤ maxLen) (hm : m + 1 ≤ ks.len) (hL : s.wt + 4 * (ks.siz + 1) ≤ 1000000) :
    Calls Tryz.prog 60 #[.pointer (some ⟨b,0,none⟩),(.agg #[.int .i64 (k),.string ⟨(t).toArray⟩,.int .i64 ((m : Nat)),.int .i64 (p),.slice a ks.len c])] W (CP No b W (fncB nd t m p ks m (fncH t m p s))):=by
  obtain ⟨i0,hi0,hz0,hz1,hz2⟩:=info_parts info48
  have hlen:=ks.len_siz
  have B:=h.cy #[.int .i64 k,.string ⟨t.toArray⟩,.int .i64 (m : Nat),.int .i64 p,.slice a ks.len c]
  obtain ⟨X,hX⟩ : ∃ X,W.heap.size = X:=⟨_,rfl⟩
  obtain ⟨W1,hW1⟩ : ∃ W1,W.alloc (.cells #[.int .i64 (k),.string ⟨(t).toArray⟩,.int .i64 ((m : Nat)),.int .i64 (p),.slice a ks.len c] 54) = W1:=⟨_,rfl⟩
  rw [hX,hW1] at B
  -- the states
  have C1:=limit_any B.ck k t m p (.slice a ks.len c) (s.fs.length : Int) 100
  have e4 : fncH t m p s = glo t (lim p m 50 (unk t p (lim p (s.fs.length : Int) 100 s))):=rfl
  have w4:=wt_fncH t m p s
  have f1 : (lim p (s.fs.length : Int) 100 s).fs = s.fs:=fs_lim _ _ _ _
  generalize lim p (s.fs.length : Int) 100 s = s1 at *
  have C2 : Hid (∀ w,Ck (fun g=>No g ∨ g = X) b s1 w → Calls Tryz.prog 50 #[.pointer (some ⟨b,0,none⟩),(.agg #[.int .i64 (k),.string ⟨(t).toArray⟩,.int .i64 ((m : Nat)),.int .i64 (p),.slice a ks.len c])] w (CP (fun g=>No g ∨ g = X) b w (unk t p s1))):=fun w hw=>unkept_any hw k t m p (.slice a ks.len c)
  have f2 : (unk t p s1).fs = s1.fs:=fs_unk _ _ _
  generalize unk t p s1 = s2 at *
  have C3 : Hid (∀ w,Ck (fun g=>No g ∨ g = X) b s2 w → Calls Tryz.prog 37 #[.pointer (some ⟨b,0,none⟩),(.agg #[.int .i64 (k),.string ⟨(t).toArray⟩,.int .i64 ((m : Nat)),.int .i64 (p),.slice a ks.len c]),.int .i64 (m : Int),.int .i64 50] w (CP (fun g=>No g ∨ g = X) b w (lim p m 50 s2))):=fun w hw=>limit_any hw k t m p (.slice a ks.len c) m 50
  have f3 : (lim p m 50 s2).fs = s2.fs:=fs_lim _ _ _ _
  generalize lim p (m : Int) 50 s2 = s3 at *
  have g3 : s3.gl.length ≤ (glo t s3).gl.length:=by unfold glo;split <;> simp
  have C4 : Hid (∀ w,Ck (fun g=>No g ∨ g = X) b s3 w → Calls Tryz.prog 53 #[.pointer (some ⟨b,0,none⟩),.string ⟨t.toArray⟩] w (CP (fun g=>No g ∨ g = X) b w (glo t s3))):=fun w hw=>global_any hw t ht (by rw [e4] at w4;simp only [Cs.wt] at w4 hL;omega)
  have f4 : (glo t s3).fs = s3.fs:=fs_glo _ _
  rw [e4] at w4 ⊢
  clear e4
  generalize glo t s3 = s4 at *
  have hf : s4.fs.length = s.fs.length:=by rw [f4,f3,f2,f1]
  obtain ⟨x0,hx0⟩:=B.ck
  obtain ⟨aF,cF,eF⟩:=slice_shape hx0.fr
  have c0 : W1.cell? ⟨b,0,none⟩ = some (.slice aF s.fs.length cF):=by rw [← eF];exact hx0.bx.c 0 _ rfl
  obtain ⟨p0,p1,p2,p3,p4⟩:=B.bx.five
  have HB : Hid (Cy No b s W X #[.int .i64 k,.string ⟨t.toArray⟩,.int .i64 (m : Nat),.int .i64 p,.slice a ks.len c] W1 ∧ Rv W No a ks):=⟨B,hr⟩
  clear h hr B hx0 eF f1 f2 f3 f4 g3
  -- behind the head
  have z1:=F.td_siz ks m
  have z3:=(ks.take m).len_siz
  have tl:=F.take_len ks m (by omega)
  obtain ⟨⟨k9,t9,n9,p9,ks9⟩,hget⟩:=ks.get_some m (by omega)
  have hsz9:=F.get_drop ks m hget
  have hw9:=F.wfC_get ks m hwk hget
  have hnu : s4.nu = s4.nu:=rfl
  have g6:=gd_bri p (ks.take m) { s4 with fs:=s4.fs ++ [⟨t,p,(m : Int),0,[]⟩],nu:=s4.fs.length,lo:=[],lp:=0,ar:=s4.lo }
  have q6:=wt_bri p (ks.take m) { s4 with fs:=s4.fs ++ [⟨t,p,(m : Int),0,[]⟩],nu:=s4.fs.length,lo:=[],lp:=0,ar:=s4.lo }
  have hc4 : csS (s4.fs ++ [⟨t,p,(m : Int),0,[]⟩]) = csS s4.fs:=by simp [csS]
  have HS : Hid (fncB nd t m p ks m s4 = { nd k9 t9 n9 p9 ks9 (bri p (ks.take m) { s4 with fs:=s4.fs ++ [⟨t,p,(m : Int),0,[]⟩],nu:=s4.fs.length,lo:=[],lp:=0,ar:=s4.lo }) with nu:=s4.nu,lo:=s4.lo,lp:=s4.lp,ar:=[] }):=by
    show fncB nd t m p ks m s4 = _
    unfold fncB ndG
    rw [hget]
    rfl
  generalize hs6 : ({ s4 with fs:=s4.fs ++ [⟨t,p,(m : Int),0,[]⟩],nu:=s4.fs.length,lo:=[],lp:=0,ar:=s4.lo } : Cs) = s6 at *
  have b6 : s6.wt ≤ s4.wt + 1:=by rw [← hs6];simp only [Cs.wt,List.length_append,List.length_singleton,List.length_nil,hc4];omega
  have C96 : Hid (∀ (N' : Nat → Prop) w,Ck N' b s6 w → Rv w N' a ks → Calls Tryz.prog 81 #[.pointer (some ⟨b,0,none⟩),(.agg #[.int .i64 (k),.string ⟨(t).toArray⟩,.int .i64 ((m : Nat)),.int .i64 (p),.slice a ks.len c]),.slice a m c] w (CP N' b w (bri p (ks.take m) s6))):=fun N' w hc hv=>by
    have:=bring_any N' b s6 w k t m p (.slice a ks.len c) a c (ks.take m) hc (hv.take m) (by omega)
    rw [tl] at this
    exact this
  have l6 : s6.lp = 0:=by rw [← hs6]
  have l7:=g6.lp
  have w7 : (bri p (ks.take m) s6).fs.length = s4.fs.length + 1:=by
    have : (slo (lim p ((brN (ks.take m) s6).lo.length : Int) 60 (brN (ks.take m) s6))).fs.length = s6.fs.length:=by rw [fsl_slo,fs_lim,fs_brN]
    unfold bri
    rw [this,← hs6];simp
  generalize bri p (ks.take m) s6 = s7 at *
  have g8:=H k9 t9 n9 p9 ks9 s7
  have f8:=g8.fs
  have C24 : Hid (∀ (N' : Nat → Prop) w a9 c9,Ck N' b s7 w → Rv w N' a9 ks9 → (ks9.len ≤ c9 ∧ c9 ≤ maxLen) → Calls Tryz.prog 23 #[.pointer (some ⟨b,0,none⟩),(.agg #[.int .i64 (k9),.string ⟨(t9).toArray⟩,.int .i64 (n9),.int .i64 (p9),.slice a9 ks9.len c9])] w (CP N' b w (nd k9 t9 n9 p9 ks9 s7))):=fun N' w a9 c9 hc hv h9=>CE _ b _ w k9 t9 n9 p9 a9 c9 ks9 hc hv (by omega) hw9 h9 (by omega) (by omega) (by omega)
  generalize nd k9 t9 n9 p9 ks9 s7 = s8 at *
  have hf8 : s4.fs.length + 1 ≤ s8.fs.length:=by omega
  have HG : Hid (ks.get? m = some (k9,t9,n9,p9,ks9)):=hget
  have hfl0 : s4.fs.length ≤ s4.wt:=by unfold Cs.wt;omega
  have hfl : s4.fs.length ≤ 1000000:=by omega
  have hmc : (m : Int) ≤ (c : Int):=by omega
  have hmc' : m ≤ c:=by omega
  have hml : (m : Int) < (ks.len : Int):=by omega
  have hml' : m < ks.len:=by omega
  have hm0 : ¬ (m : Int) < 0:=by omega
  have H6 : Hid (s6 = { s4 with fs:=s4.fs ++ [⟨t,p,(m : Int),0,[]⟩],nu:=s4.fs.length,lo:=[],lp:=0,ar:=s4.lo }):=hs6.symm
  have HQ : Hid (s4.fs.length = s.fs.length):=hf
  clear hf hs6 b6 l6 l7 w7 g6 q6 g8 f8 z1 z3 tl hsz9 hw9 hget hc4 hnu w4 hL hwk hs
  go_enter Tryz.func60,Tryz.ntmps60
  go_wp2_with fail
  refine C1.mono ?_
  rintro e v1 hq
  have D1:=HB.out.1.step hq
  obtain ⟨rfl,-⟩:=hq
  obtain ⟨p0,p1,p2,p3,p4⟩:=D1.bx.five
  have K2:=C2.out v1 D1.ck
  have HD1 : Hid _:=D1
  clear C1 C2 D1 c0
  go_wp2_with fail
  refine K2.mono ?_
  rintro e v2 hq
  have D2:=HD1.out.step hq
  obtain ⟨rfl,-⟩:=hq
  obtain ⟨p0,p1,p2,p3,p4⟩:=D2.bx.five
  have K3:=C3.out v2 D2.ck
  have HD2 : Hid _:=D2
  clear K2 C3 D2 HD1
  go_wp2_with fail
  refine K3.mono ?_
  rintro e v3 hq
  have D3:=HD2.out.step hq
  obtain ⟨rfl,-⟩:=hq
  obtain ⟨p0,p1,p2,p3,p4⟩:=D3.bx.five
  have K4:=C4.out v3 D3.ck
  have HD3 : Hid _:=D3
  clear K3 C4 D3 HD2
  go_wp2_with fail
  refine K4.mono ?_
  rintro e v4 hq
  have D4:=HD3.out.step hq
  obtain ⟨rfl,-⟩:=hq
  obtain ⟨p0,p1,p2,p3,p4⟩:=D4.bx.five
  obtain ⟨p0A,p1A,p2A,p3A,p4A⟩:=D4.bx.fiveA
  obtain ⟨x4,hx4⟩:=D4.ck
  have b0 : v4.cell? ⟨b,0,none⟩ = some x4.vF:=hx4.bx.c 0 _ rfl
  have hD:=hx4.drew
  have b0A : ∀ o,(v4.alloc o).cell? ⟨b,0,none⟩ = some x4.vF:=fun o=>(hx4.alloc o).bx.c 0 _ rfl
  have HF : Hid (∀ o w3,(v4.drew.alloc o).grownBy w3 x4.vF.ownBlock → w3.frozen? ⟨b,0,none⟩ = false ∧ w3.cell? ⟨b,0,none⟩ = some x4.vF ∧ Bx X 54 #[.int .i64 k,.string ⟨t.toArray⟩,.int .i64 (m : Nat),.int .i64 p,.slice a ks.len c] w3):=fun o w3 hg3=>by
    have hb3 : Bx b 76 (ccl x4 s4) w3:=⟨(hg3.block b (Nat.lt_of_lt_of_le hD.lt (by simp)) (fun e=>by have:=hx4.lF b e.symm;have:=hx4.lb;omega)).trans (hD.bx.alloc o).blk⟩
    have hX3 : Bx X 54 #[.int .i64 k,.string ⟨t.toArray⟩,.int .i64 (m : Nat),.int .i64 p,.slice a ks.len c] w3:=⟨(hg3.block X (Nat.lt_of_lt_of_le D4.drew.bx.lt (by simp)) (fun e=>by have:=hx4.lF X e.symm;have:=(hx4.no X (.inr rfl)).2;omega)).trans (D4.drew.bx.alloc o).blk⟩
    exact ⟨hb3.f 0,hb3.c 0 _ rfl,hX3⟩
  have hXb : X ≠ b:=fun e=>by have:=(hx4.no X (.inr rfl)).2;have:=hx4.lb;rw [e] at *;omega
  have HBX : Hid (Bx X 54 #[.int .i64 k,.string ⟨t.toArray⟩,.int .i64 (m : Nat),.int .i64 p,.slice a ks.len c] v4):=D4.bx
  have HK : Hid (∀ w',Bx X 54 #[.int .i64 k,.string ⟨t.toArray⟩,.int .i64 (m : Nat),.int .i64 p,.slice a ks.len c] w' → w'.cell? ⟨X,1,none⟩ = some (.string ⟨t.toArray⟩) ∧ w'.cell? ⟨X,3,none⟩ = some (.int .i64 p) ∧ w'.cell? ⟨X,2,none⟩ = some (.int .i64 (m : Nat))):=fun w' q=>⟨q.c 1 _ rfl,q.c 3 _ rfl,q.c 2 _ rfl⟩
  have hfr:=hD.fr
  have HX : Hid (CK (fun g=>No g ∨ g = X) b x4 s4 v4.drew):=hD
  have HD4 : Hid _:=D4
  clear K4 D4 HD3 hD hx4
  go_wp2_with fail
  go_cut [] (fun wx=>Cy No b { s4 with fs:=s4.fs ++ [⟨t,p,(m : Int),0,[]⟩] } W X #[.int .i64 k,.string ⟨t.toArray⟩,.int .i64 (m : Nat),.int .i64 p,.slice a ks.len c] wx)
  case first =>
    go_region_law (refine step_append_lies _ (by rfl) _ _ 31 (by rfl) 0 43 i0 _ 5 64 Tryz.underlying31 hi0 hz0 hz1 hz2 rfl (by omega) x4.vF s4.fs.length (fcl s4.fs x4.vs) (by rfl) (hfr.alloc _) ⟨v4.drew.heap.size,0,none⟩ 1 1 [.string ⟨t.toArray⟩,.int .i64 p,.int .i64 (m : Nat),.int .i64 0,.slice none 0 0] (by rfl) rfl (World.news_of_block (cs:=#[.string ⟨t.toArray⟩,.int .i64 p,.int .i64 (m : Nat),.int .i64 0,.slice none 0 0]) (t:=43) (fr:=(0,0)) (Bx.new v4.drew 43 #[.string ⟨t.toArray⟩,.int .i64 p,.int .i64 (m : Nat),.int .i64 0,.slice none 0 0]).blk) (by simp [Value.oneCell']) (by omega) (by unfold maxLen;omega) (by omega) (by omega) _ rfl ?_;intro gg cc w3 hown3 hg3 hat3 hlt3;obtain ⟨fz0,fc0,hX3⟩:=HF.out _ w3 hg3)
    all_goals
      have hA:=HX.out.appF (t:=t) (p:=p) (n:=(m : Int)) (o:=.cells #[.string ⟨t.toArray⟩,.int .i64 p,.int .i64 (m : Nat),.int .i64 0,.slice none 0 0] 43) hown3 hg3 hat3
      have HZ : Hid _:=HD4.out.drew.step (e:=.returned (.tuple #[])) ⟨rfl,hA.1,hA.2⟩
      clear hA hown3 hg3 hat3 hlt3 fz0 fc0 hX3
      go_wp2_with fail
      go_meet
      exact HZ.out
  case rest =>
    have D5:=hcut
    obtain ⟨x5,hx5⟩:=D5.ck
    obtain ⟨aL,cL,eL⟩:=slice_shape hx5.lr
    simp only at eL
    have b3 : wc.cell? ⟨b,3,none⟩ = some (.int .i64 (s4.nu : Nat)):=hx5.bx.c 3 _ rfl
    have b4 : wc.cell? ⟨b,4,none⟩ = some (.slice aL s4.lo.length cL):=by rw [← eL];exact hx5.bx.c 4 _ rfl
    have b5 : wc.cell? ⟨b,5,none⟩ = some (.int .i64 s4.lp):=hx5.bx.c 5 _ rfl
    have hx6:=hx5.more (X:=wc.heap.size) (Nat.le_refl _) (by simp) (b1 wc (.cells #[.int .i64 (s4.nu : Nat),.slice aL s4.lo.length cL,.int .i64 s4.lp] 74))
    have BY:=Bx.new wc 74 #[.int .i64 (s4.nu : Nat),.slice aL s4.lo.length cL,.int .i64 s4.lp]
    have BX:=D5.bx.alloc (.cells #[.int .i64 (s4.nu : Nat),.slice aL s4.lo.length cL,.int .i64 s4.lp] 74)
    have kn6:=D5.kn.alloc (.cells #[.int .i64 (s4.nu : Nat),.slice aL s4.lo.length cL,.int .i64 s4.lp] 74)
    obtain ⟨Y,hY⟩ : ∃ Y,wc.heap.size = Y:=⟨_,rfl⟩
    obtain ⟨W6,hW6⟩ : ∃ W6,wc.alloc (.cells #[.int .i64 (s4.nu : Nat),.slice aL s4.lo.length cL,.int .i64 s4.lp] 74) = W6:=⟨_,rfl⟩
    rw [hY,hW6] at hx6
    rw [hY,hW6] at BY
    rw [hW6] at BX kn6
    have y0:=BY.c 0 _ rfl
    have y1:=BY.c 1 _ rfl
    have y2:=BY.c 2 _ rfl
    have rv6:=(HB.out.2.kn kn6).mono (Q:=(fun g=>((No g ∨ g = X) ∨ g = Y) ∨ x5.vL.ownBlock = some g)) fun _ e=>.inl (.inl (.inl e))
    have hx:=D5.xl
    have HE : Hid (∀ w',Tr { x5 with lab:=fun g=>if g = Y then 0 else x5.lab g } (fun l=>l = 1) W6 w' → w'.os = W6.os → w'.tape = W6.tape → w'.output = W6.output → Bx b 76 #[x5.vF,x5.vG,.map (some x5.m),.int .i64 ((s.fs.length : Nat) : Int),.slice none 0 0,.int .i64 0,.slice aL s4.lo.length cL,.int .i64 s4.cd,.int .i64 s4.ct] w' → Ck (fun g=>((No g ∨ g = X) ∨ g = Y) ∨ x5.vL.ownBlock = some g) b s6 w' ∧ Kn (fun g=>((No g ∨ g = X) ∨ g = Y) ∨ x5.vL.ownBlock = some g) W6 w'):=fun w' k e1 e2 e3 hb=>by
      rw [← eL] at hb
      have q:=hx6.enter (q:=s.fs.length) (by simp only [List.length_append,List.length_singleton];have:=HQ.out;omega) k hb
      have e6:=H6.out
      rw [HQ.out] at e6
      rw [e6]
      refine ⟨q,⟨e1,e2,e3,k.size,fun g hg hn=>?_⟩⟩
      refine k.block g hg ?_
      rcases hn with hn | hn
      · rw [(hx6.no g hn).2];decide
      · have:=hx6.lL g hn
        simp only at this ⊢
        omega
    have c0 : ∀ j,W6.frozen? ⟨b,j,none⟩ = false:=hx6.bx.f
    have c3 : W6.cell? ⟨b,3,none⟩ = some (.int .i64 (s4.nu : Nat)):=hx6.bx.c 3 _ rfl
    have c4 : W6.cell? ⟨b,4,none⟩ = some (.slice aL s4.lo.length cL):=by rw [← eL];exact hx6.bx.c 4 _ rfl
    have c5 : W6.cell? ⟨b,5,none⟩ = some (.int .i64 s4.lp):=hx6.bx.c 5 _ rfl
    have c6 : W6.cell? ⟨b,6,none⟩ = some x5.vA:=hx6.bx.c 6 _ rfl
    have c03:=c0 3
    have c04:=c0 4
    have c05:=c0 5
    have c06:=c0 6
    have hYb : ¬ Y = b:=fun e=>by have:=hx5.lt;omega
    have HA : Hid (Bx b 76 (ccl x5 { s4 with fs:=s4.fs ++ [⟨t,p,(m : Int),0,[]⟩] }) W6 ∧ x5.lab b = 1):=⟨hx6.bx,hx5.lb⟩
    have HL : Hid (x5.vL = (.slice aL s4.lo.length cL)):=eL
    have HX6 : Hid (CK (fun g=>(No g ∨ g = X) ∨ g = Y) b { x5 with lab:=fun g=>if g = Y then 0 else x5.lab g } { s4 with fs:=s4.fs ++ [⟨t,p,(m : Int),0,[]⟩] } W6 ∧ Bx Y 74 #[.int .i64 (s4.nu : Nat),.slice aL s4.lo.length cL,.int .i64 s4.lp] W6 ∧ Bx X 54 #[.int .i64 k,.string ⟨t.toArray⟩,.int .i64 (m : Nat),.int .i64 p,.slice a ks.len c] W6 ∧ Kn No W W6 ∧ Rv W6 (fun g=>((No g ∨ g = X) ∨ g = Y) ∨ x5.vL.ownBlock = some g) a ks ∧ W.heap.size ≤ X):=⟨hx6,BY,BX,kn6,rv6,hx⟩
    clear hcut D5 hx5 hx6 eL BY BX kn6 rv6 HD4 HX HF HBX HK hfr b0 b0A p0 p1 p2 p3 p4 p0A p1A p2A p3A p4A hXb c0 hx
    go_wp2_with fail
    go_cut [] (fun wx=>Ck (fun g=>((No g ∨ g = X) ∨ g = Y) ∨ x5.vL.ownBlock = some g) b s6 wx ∧ Kn (fun g=>((No g ∨ g = X) ∨ g = Y) ∨ x5.vL.ownBlock = some g) W6 wx)
    case first =>
      go_region
      all_goals
        go_wp2_with fail
        go_meet
        have hl1 : (fun g=>if g = Y then 0 else x5.lab g) b = 1:=by
          show (if b = Y then 0 else x5.lab b) = 1
          rw [if_neg (fun e=>hYb e.symm)]
          exact HA.out.2
        have k1 : Tr { x5 with lab:=fun g=>if g = Y then 0 else x5.lab g } (fun l=>l = 1) W6 ((((W6.setCell ⟨b,3,none⟩ (.int .i64 (s.fs.length : Nat))).setCell ⟨b,4,none⟩ (.slice none 0 0)).setCell ⟨b,5,none⟩ (.int .i64 0)).setCell ⟨b,6,none⟩ (.slice aL s4.lo.length cL)):=((((Tr.refl _ _ W6).set hl1 _).set hl1 _).set hl1 _).set hl1 _
        have q:=HE.out _ k1 rfl rfl rfl ((((HA.out.1.put (j:=3) _).put (j:=4) _).put (j:=5) _).put (j:=6) _)
        exact ⟨q.1.drew,q.2.drew⟩
    case rest =>
      obtain ⟨K6,kn6⟩:=hcut
      have BX:=HX6.out.2.2.1.kn kn6 (.inl (.inl (.inr rfl)))
      have rv6:=HX6.out.2.2.2.2.1.kn kn6
      have K7:=C96.out (fun g=>((No g ∨ g = X) ∨ g = Y) ∨ x5.vL.ownBlock = some g) wc.drew K6.drew (rv6.kn (Kn.refl _ _).drew)
      obtain ⟨p0,p1,p2,p3,p4⟩:=BX.five
      have HK6 : Hid (Kn (fun g=>((No g ∨ g = X) ∨ g = Y) ∨ x5.vL.ownBlock = some g) W6 wc):=kn6
      clear K6 kn6 BX rv6 HE HA b3 b4 b5 c3 c4 c5 c6 c03 c04 c05 c06 y0 y1 y2 C96
      go_wp2_with fail
      go_cut [] (fun wx=>Ck (fun g=>((No g ∨ g = X) ∨ g = Y) ∨ x5.vL.ownBlock = some g) b s7 wx ∧ Kn (fun g=>((No g ∨ g = X) ∨ g = Y) ∨ x5.vL.ownBlock = some g) W6 wx)
      case first =>
        go_region_with (refine K7.mono ?_;rintro e v7 hq;have HZ : Hid (Ck (fun g=>((No g ∨ g = X) ∨ g = Y) ∨ x5.vL.ownBlock = some g) b s7 v7 ∧ Kn (fun g=>((No g ∨ g = X) ∨ g = Y) ∨ x5.vL.ownBlock = some g) W6 v7):=⟨hq.2.1,HK6.out.drew.trans hq.2.2⟩;obtain ⟨rfl,-⟩:=hq)
        all_goals
          go_wp2_with fail
          go_meet
          exact HZ.out
      case rest =>
        obtain ⟨KK7,kn7⟩:=hcut
        clear K7
        have BX:=HX6.out.2.2.1.kn kn7 (.inl (.inl (.inr rfl)))
        have rv7:=HX6.out.2.2.2.2.1.kn kn7
        obtain ⟨g9,o9,a9,c9,ea,hg9,e0,e1,e2,e3,e4,hv9,hc9⟩:=Rv.nth ks m rv7 HG.out
        subst ea
        have K8:=C24.out (fun g=>((No g ∨ g = X) ∨ g = Y) ∨ x5.vL.ownBlock = some g) wc a9 c9 KK7 hv9 hc9
        obtain ⟨p0,p1,p2,p3,p4⟩:=BX.five
        have HK7 : Hid (Kn (fun g=>((No g ∨ g = X) ∨ g = Y) ∨ x5.vL.ownBlock = some g) W6 wc):=kn7
        clear KK7 kn7 BX rv7 hg9 hv9 hc9 HK6 C24
        go_wp2_with fail
        refine K8.mono ?_
        rintro e v8 hq
        have kn8:=HK7.out.trans hq.2.2
        obtain ⟨x8,hx8⟩:=hq.2.1
        obtain ⟨rfl,-⟩:=hq
        have BY:=HX6.out.2.1.kn kn8 (.inl (.inr rfl))
        have BX:=HX6.out.2.2.1.kn kn8 (.inl (.inl (.inr rfl)))
        have y0:=BY.c 0 _ rfl
        have y1:=BY.c 1 _ rfl
        have y2:=BY.c 2 _ rfl
        have c3 : v8.cell? ⟨b,3,none⟩ = some (.int .i64 (s8.nu : Nat)):=hx8.bx.c 3 _ rfl
        have c4 : v8.cell? ⟨b,4,none⟩ = some x8.vL:=hx8.bx.c 4 _ rfl
        have c5 : v8.cell? ⟨b,5,none⟩ = some (.int .i64 s8.lp):=hx8.bx.c 5 _ rfl
        have c6 : v8.cell? ⟨b,6,none⟩ = some x8.vA:=hx8.bx.c 6 _ rfl
        have c03:=hx8.bx.f 3
        have c04:=hx8.bx.f 4
        have c05:=hx8.bx.f 5
        have c06:=hx8.bx.f 6
        have k9 : Tr x8 (fun l=>l = 1) v8 ((((v8.setCell ⟨b,3,none⟩ (.int .i64 (s4.nu : Nat))).setCell ⟨b,4,none⟩ (.slice aL s4.lo.length cL)).setCell ⟨b,5,none⟩ (.int .i64 s4.lp)).setCell ⟨b,6,none⟩ (.slice none 0 0)):=((((Tr.refl _ _ v8).set hx8.lb _).set hx8.lb _).set hx8.lb _).set hx8.lb _
        have B9:=(((hx8.bx.put (j:=3) (.int .i64 (s4.nu : Nat))).put (j:=4) (.slice aL s4.lo.length cL)).put (j:=5) (.int .i64 s4.lp)).put (j:=6) (.slice none 0 0)
        have q9:=CK.leave HX6.out.1 hx8 kn8 (by simp only [List.length_append,List.length_singleton];exact hf8) k9 (by rw [HL.out];exact B9)
        have kn9 : Kn (fun g=>(No g ∨ g = X) ∨ g = Y) W6 ((((v8.setCell ⟨b,3,none⟩ (.int .i64 (s4.nu : Nat))).setCell ⟨b,4,none⟩ (.slice aL s4.lo.length cL)).setCell ⟨b,5,none⟩ (.int .i64 s4.lp)).setCell ⟨b,6,none⟩ (.slice none 0 0)):=by
          have hnb : ¬ (fun g=>((No g ∨ g = X) ∨ g = Y) ∨ x5.vL.ownBlock = some g) b:=hx8.nob
          exact ((((kn8.setCell hnb _).setCell hnb _).setCell hnb _).setCell hnb _).mono fun _ _ e=>.inl e
        have BY9:=HX6.out.2.1.kn kn9 (.inr rfl)
        have BX9:=HX6.out.2.2.1.kn kn9 (.inl (.inr rfl))
        have HE : Hid (CP No b W { s8 with nu:=s4.nu,lo:=s4.lo,lp:=s4.lp,ar:=[] } (.returned (.tuple #[])) ((((v8.setCell ⟨b,3,none⟩ (.int .i64 (s4.nu : Nat))).setCell ⟨b,4,none⟩ (.slice aL s4.lo.length cL)).setCell ⟨b,5,none⟩ (.int .i64 s4.lp)).setCell ⟨b,6,none⟩ (.slice none 0 0))) :=
          (Cy.mk (q9.drop BY9 (by decide)) (HX6.out.2.2.2.1.trans (kn9.mono fun _ _ e=>.inl (.inl e))) BX9 HX6.out.2.2.2.2.2 : Cy No b _ W X _ _).out
        clear K8 kn8 hx8 BY BX k9 B9 q9 kn9 BY9 BX9 e0 e1 e2 e3 e4 HX6 HK7
        go_wp2
        go_end0
        rw [HS.out]
        exact HE.out
end Go.Proofs.YtkjbgggghigapaaGreat
