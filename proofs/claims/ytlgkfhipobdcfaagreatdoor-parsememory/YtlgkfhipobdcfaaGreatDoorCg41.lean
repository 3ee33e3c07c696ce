import Derived.Test.YtlgkfhipobdcfaaGreatDoorCg34
namespace Go.Proofs.YtlgkfhipobdcfaaGreatDoor
open Go.RowKit
set_option maxRecDepth 20000
theorem lvT_ne (s : Sx) (k : Nat) (h1 : 1 ≤ k) (h6 : k ≤ 6) (h : bnd s.c = k) : lvT s k = s.t.t ∧ s.t.t ≠ [] ∧ s.c ≠ 56:=by
  have hm:=bnd_lvC k s.c h1 h
  obtain ⟨hb,g1,g2⟩:=lvC_bnd k h1 h6 _ hm
  have hy:=lv_yes s k h1 h6 _ hm rfl
  have : lvT s k = s.t.t:=by unfold lvT;rw [if_pos h]
  refine ⟨this,?_,by omega⟩
  rw [← this,hy]
  exact F.lvl_ne g1 g2
theorem lvT_no (s : Sx) (k : Nat) (h : bnd s.c ≠ k) : lvT s k = []:=by unfold lvT;rw [if_neg h]
set_option maxHeartbeats 8000000 in
theorem rexp_k (b m : Nat) (T : List Tok) (s : Sx) (k : Nat) (hk1 : 1 ≤ k) (hk6 : k ≤ 6) (hf : s.f < 0) (n0 : F) (s1 : Sx) (f : F) (s2 : Sx) (h1 : CR T (.exp (k + 1)) s n0 s1) (h2 : Lvl (CR T) k n0 s1 f s2) (W : World) (h : RT b m T s W) : Calls Tryz.prog 72 #[.pointer (some ⟨b,0,none⟩),.int .i64 k] W (RN b m T W s2 f):=by
  have hlt:=RT.lt h
  have hbW : W.heap.size ≠ b:=by omega
  obtain ⟨hes,hsm⟩:=RT.sm h
  have hl1:=h1.pz.len hes
  have B0:=Bx.new W 32 #[.int .i64 0,.string ⟨#[]⟩,.int .i64 0,.int .i64 0,.slice none 0 0]
  have T0:=Tr.alloc (RS.tr h) (.cells #[.int .i64 0,.string ⟨#[]⟩,.int .i64 0,.int .i64 0,.slice none 0 0] 32)
  obtain ⟨A,hA⟩ : ∃ A,W.alloc (.cells #[.int .i64 0,.string ⟨#[]⟩,.int .i64 0,.int .i64 0,.slice none 0 0] 32) = A:=⟨_,rfl⟩
  have hAs : (W.alloc (.cells #[.int .i64 0,.string ⟨#[]⟩,.int .i64 0,.int .i64 0,.slice none 0 0] 32)).heap.size = W.heap.size + 1:=by simp
  rw [hA] at B0 T0 hAs
  have f2:=T0.rs.fl
  have C1 : Calls Tryz.prog 72 #[.pointer (some ⟨b,0,none⟩),.int .i64 ((k : Int) + 1)] A (RN b m T A s1 n0):=h1.cl b m A T0.rs
  have hf' : ¬ 0 ≤ s.f:=by omega
  have hk7 : ¬ (k : Int) = 7:=by omega
  have hk7' : ((k : Int) == 7) = false:=by simp;omega
  have wk : IntKind.i64.wrap ((k : Int) + 1) = (k : Int) + 1:=by rw [IntKind.wrap_i64];omega
  have CL:=fun s W h=>rlevel_any b m T s k hk1 hk6 W h
  have H2 : Hid (Lvl (CR T) k n0 s1 f s2):=h2
  clear h2 h1
  go_enter Tryz.func72,Tryz.ntmps72
  go_wp2_with fail
  refine C1.mono ?_;rintro e w1 ⟨k1,t1,n1,p1,a1,c1,ks1,e1,rfl,hTN,hT⟩
  have H2 : Hid (Lvl (CR T) k (one k1 t1 n1 p1 ks1) s1 f s2):=by rw [← e1];exact H2.out
  have hX1:=hT.ky.size
  have hL : Lr b m T s1 W w1.heap.size k1 t1 n1 p1 (.slice a1 ks1.len c1) ks1 (w1.alloc (.cells #[.int .i64 k1,.string ⟨t1.toArray⟩,.int .i64 n1,.int .i64 p1,.slice a1 ks1.len c1] 32)) :=
    ⟨Tr.alloc (Tr.trans T0 hT) _,(B0.ky hT.ky hbW).alloc _,Bx.new _ _ _,(hTN.mono fun g hg hl=>⟨by rw [hAs] at hg;omega,by omega⟩).alloc _,by omega⟩
  obtain ⟨X,hX⟩ : ∃ X,w1.heap.size = X:=⟨_,rfl⟩
  obtain ⟨wS,hwS⟩ : ∃ wS,w1.alloc (.cells #[.int .i64 k1,.string ⟨t1.toArray⟩,.int .i64 n1,.int .i64 p1,.slice a1 ks1.len c1] 32) = wS:=⟨_,rfl⟩
  rw [hX,hwS] at hL
  have HwS : Hid (w1.alloc (.cells #[.int .i64 k1,.string ⟨t1.toArray⟩,.int .i64 n1,.int .i64 p1,.slice a1 ks1.len c1] 32) = wS):=hwS
  clear hwS hTN hT e1 C1 B0 T0 f2 hX1
  go_wp2_with fail
  rw [HwS.out]
  refine (CL s1 wS hL.tk.rs).mono ?_;rintro e w2 ⟨rfl,hb2⟩
  have hL:=hL.below hb2
  clear HwS hb2
  go_wp2_with fail
  go_loopg [6] 20010 (fun gf v6 wx=>∃ (k' : Int) (t' : List UInt8) (n' p' : Int) (a' : Option Addr) (c' : Nat) (ks' : F) (s' : Sx),v6 = .string ⟨(lvT s' k).toArray⟩ ∧ Lr b m T s' W X k' t' n' p' (.slice a' ks'.len c') ks' wx ∧ Hid (Lvl (CR T) k (one k' t' n' p' ks') s' f s2) ∧ s'.l.length < gf)
  case atStart=>exact ⟨k1,t1,n1,p1,a1,c1,ks1,s1,rfl,hL,H2,by omega⟩
  case round =>
    clear hL H2
    obtain ⟨k',t',n',p',a',c',ks',s',rfl,hL,HN,hfu⟩:=hrel
    obtain ⟨he',hs'⟩:=RT.sm hL.tk.rs
    have hn:=HN.out
    clear HN
    have hlt2:=hL.lt
    obtain ⟨x0,x1,x2,x3,x4⟩:=hL.box.five
    cases hn with
    | stop hb =>
      rw [lvT_no _ k hb]
      obtain ⟨q0,q1,q2,q3,q4⟩:=hL.res.five
      obtain ⟨m0,m1,m2,m3,m4⟩:=hL.res.frozen5
      go_wp2
      obtain ⟨y0,y1,y2,y3,y4⟩:=(hL.res.five_put (.int .i64 k') (.string ⟨t'.toArray⟩) (.int .i64 n') (.int .i64 p') (.slice a' ks'.len c')).five
      refine bodyPost_ret (v:=(.agg #[.int .i64 (k'),.string ⟨(t').toArray⟩,.int .i64 (n'),.int .i64 (p'),.slice a' ks'.len c'])) (by simp [results,Tryz.results72,go_sem,y0,y1,y2,y3,y4]) rfl ?_
      exact ⟨k',t',n',p',a',c',ks',rfl,rfl,(hL.tn.five (X:=W.heap.size) (by omega) _ _ _ _ _).mono fun g hg _=>by omega,Tr.five hL.tk (Nat.le_refl _) hlt.2 _ _ _ _ _⟩
    | @more _ _ m3 s3 _ _ hb h1 h2 =>
      obtain ⟨hlv,htt,h56⟩:=lvT_ne s' k hk1 hk6 hb
      rw [hlv]
      obtain ⟨e1,l1⟩:=Sx.tl_e he' h56
      have l2:=h1.pz.len e1
      obtain ⟨i,g2,z1,wi,hI⟩:=RT.inc hL.tk.rs h56
      have hL1:=hL.took hI
      have hne : ¬ ((⟨s'.t.t.toArray⟩ : ByteArray) = ⟨#[]⟩):=fun e=>htt ((ba_eq s'.t.t []).1 e)
      have hne2 : s'.t.t.isEmpty = false:=by cases hq : s'.t.t with | nil=>exact absurd hq htt | cons x y=>rfl
      have hne3 : ¬ s'.t.t.toArray = #[]:=fun e=>htt (by have:=congrArg Array.toList e;simpa using this)
      have HN : Hid (Lvl (CR T) k (one 11 s'.t.t 0 p' ((one k' t' n' p' ks').app m3)) s3 f s2):=h2
      obtain ⟨V1,hV1⟩ : ∃ V1,wr.setCell ⟨b,1,none⟩ (.int .i64 ((i : Int) + 1)) = V1:=⟨_,rfl⟩
      rw [hV1] at hL1
      have BY:=Bx.new V1 32 #[.int .i64 0,.string ⟨#[]⟩,.int .i64 0,.int .i64 0,.slice none 0 0]
      have L2:=hL1.alloc (.cells #[.int .i64 0,.string ⟨#[]⟩,.int .i64 0,.int .i64 0,.slice none 0 0] 32)
      obtain ⟨V2,hV2⟩ : ∃ V2,V1.alloc (.cells #[.int .i64 0,.string ⟨#[]⟩,.int .i64 0,.int .i64 0,.slice none 0 0] 32) = V2:=⟨_,rfl⟩
      rw [hV2] at BY L2
      obtain ⟨Y,hY⟩ : ∃ Y,V1.heap.size = Y:=⟨_,rfl⟩
      rw [hY] at BY
      have hXY:=hL1.box.lt
      have hTNY : TN 32 V2 (fun g=>W.heap.size < g ∧ g ≠ X ∧ g ≠ Y) k' t' n' p' (.slice a' ks'.len c') ks':=by
        have:=(hL1.tn.mono (Q:=fun g=>W.heap.size < g ∧ g ≠ X ∧ g ≠ Y) fun g hg hl=>⟨hg.1,hg.2,by omega⟩).alloc (.cells #[.int .i64 0,.string ⟨#[]⟩,.int .i64 0,.int .i64 0,.slice none 0 0] 32)
        rw [hV2] at this;exact this
      have hYb : Y ≠ b:=by omega
      have HV2 : Hid (V1.alloc (.cells #[.int .i64 0,.string ⟨#[]⟩,.int .i64 0,.int .i64 0,.slice none 0 0] 32) = V2):=hV2
      clear hL hI h2 x0 x1 x2 x3 x4 hV2
      go_upto_region 10 with fail
      rw [HV2.out]
      clear HV2 hV1
      obtain ⟨q0,q1,q2,q3,q4⟩:=BY.five
      have hke : (.exp (if k = 4 then 4 else k + 1) : RJ) = .exp (if k = 4 then 4 else k + 1):=rfl
      have CE : ∀ W,RT b m T s'.tl W → Calls Tryz.prog 72 #[.pointer (some ⟨b,0,none⟩),.int .i64 ((if k = 4 then 4 else k + 1 : Nat) : Int)] W (RN b m T W s3 m3):=fun W h=>h1.cl b m W h
      clear h1 hke
      by_cases h4 : k = 4
      · rw [if_pos h4] at CE
        have CE : ∀ W,RT b m T s'.tl W → Calls Tryz.prog 72 #[.pointer (some ⟨b,0,none⟩),.int .i64 4] W (RN b m T W s3 m3):=CE
        have hk4' : ((k : Int) == 4) = true:=by simp;omega
        clear h4
        go_wp2_with fail
        refine (CE _ L2.tk.rs).mono ?_;rintro e w4 ⟨k3,t3,n3,p3,a3,c3,ks3,rfl,rfl,hTN,hT⟩
        have L3:=L2.took hT
        have BY3:=BY.ky hT.ky hYb
        have hsz4:=hT.ky.size
        have hYl:=BY.lt
        have hTNY3:=hTNY.ky hT.ky (by omega)
        obtain ⟨y0,y1,y2,y3,y4⟩:=BY3.five
        obtain ⟨z0,z1',z2,z3,z4⟩:=BY3.frozen5
        have N3 : TN 32 w4 (fun g=>W.heap.size < g ∧ g ≠ X ∧ g ≠ Y) k3 t3 n3 p3 (.slice a3 ks3.len c3) ks3:=hTN.mono fun g hg _=>⟨by omega,by omega,by omega⟩
        have L4:=L3.five (Y:=Y) (by omega) (by omega) hTNY3 (.int .i64 k3) (.string ⟨t3.toArray⟩) (.int .i64 n3) (.int .i64 p3) (.slice a3 ks3.len c3)
        have BY4:=BY3.five_put (.int .i64 k3) (.string ⟨t3.toArray⟩) (.int .i64 n3) (.int .i64 p3) (.slice a3 ks3.len c3)
        have N4:=N3.five (X:=Y) (by omega) (.int .i64 k3) (.string ⟨t3.toArray⟩) (.int .i64 n3) (.int .i64 p3) (.slice a3 ks3.len c3)
        obtain ⟨V4,hV4⟩ : ∃ V4,((((w4.setCell ⟨Y,0,none⟩ (.int .i64 k3)).setCell ⟨Y,1,none⟩ (.string ⟨t3.toArray⟩)).setCell ⟨Y,2,none⟩ (.int .i64 n3)).setCell ⟨Y,3,none⟩ (.int .i64 p3)).setCell ⟨Y,4,none⟩ (.slice a3 ks3.len c3) = V4:=⟨_,rfl⟩
        rw [hV4] at L4 BY4 N4
        obtain ⟨u0,u1,u2,u3,u4⟩:=L4.box.five
        obtain ⟨v0,v1,v2,v3,v4⟩:=BY4.five
        obtain ⟨uA0,uA1,uA2,uA3,uA4⟩:=L4.box.fiveA
        obtain ⟨uf0,uf1,uf2,uf3,uf4⟩:=L4.box.frozen5A
        have hlt4:=L4.lt
        have hX4:=L4.box.lt
        have M6:=TN.made (E:=32) (cur:=#[.int .i64 k',.string ⟨t'.toArray⟩,.int .i64 n',.int .i64 p',.slice a' ks'.len c',.int .i64 k3,.string ⟨t3.toArray⟩,.int .i64 n3,.int .i64 p3,.slice a3 ks3.len c3]) (c:=2) (L4.tn.kf.app (N4.kf.mono fun g hg _=>⟨hg.1,hg.2.1⟩)) (by constructor <;> omega) rfl (by unfold maxLen;omega) 11 s'.t.t 0 p'
        have L6:=(L4.alloc _).put M6
        have HL6 : Hid (Lr b m T s3 W X 11 s'.t.t 0 p' (.slice (some ⟨V4.heap.size,0,none⟩) 2 2) ((one k' t' n' p' ks').app (one k3 t3 n3 p3 ks3)) _):=L6
        clear hX4 hYl hsz4 L2 L3 L4 L6 BY BY3 BY4 hTN hT hTNY hTNY3 N3 N4 M6 CE q0 q1 q2 q3 q4
        go_wp2_with fail
        refine (CL s3 _ HL6.out.tk.rs).mono ?_;rintro e w7 ⟨rfl,hb7⟩
        have L7:=HL6.out.below hb7
        clear HL6 hb7
        go_wp2_with fail
        go_roundg (s3.l.length + 1)
        case measure=>omega
        case rel=>exact ⟨11,s'.t.t,0,p',_,2,_,s3,rfl,L7,HN,by omega⟩
      · rw [if_neg h4] at CE
        have CE : ∀ W,RT b m T s'.tl W → Calls Tryz.prog 72 #[.pointer (some ⟨b,0,none⟩),.int .i64 ((k : Int) + 1)] W (RN b m T W s3 m3):=CE
        have hk4 : ¬ (k : Int) = 4:=by omega
        have hk4' : ((k : Int) == 4) = false:=by simp;omega
        clear h4
        go_wp2_with fail
        refine (CE _ L2.tk.rs).mono ?_;rintro e w4 ⟨k3,t3,n3,p3,a3,c3,ks3,rfl,rfl,hTN,hT⟩
        have L3:=L2.took hT
        have BY3:=BY.ky hT.ky hYb
        have hsz4:=hT.ky.size
        have hYl:=BY.lt
        have hTNY3:=hTNY.ky hT.ky (by omega)
        obtain ⟨y0,y1,y2,y3,y4⟩:=BY3.five
        obtain ⟨z0,z1',z2,z3,z4⟩:=BY3.frozen5
        have N3 : TN 32 w4 (fun g=>W.heap.size < g ∧ g ≠ X ∧ g ≠ Y) k3 t3 n3 p3 (.slice a3 ks3.len c3) ks3:=hTN.mono fun g hg _=>⟨by omega,by omega,by omega⟩
        have L4:=L3.five (Y:=Y) (by omega) (by omega) hTNY3 (.int .i64 k3) (.string ⟨t3.toArray⟩) (.int .i64 n3) (.int .i64 p3) (.slice a3 ks3.len c3)
        have BY4:=BY3.five_put (.int .i64 k3) (.string ⟨t3.toArray⟩) (.int .i64 n3) (.int .i64 p3) (.slice a3 ks3.len c3)
        have N4:=N3.five (X:=Y) (by omega) (.int .i64 k3) (.string ⟨t3.toArray⟩) (.int .i64 n3) (.int .i64 p3) (.slice a3 ks3.len c3)
        obtain ⟨V4,hV4⟩ : ∃ V4,((((w4.setCell ⟨Y,0,none⟩ (.int .i64 k3)).setCell ⟨Y,1,none⟩ (.string ⟨t3.toArray⟩)).setCell ⟨Y,2,none⟩ (.int .i64 n3)).setCell ⟨Y,3,none⟩ (.int .i64 p3)).setCell ⟨Y,4,none⟩ (.slice a3 ks3.len c3) = V4:=⟨_,rfl⟩
        rw [hV4] at L4 BY4 N4
        obtain ⟨u0,u1,u2,u3,u4⟩:=L4.box.five
        obtain ⟨v0,v1,v2,v3,v4⟩:=BY4.five
        obtain ⟨uA0,uA1,uA2,uA3,uA4⟩:=L4.box.fiveA
        obtain ⟨uf0,uf1,uf2,uf3,uf4⟩:=L4.box.frozen5A
        have hlt4:=L4.lt
        have hX4:=L4.box.lt
        have M6:=TN.made (E:=32) (cur:=#[.int .i64 k',.string ⟨t'.toArray⟩,.int .i64 n',.int .i64 p',.slice a' ks'.len c',.int .i64 k3,.string ⟨t3.toArray⟩,.int .i64 n3,.int .i64 p3,.slice a3 ks3.len c3]) (c:=2) (L4.tn.kf.app (N4.kf.mono fun g hg _=>⟨hg.1,hg.2.1⟩)) (by constructor <;> omega) rfl (by unfold maxLen;omega) 11 s'.t.t 0 p'
        have L6:=(L4.alloc _).put M6
        have HL6 : Hid (Lr b m T s3 W X 11 s'.t.t 0 p' (.slice (some ⟨V4.heap.size,0,none⟩) 2 2) ((one k' t' n' p' ks').app (one k3 t3 n3 p3 ks3)) _):=L6
        clear hX4 hYl hsz4 L2 L3 L4 L6 BY BY3 BY4 hTN hT hTNY hTNY3 N3 N4 M6 CE q0 q1 q2 q3 q4
        go_wp2_with fail
        refine (CL s3 _ HL6.out.tk.rs).mono ?_;rintro e w7 ⟨rfl,hb7⟩
        have L7:=HL6.out.below hb7
        clear HL6 hb7
        go_wp2_with fail
        go_roundg (s3.l.length + 1)
        case measure=>omega
        case rel=>exact ⟨11,s'.t.t,0,p',_,2,_,s3,rfl,L7,HN,by omega⟩
end Go.Proofs.YtlgkfhipobdcfaaGreatDoor
