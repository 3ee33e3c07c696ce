import Derived.Test.YtlgkfhipobdcfaaGreatDoorCg35
import Derived.Test.YtlgkfhipobdcfaaGreatDoorCg12
namespace Go.Proofs.YtlgkfhipobdcfaaGreatDoor
open Go.RowKit
set_option maxRecDepth 20000
set_option maxHeartbeats 4000000 in
theorem rbody_any (b m : Nat) (T : List Tok) (s : Sx) (g : F) (s2 : Sx) (hS : Stp T (CR T) .body s g s2) (W : World) (h : RT b m T s W) : Calls Tryz.prog 73 #[.pointer (some ⟨b,0,none⟩)] W (RN b m T W s2 g):=by
  have hlt:=RT.lt h
  have hbW : W.heap.size ≠ b:=by omega
  obtain ⟨hes,hsm⟩:=RT.sm h
  have B0:=Bx.new W 32 #[.int .i64 0,.string ⟨#[]⟩,.int .i64 0,.int .i64 0,.slice none 0 0]
  have T0:=Tr.alloc (RS.tr h) (.cells #[.int .i64 0,.string ⟨#[]⟩,.int .i64 0,.int .i64 0,.slice none 0 0] 32)
  obtain ⟨A,hA⟩ : ∃ A,W.alloc (.cells #[.int .i64 0,.string ⟨#[]⟩,.int .i64 0,.int .i64 0,.slice none 0 0] 32) = A:=⟨_,rfl⟩
  have hAs : (W.alloc (.cells #[.int .i64 0,.string ⟨#[]⟩,.int .i64 0,.int .i64 0,.slice none 0 0] 32)).heap.size = W.heap.size + 1:=by simp
  rw [hA] at B0 T0 hAs
  cases hS with
  | @body _ _ s1 h1 =>
    have C1:=need_n b m T s 7 (by decide) (by decide) A T0.rs
    rw [show wds 7 = [100,111] from rfl] at C1
    have CB : ∀ W,RT b m T (s.needC T 7) W → Calls Tryz.prog 24 #[.pointer (some ⟨b,0,none⟩),.bool false] W (RN b m T W s1 g):=fun W h=>h1.cl b m W h
    have C4:=fun W h=>need_n b m T s1 4 (by decide) (by decide) W h
    rw [show wds 4 = [101,110,100] from rfl] at C4
    clear h1
    go_enter Tryz.func73,Tryz.ntmps73
    go_wp2_with fail
    refine C1.mono ?_;rintro e w1 ⟨rfl,hT1⟩
    have T1:=Tr.trans T0 hT1
    have B1:=B0.ky hT1.ky hbW
    clear T0 B0 C1
    go_wp2_with fail
    refine (CB _ T1.rs).mono ?_;rintro e w2 ⟨k1,t1,n1,p1,a1,c1,ks1,e1,rfl,hTN,hT⟩
    have hX1:=hT.ky.size
    have hX0:=hT1.ky.size
    have hL : Lr b m T s1 W w2.heap.size k1 t1 n1 p1 (.slice a1 ks1.len c1) ks1 (w2.alloc (.cells #[.int .i64 k1,.string ⟨t1.toArray⟩,.int .i64 n1,.int .i64 p1,.slice a1 ks1.len c1] 32)) :=
      ⟨Tr.alloc (Tr.trans T1 hT) _,(B1.ky hT.ky hbW).alloc _,Bx.new _ _ _,(hTN.mono fun g hg hl=>⟨by omega,by omega⟩).alloc _,by omega⟩
    obtain ⟨X,hX⟩ : ∃ X,w2.heap.size = X:=⟨_,rfl⟩
    obtain ⟨wS,hwS⟩ : ∃ wS,w2.alloc (.cells #[.int .i64 k1,.string ⟨t1.toArray⟩,.int .i64 n1,.int .i64 p1,.slice a1 ks1.len c1] 32) = wS:=⟨_,rfl⟩
    rw [hX,hwS] at hL
    have HwS : Hid (w2.alloc (.cells #[.int .i64 k1,.string ⟨t1.toArray⟩,.int .i64 n1,.int .i64 p1,.slice a1 ks1.len c1] 32) = wS):=hwS
    clear hwS hTN hT CB hX1 T1 B1 hT1 hX0
    go_wp2_with fail
    rw [HwS.out]
    refine (C4 _ hL.tk.rs).mono ?_;rintro e w3 ⟨rfl,hT3⟩
    have L4:=hL.took hT3
    clear HwS hT3 hL
    obtain ⟨x0,x1,x2,x3,x4⟩:=L4.box.five
    obtain ⟨q0,q1,q2,q3,q4⟩:=L4.res.five
    obtain ⟨m0,m1,m2,m3,m4⟩:=L4.res.frozen5
    go_wp2_with fail
    obtain ⟨y0,y1,y2,y3,y4⟩:=(L4.res.five_put (.int .i64 k1) (.string ⟨t1.toArray⟩) (.int .i64 n1) (.int .i64 p1) (.slice a1 ks1.len c1)).five
    refine bodyPost_ret (v:=.agg #[.int .i64 k1,.string ⟨t1.toArray⟩,.int .i64 n1,.int .i64 p1,.slice a1 ks1.len c1]) (by simp [results,Tryz.results73,go_sem,y0,y1,y2,y3,y4]) rfl ?_
    rw [e1]
    exact L4.tell'
theorem tok_mem {b m : Nat} {T : List Tok} {s : Sx} {W : World} (h : RT b m T s W) : ∀ x ∈ s.l,x ∈ T:=fun x hx=>by
  obtain ⟨i,_,h6,_⟩:=h.ps.plc
  rw [← h6] at hx
  exact List.mem_of_mem_drop hx
theorem two_l {s : Sx} (h : Ends s.l) (hc : s.c ≠ 56) : s.l = s.t :: s.tl.t :: s.l.tail.tail:=by
  have h2:=two_len h hc
  unfold Sx.tl Sx.t
  cases hl : s.l with
  | nil=>rw [hl] at h2;simp at h2
  | cons x l =>
    cases l with
    | nil=>rw [hl] at h2;simp at h2
    | cons y l=>rfl
set_option maxHeartbeats 16000000 in
theorem rfld_any (b m : Nat) (T : List Tok) (hW2 : ∀ x ∈ T,x.k = 2 → x.t ≠ [61]) (s : Sx) (g : F) (s2 : Sx) (hS : Stp T (CR T) .fld s g s2) (W : World) (h : RT b m T s W) : Calls Tryz.prog 132 #[.pointer (some ⟨b,0,none⟩)] W (RN b m T W s2 g):=by
  have hlt:=RT.lt h
  have hbW : W.heap.size ≠ b:=by omega
  obtain ⟨hes,hsm⟩:=RT.sm h
  have B0:=Bx.new W 32 #[.int .i64 0,.string ⟨#[]⟩,.int .i64 0,.int .i64 0,.slice none 0 0]
  have T0:=Tr.alloc (RS.tr h) (.cells #[.int .i64 0,.string ⟨#[]⟩,.int .i64 0,.int .i64 0,.slice none 0 0] 32)
  obtain ⟨A,hA⟩ : ∃ A,W.alloc (.cells #[.int .i64 0,.string ⟨#[]⟩,.int .i64 0,.int .i64 0,.slice none 0 0] 32) = A:=⟨_,rfl⟩
  have hAs : (W.alloc (.cells #[.int .i64 0,.string ⟨#[]⟩,.int .i64 0,.int .i64 0,.slice none 0 0] 32)).heap.size = W.heap.size + 1:=by simp
  rw [hA] at B0 T0 hAs
  have hfs : s.f < 0:=by cases hS <;> assumption
  have hck:=c_kind hfs
  obtain ⟨P,hP⟩ : ∃ P : Int,(s.t.p : Int) = P:=⟨_,rfl⟩
  have CA:=at_s b m T s A T0.rs
  rw [hP] at CA
  have C19:=fun W h=>take_c b m T s 19 (by decide) (by decide) W h
  rw [show wds 19 = [91] from rfl] at C19
  go_enter Tryz.func132,Tryz.ntmps132
  go_wp2_with fail
  refine CA.mono ?_;rintro e w1 ⟨rfl,hb1⟩
  have B1:=B0.below hb1
  have T1:=Tr.below T0 hb1
  have L1:=(Lk.begin T1 B1 hlt 13 [] 0 P).lv
  obtain ⟨X,hX⟩ : ∃ X,w1.heap.size = X:=⟨_,rfl⟩
  obtain ⟨V1,hV1⟩ : ∃ V1,w1.alloc (.cells #[.int .i64 13,.string ⟨#[]⟩,.int .i64 0,.int .i64 P,.slice none 0 0] 32) = V1:=⟨_,rfl⟩
  have L1 : Lv b m T s W X #[.int .i64 13,.string ⟨#[]⟩,.int .i64 0,.int .i64 P,.slice none 0 0] V1:=by rw [← hV1,← hX];exact L1
  have HV1 : Hid (w1.alloc (.cells #[.int .i64 13,.string ⟨#[]⟩,.int .i64 0,.int .i64 P,.slice none 0 0] 32) = V1):=hV1
  clear hV1 T1 B1 T0 B0 CA hb1
  go_wp2_with fail
  rw [HV1.out]
  clear HV1
  refine (C19 _ L1.tk.rs).mono ?_;rintro e w2 ⟨rfl,hT2⟩
  have L2:=L1.took hT2
  clear C19 hT2 L1
  cases hS with
  | @fbr _ kk s1 vv _ hf' hc h1 h2 =>
    rw [decide_eq_true hc]
    rw [if_pos hc] at L2
    have CK : ∀ W,RT b m T s.tl W → Calls Tryz.prog 72 #[.pointer (some ⟨b,0,none⟩),.int .i64 1] W (RN b m T W s1 kk):=fun W h=>h1.cl b m W h
    have C20:=fun W h=>need_n b m T s1 20 (by decide) (by decide) W h
    rw [show wds 20 = [93] from rfl] at C20
    have C14:=fun W h=>need_n b m T (s1.needC T 20) 14 (by decide) (by decide) W h
    rw [show wds 14 = [61] from rfl] at C14
    have CE : ∀ W,RT b m T ((s1.needC T 20).needC T 14) W → Calls Tryz.prog 72 #[.pointer (some ⟨b,0,none⟩),.int .i64 1] W (RN b m T W s2 vv):=fun W h=>h2.cl b m W h
    clear h1 h2
    obtain ⟨v0,v1,v2,v3,v4⟩:=L2.box.five
    obtain ⟨z0,z1,z2,z3,z4⟩:=L2.box.frozen5
    have L3 : Lv b m T s.tl W X #[.int .i64 14,.string ⟨#[]⟩,.int .i64 0,.int .i64 P,.slice none 0 0] _:=L2.set 0 (.int .i64 14)
    obtain ⟨V3,hV3⟩ : ∃ V3,w2.setCell ⟨X,0,none⟩ (.int .i64 14) = V3:=⟨_,rfl⟩
    rw [hV3] at L3
    clear L2
    go_wp2_with fail
    refine (CK _ L3.tk.rs).mono ?_;rintro e w4 ⟨k4,t4,n4,p4,a4,c4,ks4,rfl,rfl,hTN,hT4⟩
    have hX3:=L3.box.lt
    have hl3:=L3.lt
    have D3:=L3.took hT4
    have L5:=Lv.kid (t:=[]) (q:=1) (cur:=#[.int .i64 k4,.string ⟨t4.toArray⟩,.int .i64 n4,.int .i64 p4,.slice a4 ks4.len c4]) D3 (hTN.kf.mono fun g hg _=>⟨by omega,by omega⟩) rfl (by unfold maxLen;omega)
    obtain ⟨-,-,-,-,p4'⟩:=D3.box.fiveA
    obtain ⟨-,-,-,-,o4'⟩:=D3.box.frozen5A
    have HL5 : Hid (Lk b m T s1 W X 14 [] 0 P (some ⟨w4.heap.size,0,none⟩) 1 (one k4 t4 n4 p4 ks4) _):=L5
    clear hX3 hTN hT4 L3 D3 L5 CK v0 v1 v2 v3 v4 z0 z1 z2 z3 z4 hV3
    go_wp2_with fail
    refine (C20 _ HL5.out.tk.rs).mono ?_;rintro e w6 ⟨rfl,hT6⟩
    have L6:=HL5.out.took hT6
    clear HL5 hT6 C20
    go_wp2_with fail
    refine (C14 _ L6.tk.rs).mono ?_;rintro e w7 ⟨rfl,hT7⟩
    have L7:=L6.took hT7
    clear L6 hT7 C14
    have CV:=CE _ L7.drew.tk.rs
    obtain ⟨b0,b1,b2,b3,b4⟩:=L7.box.five
    go_wp2_with fail
    have D:=L7.drew
    have HF : Hid ((one k4 t4 n4 p4 ks4).len ≤ 90000):=(by show 1 ≤ 90000;omega)
    go_region_law (first | (refine step_goE (by rfl) 72 _ _ (by rfl) _ (by simp [Act.eval,Act.put]) enters72 CV ?_;rintro e' wb ⟨k3,t3,n3,p3,a3,c3,ks3,rfl,rfl,hTN,hTk⟩;refine ⟨_,rfl,?_⟩;obtain ⟨-,-,-,-,q4⟩:=(D.took hTk).box.five;obtain ⟨-,-,-,-,q5⟩:=(D.took hTk).box.fiveA) | (refine step_lk1 (by rfl) _ _ (by rfl) D hTk hTN HF.out (by rfl) (by rfl) ?_;intro gg cc wc wF hwF L8 B8;obtain ⟨-,-,-,-,r4⟩:=B8.five;obtain ⟨-,-,-,-,g4⟩:=B8.frozen5))
    all_goals
      obtain ⟨x0,x1,x2,x3,x4⟩:=L8.box.five
      obtain ⟨q0,q1,q2,q3,q4⟩:=L8.res.five
      obtain ⟨m0,m1,m2,m3,m4⟩:=L8.res.frozen5
      go_wp2_with fail
      obtain ⟨y0,y1,y2,y3,y4⟩:=(L8.res.five_put (.int .i64 14) (.string ⟨#[]⟩) (.int .i64 0) (.int .i64 P) (.slice (some ⟨gg,0,none⟩) ((one k4 t4 n4 p4 ks4).app (one k3 t3 n3 p3 ks3)).len cc)).five
      refine bodyPost_ret (v:=.agg #[.int .i64 14,.string ⟨#[]⟩,.int .i64 0,.int .i64 P,.slice (some ⟨gg,0,none⟩) ((one k4 t4 n4 p4 ks4).app (one k3 t3 n3 p3 ks3)).len cc]) (by simp [results,Tryz.results132,go_sem,y0,y1,y2,y3,y4]) rfl ?_
      rw [hP]
      exact L8.lr.tell'
  | @fnm _ vv _ hf' hc h14 h1 =>
    have n19 : s.c ≠ 19:=by rw [hc];decide
    have h56 : s.c ≠ 56:=by rw [hc];decide
    rw [decide_eq_false n19]
    rw [if_neg n19] at L2
    have CN:=fun W h=>name_n b m T s 5 W h
    have C14:=fun W h=>need_n b m T (s.name T) 14 (by decide) (by decide) W h
    have en : s.name T = s.tl:=by unfold Sx.name;exact if_pos ((name_c s).2 hc)
    have en2 : s.tl.needC T 14 = s.tl.tl:=if_pos h14
    rw [show wds 14 = [61] from rfl,en,en2] at C14
    rw [en] at CN
    have CE : ∀ W,RT b m T s.tl.tl W → Calls Tryz.prog 72 #[.pointer (some ⟨b,0,none⟩),.int .i64 1] W (RN b m T W s2 vv):=fun W h=>h1.cl b m W h
    clear h1
    go_upto_region 7 with fail
    go_cut [59] from 18 to 58 (fun v59 wx=>v59 = .bool true ∧ Lv b m T s W X #[.int .i64 13,.string ⟨#[]⟩,.int .i64 0,.int .i64 P,.slice none 0 0] wx)
    case first =>
      obtain ⟨gg,cap,i,-,-,-,h3,h4,-,-,-,-,g1,g2,d0,d1,d2,d3⟩:=(RT.cons L2.tk.rs).readsA
      have hps : PS b m T (s.t :: s.tl.t :: s.l.tail.tail) w2:=by have:=L2.tk.rs.ps;rw [two_l hes h56] at this;exact this
      obtain ⟨gg',cap',i',g1',g2',r3,r4,c0,c1,c2,c3⟩:=hps.reads2
      obtain ⟨rfl,rfl⟩ : gg = gg' ∧ cap = cap':=by
        have e:=g1.symm.trans g1'
        injection e with e;injection e with e1 e2 e3;injection e1 with e1;injection e1 with e1
        exact ⟨e1,e3⟩
      obtain rfl : i = i':=by
        have e:=g2.symm.trans g2'
        injection e with e;injection e with e1 e2
        exact_mod_cast e2
      have wi : IntKind.i64.wrap ((i : Int) + 1) = (i : Int) + 1:=by rw [IntKind.wrap_i64];omega
      clear hps g1' g2'
      have k1 : s.t.k = 1:=((name_c s).2 hc).2
      have hcu : cls s.tl.t = 14:=by rw [← c_kind (s:=s.tl) hfs];exact h14
      have hmem : s.tl.t ∈ T:=tok_mem h _ (by rw [two_l hes h56];simp)
      obtain ⟨uk,ut⟩ : s.tl.t.k = 5 ∧ s.tl.t.t = [61]:=by
        have hcd : (s.tl.t.k = 2 ∨ s.tl.t.k = 5) ∧ code s.tl.t.t = 14:=by
          unfold cls at hcu
          split at hcu
          · next hk=>exact ⟨hk,hcu⟩
          · repeat' split at hcu
            all_goals omega
        have:=(code_inv _ _ hcd.2 (by decide)).1
        have e61 : s.tl.t.t = [61]:=this.symm
        exact ⟨hcd.1.elim (fun e=>absurd e61 (hW2 _ hmem e)) id,e61⟩
      rw [k1] at d0
      rw [uk] at c0
      rw [ut] at c1
      clear k1 uk ut hcu hmem
      go_quiet (fail)
      go_wp2_with fail
      go_meet
      exact ⟨rfl,L2.below ⟨rfl,rfl,rfl,Nat.le_refl _,fun _ _=>rfl⟩⟩
    case rest =>
      clear L2
      obtain ⟨rfl,L2⟩:=hcut
      obtain ⟨v0,v1,v2,v3,v4⟩:=L2.box.five
      obtain ⟨z0,z1,z2,z3,z4⟩:=L2.box.frozen5
      have L3 : Lv b m T s W X #[.int .i64 14,.string ⟨#[]⟩,.int .i64 0,.int .i64 P,.slice none 0 0] _:=L2.set 0 (.int .i64 14)
      obtain ⟨V3,hV3⟩ : ∃ V3,wc.setCell ⟨X,0,none⟩ (.int .i64 14) = V3:=⟨_,rfl⟩
      rw [hV3] at L3
      clear L2
      go_wp2_with fail
      refine (CN _ L3.tk.rs).mono ?_;rintro e w4 ⟨k4,t4,n4,p4,a4,c4,ks4,e4,rfl,hTN,hT4⟩
      have hX3:=L3.box.lt
      have hl3:=L3.lt
      have D3:=L3.took hT4
      have L5:=Lv.kid (t:=[]) (q:=1) (cur:=#[.int .i64 k4,.string ⟨t4.toArray⟩,.int .i64 n4,.int .i64 p4,.slice a4 ks4.len c4]) D3 (hTN.kf.mono fun g hg _=>⟨by omega,by omega⟩) rfl (by unfold maxLen;omega)
      obtain ⟨-,-,-,-,p4'⟩:=D3.box.fiveA
      obtain ⟨-,-,-,-,o4'⟩:=D3.box.frozen5A
      have HL5 : Hid (Lk b m T s.tl W X 14 [] 0 P (some ⟨w4.heap.size,0,none⟩) 1 (one k4 t4 n4 p4 ks4) _):=L5
      clear hX3 hTN hT4 L3 D3 L5 v0 v1 v2 v3 v4 z0 z1 z2 z3 z4 hV3 CN
      go_wp2_with fail
      refine (C14 _ HL5.out.tk.rs).mono ?_;rintro e w7 ⟨rfl,hT7⟩
      have L7:=HL5.out.took hT7
      clear HL5 hT7 C14
      have CV:=CE _ L7.drew.tk.rs
      obtain ⟨b0,b1,b2,b3,b4⟩:=L7.box.five
      go_wp2_with fail
      have D:=L7.drew
      have HF : Hid ((one k4 t4 n4 p4 ks4).len ≤ 90000):=(by show 1 ≤ 90000;omega)
      go_region_law (first | (refine step_goE (by rfl) 72 _ _ (by rfl) _ (by simp [Act.eval,Act.put]) enters72 CV ?_;rintro e' wb ⟨k3,t3,n3,p3,a3,c3,ks3,rfl,rfl,hTN,hTk⟩;refine ⟨_,rfl,?_⟩;obtain ⟨-,-,-,-,q4⟩:=(D.took hTk).box.five;obtain ⟨-,-,-,-,q5⟩:=(D.took hTk).box.fiveA) | (refine step_lk1 (by rfl) _ _ (by rfl) D hTk hTN HF.out (by rfl) (by rfl) ?_;intro gg cc wc wF hwF L8 B8;obtain ⟨-,-,-,-,r4⟩:=B8.five;obtain ⟨-,-,-,-,g4⟩:=B8.frozen5))
      all_goals
        obtain ⟨x0,x1,x2,x3,x4⟩:=L8.box.five
        obtain ⟨q0,q1,q2,q3,q4⟩:=L8.res.five
        obtain ⟨m0,m1,m2,m3,m4⟩:=L8.res.frozen5
        go_wp2_with fail
        obtain ⟨y0,y1,y2,y3,y4⟩:=(L8.res.five_put (.int .i64 14) (.string ⟨#[]⟩) (.int .i64 0) (.int .i64 P) (.slice (some ⟨gg,0,none⟩) ((one k4 t4 n4 p4 ks4).app (one k3 t3 n3 p3 ks3)).len cc)).five
        refine bodyPost_ret (v:=.agg #[.int .i64 14,.string ⟨#[]⟩,.int .i64 0,.int .i64 P,.slice (some ⟨gg,0,none⟩) ((one k4 t4 n4 p4 ks4).app (one k3 t3 n3 p3 ks3)).len cc]) (by simp [results,Tryz.results132,go_sem,y0,y1,y2,y3,y4]) rfl ?_
        rw [hP,e4]
        exact L8.lr.tell'
  | @fit _ vv _ hf' hc hn h1 =>
    rw [decide_eq_false hc]
    rw [if_neg hc] at L2
    have CE : ∀ W,RT b m T s W → Calls Tryz.prog 72 #[.pointer (some ⟨b,0,none⟩),.int .i64 1] W (RN b m T W s2 vv):=fun W h=>h1.cl b m W h
    clear h1
    go_upto_region 7 with fail
    go_cut [59] from 18 to 58 (fun v59 wx=>v59 = .bool false ∧ Lv b m T s W X #[.int .i64 13,.string ⟨#[]⟩,.int .i64 0,.int .i64 P,.slice none 0 0] wx)
    case first =>
      by_cases h51 : s.c = 51
      · have h56 : s.c ≠ 56:=by rw [h51];decide
        obtain ⟨gg,cap,i,-,-,-,h3,h4,-,-,-,-,g1,g2,d0,d1,d2,d3⟩:=(RT.cons L2.tk.rs).readsA
        have hps : PS b m T (s.t :: s.tl.t :: s.l.tail.tail) w2:=by have:=L2.tk.rs.ps;rw [two_l hes h56] at this;exact this
        obtain ⟨gg',cap',i',g1',g2',r3,r4,c0,c1,c2,c3⟩:=hps.reads2
        obtain ⟨rfl,rfl⟩ : gg = gg' ∧ cap = cap':=by
          have e:=g1.symm.trans g1'
          injection e with e;injection e with e1 e2 e3;injection e1 with e1;injection e1 with e1
          exact ⟨e1,e3⟩
        obtain rfl : i = i':=by
          have e:=g2.symm.trans g2'
          injection e with e;injection e with e1 e2
          exact_mod_cast e2
        have wi : IntKind.i64.wrap ((i : Int) + 1) = (i : Int) + 1:=by rw [IntKind.wrap_i64];omega
        clear hps g1' g2'
        have k1 : s.t.k = 1:=((name_c s).2 h51).2
        rw [k1] at d0
        by_cases uk : s.tl.t.k = 5
        · rw [uk] at c0
          have ut : ¬ s.tl.t.t = [61]:=fun e=>hn ⟨h51,by rw [c_kind (s:=s.tl) hfs];unfold cls;rw [if_pos (.inr uk),e];rfl⟩
          have ut2 : ¬ ((⟨s.tl.t.t.toArray⟩ : ByteArray) = ⟨#[61]⟩):=fun e=>ut ((ba_eq s.tl.t.t [61]).1 e)
          have ut3 : (s.tl.t.t == [61]) = false:=by simpa using ut
          have ut4 : ¬ s.tl.t.t.toArray = #[61]:=fun e=>ut (by have:=congrArg Array.toList e;simpa using this)
          clear uk
          go_quiet (fail)
          go_wp2_with fail
          go_meet
          exact ⟨by first | rfl | rw [ut3],L2.below ⟨rfl,rfl,rfl,Nat.le_refl _,fun _ _=>rfl⟩⟩
        · have uk' : (s.tl.t.k == 5) = false:=by simpa using uk
          have uk2 : decide (s.tl.t.k = 5) = false:=decide_eq_false uk
          go_quiet (fail)
          go_wp2_with fail
          go_meet
          exact ⟨rfl,L2.below ⟨rfl,rfl,rfl,Nat.le_refl _,fun _ _=>rfl⟩⟩
      · have k1 : ¬ s.t.k = 1:=fun e=>h51 ((name_c s).1 ⟨hfs,e⟩)
        have k1' : (s.t.k == 1) = false:=by simpa using k1
        have k2 : decide (s.t.k = 1) = false:=decide_eq_false k1
        obtain ⟨gg,cap,i,-,-,-,h3,h4,-,-,-,-,g1,g2,d0,d1,d2,d3⟩:=(RT.cons L2.tk.rs).readsA
        go_quiet (fail)
        go_wp2_with fail
        go_meet
        exact ⟨rfl,L2.below ⟨rfl,rfl,rfl,Nat.le_refl _,fun _ _=>rfl⟩⟩
    case rest =>
      clear L2
      obtain ⟨rfl,L2⟩:=hcut
      have L7 : Lk b m T s W X 13 [] 0 P none 0 F.nil wc:=Lv.lk (t:=[]) L2
      clear L2
      have CV:=CE _ L7.drew.tk.rs
      obtain ⟨b0,b1,b2,b3,b4⟩:=L7.box.five
      go_wp2_with fail
      have D:=L7.drew
      have HF : Hid ((F.nil).len ≤ 90000):=(by show 0 ≤ 90000;omega)
      go_region_law (first | (refine step_goE (by rfl) 72 _ _ (by rfl) _ (by simp [Act.eval,Act.put]) enters72 CV ?_;rintro e' wb ⟨k3,t3,n3,p3,a3,c3,ks3,rfl,rfl,hTN,hTk⟩;refine ⟨_,rfl,?_⟩;obtain ⟨-,-,-,-,q4⟩:=(D.took hTk).box.five;obtain ⟨-,-,-,-,q5⟩:=(D.took hTk).box.fiveA) | (refine step_lk1 (by rfl) _ _ (by rfl) D hTk hTN HF.out (by rfl) (by rfl) ?_;intro gg cc wc wF hwF L8 B8;obtain ⟨-,-,-,-,r4⟩:=B8.five;obtain ⟨-,-,-,-,g4⟩:=B8.frozen5))
      all_goals
        obtain ⟨x0,x1,x2,x3,x4⟩:=L8.box.five
        obtain ⟨q0,q1,q2,q3,q4⟩:=L8.res.five
        obtain ⟨m0,m1,m2,m3,m4⟩:=L8.res.frozen5
        go_wp2_with fail
        obtain ⟨y0,y1,y2,y3,y4⟩:=(L8.res.five_put (.int .i64 13) (.string ⟨#[]⟩) (.int .i64 0) (.int .i64 P) (.slice (some ⟨gg,0,none⟩) ((F.nil).app (one k3 t3 n3 p3 ks3)).len cc)).five
        refine bodyPost_ret (v:=.agg #[.int .i64 13,.string ⟨#[]⟩,.int .i64 0,.int .i64 P,.slice (some ⟨gg,0,none⟩) ((F.nil).app (one k3 t3 n3 p3 ks3)).len cc]) (by simp [results,Tryz.results132,go_sem,y0,y1,y2,y3,y4]) rfl ?_
        rw [hP]
        exact L8.lr.tell'
end Go.Proofs.YtlgkfhipobdcfaaGreatDoor
