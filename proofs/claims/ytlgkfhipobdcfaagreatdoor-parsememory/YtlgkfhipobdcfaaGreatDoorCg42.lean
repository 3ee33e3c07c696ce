import Derived.Test.YtlgkfhipobdcfaaGreatDoorCg41
import Derived.Test.YtlgkfhipobdcfaaGreatDoorCg34
import Derived.Test.YtlgkfhipobdcfaaGreatDoorCg40
import Derived.Test.YtlgkfhipobdcfaaGreatDoorCg07
namespace Go.Proofs.YtlgkfhipobdcfaaGreatDoor
open Go.RowKit
set_option maxRecDepth 20000
theorem Lr.tell {b m : Nat} {T : List Tok} {s : Sx} {W : World} {X : Nat} {k : Int} {t : List UInt8} {n p : Int} {a : Option Addr} {c : Nat} {ks : F} {w : World} (h : Lr b m T s W X k t n p (.slice a ks.len c) ks w) :
    RN b m T W s (one k t n p ks) (.returned (.agg #[.int .i64 (k),.string ⟨(t).toArray⟩,.int .i64 (n),.int .i64 (p),.slice a ks.len c])) (((((w.setCell ⟨W.heap.size,0,none⟩ (.int .i64 k)).setCell ⟨W.heap.size,1,none⟩ (.string ⟨t.toArray⟩)).setCell ⟨W.heap.size,2,none⟩ (.int .i64 n)).setCell ⟨W.heap.size,3,none⟩ (.int .i64 p)).setCell ⟨W.heap.size,4,none⟩ (.slice a ks.len c)):=by
  have hlt:=h.lt
  exact ⟨k,t,n,p,a,c,ks,rfl,rfl,(h.tn.five (X:=W.heap.size) (by omega) _ _ _ _ _).mono fun g hg _=>by omega,Tr.five h.tk (Nat.le_refl _) hlt.2.1 _ _ _ _ _⟩
set_option maxHeartbeats 8000000 in
theorem rsuf_any (b m : Nat) (T : List Tok) (hE : Ends T) (s : Sx) (g : F) (s2 : Sx) (hS : Stp T (CR T) .suf s g s2) (W : World) (h : RT b m T s W) : Calls Tryz.prog 111 #[.pointer (some ⟨b,0,none⟩)] W (RN b m T W s2 g):=by
  have hlt:=RT.lt h
  have hbW : W.heap.size ≠ b:=by omega
  obtain ⟨hes,hsm⟩:=RT.sm h
  have B0:=Bx.new W 32 #[.int .i64 0,.string ⟨#[]⟩,.int .i64 0,.int .i64 0,.slice none 0 0]
  have T0:=Tr.alloc (RS.tr h) (.cells #[.int .i64 0,.string ⟨#[]⟩,.int .i64 0,.int .i64 0,.slice none 0 0] 32)
  obtain ⟨A,hA⟩ : ∃ A,W.alloc (.cells #[.int .i64 0,.string ⟨#[]⟩,.int .i64 0,.int .i64 0,.slice none 0 0] 32) = A:=⟨_,rfl⟩
  have hAs : (W.alloc (.cells #[.int .i64 0,.string ⟨#[]⟩,.int .i64 0,.int .i64 0,.slice none 0 0] 32)).heap.size = W.heap.size + 1:=by simp
  rw [hA] at B0 T0 hAs
  have CA:=at_s b m T s A T0.rs
  obtain ⟨P,hP⟩ : ∃ P : Int,(s.t.p : Int) = P:=⟨_,rfl⟩
  rw [hP] at CA
  go_enter Tryz.func111,Tryz.ntmps111
  go_wp2_with fail
  refine CA.mono ?_;rintro e w1 ⟨rfl,hb1⟩
  have B1:=B0.below hb1
  have T1:=Tr.below T0 hb1
  have hs1:=hb1.size
  have BX:=Bx.new w1 32 #[.int .i64 0,.string ⟨#[]⟩,.int .i64 0,.int .i64 0,.slice none 0 0]
  have hL0 : Lr b m T s W w1.heap.size 0 [] 0 0 (.slice none 0 0) .nil (w1.alloc (.cells #[.int .i64 0,.string ⟨#[]⟩,.int .i64 0,.int .i64 0,.slice none 0 0] 32)):=⟨Tr.alloc T1 _,B1.alloc _,BX,TN.leaf 32 _ _ 0 [] 0 0,by omega⟩
  obtain ⟨X,hX⟩ : ∃ X,w1.heap.size = X:=⟨_,rfl⟩
  obtain ⟨w2,hw2⟩ : ∃ w2,w1.alloc (.cells #[.int .i64 0,.string ⟨#[]⟩,.int .i64 0,.int .i64 0,.slice none 0 0] 32) = w2:=⟨_,rfl⟩
  rw [hX,hw2] at hL0
  have Hw2 : Hid (w1.alloc (.cells #[.int .i64 0,.string ⟨#[]⟩,.int .i64 0,.int .i64 0,.slice none 0 0] 32) = w2):=hw2
  clear B0 T0 CA B1 T1 hb1 BX hw2 hA hAs hs1
  go_upto_region 3 with fail
  rw [Hw2.out]
  clear Hw2
  have C:=take_c b m T s 17 (by decide) (by decide) w2 hL0.tk.rs
  rw [show wds 17 = [40] from rfl] at C
  go_upto_if 10 with (go_at_call 45;refine C.mono ?_;rintro e' w3 ⟨rfl,hT3⟩)
  have L3:=hL0.took hT3
  clear C hL0 hT3
  go_cut [] from 9 to 19 (fun wx=>∃ (k' : Int) (t' : List UInt8) (n' p' : Int) (a' : Option Addr) (c' : Nat) (ks' : F) (s' : Sx),Lr b m T s' W X k' t' n' p' (.slice a' ks'.len c') ks' wx ∧ Hid (SufL T (CR T) P (one k' t' n' p' ks') s' g s2))
  case first =>
    cases hS with
    | @spn _ e s1 _ _ h17 h1 h2 =>
      rw [if_pos h17] at L3
      have hd : decide (s.c = 17) = true:=decide_eq_true h17
      have CE : ∀ W,RT b m T s.tl W → Calls Tryz.prog 72 #[.pointer (some ⟨b,0,none⟩),.int .i64 1] W (RN b m T W s1 e):=fun W h=>h1.cl b m W h
      have CN:=fun W h=>need_n b m T s1 18 (by decide) (by decide) W h
      rw [show wds 18 = [41] from rfl] at CN
      have HS : Hid (SufL T (CR T) P (one 9 [] 0 P e) (s1.needC T 18) g s2):=by rw [← hP];exact h2
      clear h1 h2
      go_wp2_with fail
      refine (CE _ L3.tk.rs).mono ?_;rintro e' w4 ⟨k3,t3,n3,p3,a3,c3,ks3,rfl,rfl,hTN,hT⟩
      have L4:=L3.took hT
      have hX3:=L3.box.lt
      have hX4:=hT.ky.size
      have hlt4:=L4.lt
      have M6:=TN.made (E:=32) (Q:=fun g=>W.heap.size < g ∧ g ≠ X) (cur:=#[.int .i64 k3,.string ⟨t3.toArray⟩,.int .i64 n3,.int .i64 p3,.slice a3 ks3.len c3]) (c:=1) (hTN.kf.mono fun g hg _=>⟨by omega,by omega⟩) (by constructor <;> omega) rfl (by unfold maxLen;omega) 9 [] 0 P
      have L6:=(L4.alloc _).put M6
      have HL6 : Hid (Lr b m T s1 W X 9 [] 0 P (.slice (some ⟨w4.heap.size,0,none⟩) 1 1) (one k3 t3 n3 p3 ks3) _):=L6
      obtain ⟨uA0,uA1,uA2,uA3,uA4⟩:=L4.box.fiveA
      obtain ⟨uf0,uf1,uf2,uf3,uf4⟩:=L4.box.frozen5A
      clear L3 L4 L6 M6 hT hTN CE hX3 hX4
      go_wp2_with fail
      refine (CN _ HL6.out.tk.rs).mono ?_;rintro e' w7 ⟨rfl,hT7⟩
      have L7:=HL6.out.took hT7
      go_wp2_with fail
      go_meet
      exact ⟨9,[],0,P,_,1,_,_,L7,HS⟩
    | snm h17 h2 =>
      rw [if_neg h17] at L3
      have hd : decide (s.c = 17) = false:=decide_eq_false h17
      have CN:=fun W h=>name_n b m T s 6 W h
      have HS : Hid (SufL T (CR T) P (s.nm 6) (s.name T) g s2):=by rw [← hP];exact h2
      clear h2
      go_wp2_with fail
      refine (CN _ L3.tk.rs).mono ?_;rintro e' w4 ⟨k3,t3,n3,p3,a3,c3,ks3,e3,rfl,hTN,hT⟩
      have L4:=L3.took hT
      have hX3:=L3.box.lt
      have hlt4:=L4.lt
      have L6:=L4.put (hTN.mono fun g hg _=>⟨by omega,by omega⟩)
      have HS : Hid (SufL T (CR T) P (one k3 t3 n3 p3 ks3) (s.name T) g s2):=by rw [← e3];exact HS.out
      obtain ⟨u0,u1,u2,u3,u4⟩:=L4.box.five
      obtain ⟨f0,f1,f2,f3,f4⟩:=L4.box.frozen5
      clear L3 L4 hT hTN hX3 e3
      go_wp2_with fail
      go_meet
      exact ⟨k3,t3,n3,p3,_,_,_,_,L6,HS⟩
  case rest =>
    obtain ⟨k',t',n',p',a',c',ks',s',hL,HS⟩:=hcut
    obtain ⟨he',hs'⟩:=RT.sm hL.tk.rs
    go_wp2_with fail
    go_loopg [] 20010 (fun gf wx=>∃ (k' : Int) (t' : List UInt8) (n' p' : Int) (a' : Option Addr) (c' : Nat) (ks' : F) (s' : Sx),Lr b m T s' W X k' t' n' p' (.slice a' ks'.len c') ks' wx ∧ Hid (SufL T (CR T) P (one k' t' n' p' ks') s' g s2) ∧ s'.l.length < gf)
    case atStart=>exact ⟨k',t',n',p',a',c',ks',s',hL,HS,by omega⟩
    case round =>
      clear hL HS he' hs' L3
      obtain ⟨k',t',n',p',a',c',ks',s',hL,HS,hfu⟩:=hrel
      obtain ⟨he',hs'⟩:=RT.sm hL.tk.rs
      have hn:=HS.out
      clear HS
      have hlt2:=hL.lt
      cases hn with
      | stop h19 h21 h17 =>
        have C1:=take_n b m T _ 19 (by decide) (by decide) h19 wr hL.tk.rs
        rw [show wds 19 = [91] from rfl] at C1
        have C2:=fun W h=>take_n b m T _ 21 (by decide) (by decide) h21 W h
        rw [show wds 21 = [46] from rfl] at C2
        have C3:=fun W h=>take_n b m T _ 17 (by decide) (by decide) h17 W h
        rw [show wds 17 = [40] from rfl] at C3
        go_wp2_with fail
        refine C1.mono ?_;rintro e' w3 ⟨rfl,hT3⟩
        have hL:=hL.took hT3
        go_wp2_with fail
        refine (C2 _ hL.tk.rs).mono ?_;rintro e' w4 ⟨rfl,hT4⟩
        have hL:=hL.took hT4
        go_wp2_with fail
        refine (C3 _ hL.tk.rs).mono ?_;rintro e' w5 ⟨rfl,hT5⟩
        have hL:=hL.took hT5
        obtain ⟨x0,x1,x2,x3,x4⟩:=hL.box.five
        obtain ⟨q0,q1,q2,q3,q4⟩:=hL.res.five
        obtain ⟨m0,m1,m2,m3,m4⟩:=hL.res.frozen5
        clear C1 C2 C3 hT3 hT4 hT5
        go_wp2
        obtain ⟨y0,y1,y2,y3,y4⟩:=(hL.res.five_put (.int .i64 k') (.string ⟨t'.toArray⟩) (.int .i64 n') (.int .i64 p') (.slice a' ks'.len c')).five
        refine bodyPost_ret (v:=(.agg #[.int .i64 (k'),.string ⟨(t').toArray⟩,.int .i64 (n'),.int .i64 (p'),.slice a' ks'.len c'])) (by simp [results,Tryz.results111,go_sem,y0,y1,y2,y3,y4]) rfl ?_
        exact hL.tell
      | @idx _ _ kk s3 _ _ h19 h1 h2 =>
        have C1:=take_y b m T s' 19 (by decide) (by decide) h19 wr hL.tk.rs
        rw [show wds 19 = [91] from rfl] at C1
        obtain ⟨e1,l1⟩:=Sx.tl_e he' (by rw [h19];decide)
        have l2:=h1.pz.len e1
        obtain ⟨e2,l3⟩:=need_e2 hE (h1.pz.ends e1) 20 (by decide)
        have CE : ∀ W,RT b m T s'.tl W → Calls Tryz.prog 72 #[.pointer (some ⟨b,0,none⟩),.int .i64 1] W (RN b m T W s3 kk):=fun W h=>h1.cl b m W h
        have CN:=fun W h=>need_n b m T s3 20 (by decide) (by decide) W h
        rw [show wds 20 = [93] from rfl] at CN
        have HN : Hid (SufL T (CR T) P (one 7 [] 0 P ((one k' t' n' p' ks').app kk)) (s3.needC T 20) g s2):=h2
        clear h1 h2
        go_wp2_with fail
        refine C1.mono ?_;rintro e' w3 ⟨rfl,hT3⟩
        have hL:=hL.took hT3
        clear C1 hT3
        go_wp2_with fail
        refine (CE _ hL.tk.rs).mono ?_;rintro e' w4 ⟨k3,t3,n3,p3,a3,c3,ks3,rfl,rfl,hTN,hT⟩
        have hX3:=hL.box.lt
        have L4:=(hL.took hT).alloc (.cells #[.int .i64 k3,.string ⟨t3.toArray⟩,.int .i64 n3,.int .i64 p3,.slice a3 ks3.len c3] 32)
        have BY:=Bx.new w4 32 #[.int .i64 k3,.string ⟨t3.toArray⟩,.int .i64 n3,.int .i64 p3,.slice a3 ks3.len c3]
        have N4:=(hTN.mono (Q:=fun g=>W.heap.size < g ∧ g ≠ X) fun g hg _=>⟨by omega,by omega⟩).alloc (.cells #[.int .i64 k3,.string ⟨t3.toArray⟩,.int .i64 n3,.int .i64 p3,.slice a3 ks3.len c3] 32)
        have hYb : w4.heap.size ≠ b:=by have:=hT.ky.size;omega
        obtain ⟨Y,hY⟩ : ∃ Y,w4.heap.size = Y:=⟨_,rfl⟩
        obtain ⟨V4,hV4⟩ : ∃ V4,w4.alloc (.cells #[.int .i64 k3,.string ⟨t3.toArray⟩,.int .i64 n3,.int .i64 p3,.slice a3 ks3.len c3] 32) = V4:=⟨_,rfl⟩
        rw [hV4] at L4 BY N4
        rw [hY] at BY hYb
        have HV4 : Hid (w4.alloc (.cells #[.int .i64 k3,.string ⟨t3.toArray⟩,.int .i64 n3,.int .i64 p3,.slice a3 ks3.len c3] 32) = V4):=hV4
        clear CE hT hTN hX3 hV4 hL
        go_wp2_with fail
        rw [HV4.out]
        refine (CN _ L4.tk.rs).mono ?_;rintro e' w5 ⟨rfl,hT5⟩
        have L5:=L4.took hT5
        have BY5:=BY.ky hT5.ky hYb
        have N5:=N4.ky hT5.ky (by omega)
        obtain ⟨u0,u1,u2,u3,u4⟩:=L5.box.five
        obtain ⟨v0,v1,v2,v3,v4⟩:=BY5.five
        obtain ⟨uA0,uA1,uA2,uA3,uA4⟩:=L5.box.fiveA
        obtain ⟨uf0,uf1,uf2,uf3,uf4⟩:=L5.box.frozen5A
        have hX5:=L5.box.lt
        have M6:=TN.made (E:=32) (cur:=#[.int .i64 k',.string ⟨t'.toArray⟩,.int .i64 n',.int .i64 p',.slice a' ks'.len c',.int .i64 k3,.string ⟨t3.toArray⟩,.int .i64 n3,.int .i64 p3,.slice a3 ks3.len c3]) (c:=2) (L5.tn.kf.app N5.kf) (by constructor <;> omega) rfl (by unfold maxLen;omega) 7 [] 0 P
        have L6:=(L5.alloc _).put M6
        clear HV4 L4 BY N4 hT5 L5 BY5 N5 M6 CN hX5
        go_wp2_with fail
        go_roundg ((s3.needC T 20).l.length + 1)
        case measure=>omega
        case rel=>exact ⟨7,[],0,P,_,2,_,_,L6,HN,by omega⟩
      | dot h21 h2 =>
        have n19 : s'.c ≠ 19:=by rw [h21];decide
        have C1:=take_n b m T s' 19 (by decide) (by decide) n19 wr hL.tk.rs
        rw [show wds 19 = [91] from rfl] at C1
        have C2:=fun W h=>take_y b m T s' 21 (by decide) (by decide) h21 W h
        rw [show wds 21 = [46] from rfl] at C2
        have CN:=fun W h=>name_n b m T s'.tl 5 W h
        obtain ⟨e1,l1⟩:=Sx.tl_e he' (by rw [h21];decide)
        obtain ⟨e2,l2⟩:=name_e hE e1
        have HN : Hid (SufL T (CR T) P (one 7 [] 0 P ((one k' t' n' p' ks').app (s'.tl.nm 5))) (s'.tl.name T) g s2):=h2
        clear h2
        go_wp2_with fail
        refine C1.mono ?_;rintro e' w3 ⟨rfl,hT3⟩
        have hL:=hL.took hT3
        go_wp2_with fail
        refine (C2 _ hL.tk.rs).mono ?_;rintro e' w4 ⟨rfl,hT4⟩
        have hL:=(hL.took hT4).drew
        obtain ⟨x0,x1,x2,x3,x4⟩:=hL.box.five
        clear C1 C2 hT3 hT4
        go_wp2_with fail
        go_region_with (go_at_call 48;refine (CN _ hL.tk.rs).mono ?_;rintro e' w5 ⟨k3,t3,n3,p3,a3,c3,ks3,e3,rfl,hTN,hT⟩;have hX3:=hL.box.lt;have L5:=hL.took hT;have N5:=(hTN.mono (Q:=fun g=>W.heap.size < g ∧ g ≠ X) (fun g hg _=>⟨by omega,by omega⟩));obtain ⟨u0,u1,u2,u3,u4⟩:=L5.box.five;obtain ⟨uA0,uA1,uA2,uA3,uA4⟩:=L5.box.fiveA;obtain ⟨uf0,uf1,uf2,uf3,uf4⟩:=L5.box.frozen5A;clear hX3)
        all_goals
          have hX5:=L5.box.lt
          have M6:=TN.made (E:=32) (cur:=#[.int .i64 k',.string ⟨t'.toArray⟩,.int .i64 n',.int .i64 p',.slice a' ks'.len c',.int .i64 k3,.string ⟨t3.toArray⟩,.int .i64 n3,.int .i64 p3,.slice a3 ks3.len c3]) (c:=2) (L5.tn.kf.app N5.kf) (by constructor <;> omega) rfl (by unfold maxLen;omega) 7 [] 0 P
          have L6:=(L5.alloc _).put M6
          rw [e3] at HN
          clear M6 hX5 N5 hTN hT L5
          go_wp2_with fail
          go_roundg ((s'.tl.name T).l.length + 1)
          case measure=>omega
          case rel=>exact ⟨7,[],0,P,_,2,_,_,L6,HN,by omega⟩
      | call0 h17 h18 h2 =>
        have n19 : s'.c ≠ 19:=by rw [h17];decide
        have n21 : s'.c ≠ 21:=by rw [h17];decide
        have C1:=take_n b m T s' 19 (by decide) (by decide) n19 wr hL.tk.rs
        rw [show wds 19 = [91] from rfl] at C1
        have C2:=fun W h=>take_n b m T s' 21 (by decide) (by decide) n21 W h
        rw [show wds 21 = [46] from rfl] at C2
        have C3:=fun W h=>take_y b m T s' 17 (by decide) (by decide) h17 W h
        rw [show wds 17 = [40] from rfl] at C3
        have C4:=fun W h=>see_n b m T s'.tl 18 (by decide) (by decide) W h
        rw [show wds 18 = [41] from rfl,decide_eq_true h18] at C4
        have C5:=fun W h=>need_n b m T s'.tl 18 (by decide) (by decide) W h
        rw [show wds 18 = [41] from rfl,show s'.tl.needC T 18 = s'.tl.tl from if_pos h18] at C5
        obtain ⟨e1,l1⟩:=Sx.tl_e he' (by rw [h17];decide)
        obtain ⟨e2,l2⟩:=Sx.tl_e e1 (by rw [h18];decide)
        have HN : Hid (SufL T (CR T) P (one 8 [] 0 P (one k' t' n' p' ks')) s'.tl.tl g s2):=h2
        clear h2
        go_wp2_with fail
        refine C1.mono ?_;rintro e' w3 ⟨rfl,hT3⟩
        have hL:=hL.took hT3
        go_wp2_with fail
        refine (C2 _ hL.tk.rs).mono ?_;rintro e' w4 ⟨rfl,hT4⟩
        have hL:=hL.took hT4
        go_wp2_with fail
        refine (C3 _ hL.tk.rs).mono ?_;rintro e' w5 ⟨rfl,hT5⟩
        have hL:=hL.took hT5
        obtain ⟨u0,u1,u2,u3,u4⟩:=hL.box.five
        obtain ⟨uA0,uA1,uA2,uA3,uA4⟩:=hL.box.fiveA
        obtain ⟨uf0,uf1,uf2,uf3,uf4⟩:=hL.box.frozen5A
        have hX5:=hL.box.lt
        have M6:=TN.made (E:=32) (cur:=#[.int .i64 k',.string ⟨t'.toArray⟩,.int .i64 n',.int .i64 p',.slice a' ks'.len c']) (c:=1) hL.tn.kf (by constructor <;> omega) rfl (by unfold maxLen;omega) 8 [] 0 P
        have L6:=(hL.alloc _).put M6
        have HL6 : Hid (Lr b m T s'.tl W X 8 [] 0 P (.slice (some ⟨w5.heap.size,0,none⟩) 1 1) (one k' t' n' p' ks') _):=L6
        clear C1 C2 C3 hT3 hT4 hT5 hL M6 L6 hX5
        go_wp2_with fail
        refine (C4 _ HL6.out.tk.rs).mono ?_;rintro e' w6 ⟨rfl,hb6⟩
        have L7:=HL6.out.below hb6
        clear HL6 hb6
        go_wp2_with fail
        refine (C5 _ L7.tk.rs).mono ?_;rintro e' w7 ⟨rfl,hT7⟩
        have L7:=L7.took hT7
        clear C4 C5 hT7
        go_wp2_with fail
        go_roundg (s'.tl.tl.l.length + 1)
        case measure=>omega
        case rel=>exact ⟨8,[],0,P,_,1,_,_,L7,HN,by omega⟩
      | @callN _ _ kk s3 _ _ h17 h18 h1 h2 =>
        have n19 : s'.c ≠ 19:=by rw [h17];decide
        have n21 : s'.c ≠ 21:=by rw [h17];decide
        have C1:=take_n b m T s' 19 (by decide) (by decide) n19 wr hL.tk.rs
        rw [show wds 19 = [91] from rfl] at C1
        have C2:=fun W h=>take_n b m T s' 21 (by decide) (by decide) n21 W h
        rw [show wds 21 = [46] from rfl] at C2
        have C3:=fun W h=>take_y b m T s' 17 (by decide) (by decide) h17 W h
        rw [show wds 17 = [40] from rfl] at C3
        have C4:=fun W h=>see_n b m T s'.tl 18 (by decide) (by decide) W h
        rw [show wds 18 = [41] from rfl,decide_eq_false h18] at C4
        have C5:=fun W h=>need_n b m T s3 18 (by decide) (by decide) W h
        rw [show wds 18 = [41] from rfl] at C5
        obtain ⟨e1,l1⟩:=Sx.tl_e he' (by rw [h17];decide)
        have l2:=h1.pz.len e1
        obtain ⟨r1,r2⟩:=h1.pz.row e1
        obtain ⟨e2,l3⟩:=need_e2 hE (h1.pz.ends e1) 18 (by decide)
        have CL : ∀ W,RT b m T s'.tl W → Calls Tryz.prog 47 #[.pointer (some ⟨b,0,none⟩)] W (RL b m T W s3 kk):=fun W h=>h1.cl b m W h
        have HN : Hid (SufL T (CR T) P (one 8 [] 0 P ((one k' t' n' p' ks').app kk)) (s3.needC T 18) g s2):=h2
        clear h2 h1
        go_wp2_with fail
        refine C1.mono ?_;rintro e' w3 ⟨rfl,hT3⟩
        have hL:=hL.took hT3
        go_wp2_with fail
        refine (C2 _ hL.tk.rs).mono ?_;rintro e' w4 ⟨rfl,hT4⟩
        have hL:=hL.took hT4
        go_wp2_with fail
        refine (C3 _ hL.tk.rs).mono ?_;rintro e' w5 ⟨rfl,hT5⟩
        have hL:=hL.took hT5
        obtain ⟨u0,u1,u2,u3,u4⟩:=hL.box.five
        obtain ⟨uA0,uA1,uA2,uA3,uA4⟩:=hL.box.fiveA
        obtain ⟨uf0,uf1,uf2,uf3,uf4⟩:=hL.box.frozen5A
        have L6:=Lk.put (k':=8) (t':=[]) (n':=0) (p':=P) (q:=1) (cur:=#[.int .i64 k',.string ⟨t'.toArray⟩,.int .i64 n',.int .i64 p',.slice a' ks'.len c']) hL hL.tn.kf rfl (by unfold maxLen;omega)
        have HL6 : Hid (Lk b m T s'.tl W X 8 [] 0 P (some ⟨w5.heap.size,0,none⟩) 1 (one k' t' n' p' ks') _):=L6
        clear C1 C2 C3 hT3 hT4 hT5 hL L6
        go_wp2_with fail
        refine (C4 _ HL6.out.tk.rs).mono ?_;rintro e' w6 ⟨rfl,hb6⟩
        have L7:=HL6.out.below hb6
        obtain ⟨b0,b1,b2,b3,b4⟩:=L7.box.five
        clear HL6 hb6
        go_wp2_with fail
        have D:=L7.drew
        go_region_law (first | (refine step_goE (by rfl) 47 _ _ (by rfl) _ (by simp [Act.eval,Act.put]) enters47 (CL _ D.tk.rs) ?_;rintro e' wb ⟨a2,c2,rfl,hKL,hTk⟩;refine ⟨_,rfl,?_⟩;obtain ⟨-,-,-,-,q4⟩:=(D.took hTk).box.five) | (refine step_lkL (by rfl) _ _ (by rfl) D hTk hKL (by omega) (by show 1 + _ ≤ _;omega) (by rfl) (by rfl) ?_;intro gg cc wc wF hwF L8 B8;obtain ⟨-,-,-,-,r4⟩:=B8.five;obtain ⟨-,-,-,-,g4⟩:=B8.frozen5))
        all_goals
          go_wp2_with fail
          refine (C5 _ L8.tk.rs).mono ?_;rintro e' w9 ⟨rfl,hT9⟩
          have L9:=(L8.took hT9).lr
          go_wp2_with fail
          go_roundg ((s3.needC T 18).l.length + 1)
          case measure=>omega
          case rel=>exact ⟨8,[],0,P,_,_,_,_,L9,HN,by omega⟩
end Go.Proofs.YtlgkfhipobdcfaaGreatDoor


namespace Go.Proofs.YtlgkfhipobdcfaaGreatDoor
open Go.RowKit
theorem cr_step {T : List Tok} (hE : Ends T) (hW2 : ∀ x ∈ T,x.k = 2 → x.t ≠ [61]) {j : RJ} {s : Sx} {f : F} {s' : Sx} (h : Stp T (CR T) j s f s') : CR T j s f s':=by
  refine ⟨pz_step hE (fun _ _ _ _ h=>h.pz) h,?_⟩
  cases j with
  | exp k =>
    intro b m W hr
    cases h with
    | expF hf=>exact rexp_f b m T s k hf W hr
    | exp7 hf h1=>exact rexp_7 b m T s f s' hf (fun W h=>h1.cl b m W h) W hr
    | expK hf hk hk2 h1 h2=>exact rexp_k b m T s k hk hk2 hf _ _ f s' h1 h2 W hr
  | opd=>exact fun b m W hr=>ropd_any b m T s f s' h W hr
  | suf=>exact fun b m W hr=>rsuf_any b m T hE s f s' h W hr
  | fld=>exact fun b m W hr=>rfld_any b m T hW2 s f s' h W hr
  | lst =>
    intro b m W hr
    cases h with
    | lst h1 h2=>exact rlist_any b m T s _ _ f s' h1 h2 W hr
  | nms =>
    intro b m W hr
    cases h with
    | nms h2=>exact rnames_any b m T s f s' hE h2 W hr
  | blk c=>exact fun b m W hr=>rblk_any b m T hE c s f s' h W hr
  | body=>exact fun b m W hr=>rbody_any b m T s f s' h W hr
  | stat p=>exact fun b m W hr=>rstat_any b m T hE p s f s' h W hr
  | loop p=>exact fun b m W hr=>rloop_any b m T hE p s f s' h W hr
  | plain p=>exact fun b m W hr=>rplain_any b m T hE p s f s' h W hr
theorem cr_blk {T : List Tok} (hE : Ends T) (hW2 : ∀ x ∈ T,x.k = 2 → x.t ≠ [61]) (n : Nat) (c : Bool) (l : List Tok) (hl : Ends l) : Oc T (CR T (.blk c) (at' l)) (pr n (.blk c) l):=kr_all (fun _ _ _ _ h=>cr_step hE hW2 h) n (.blk c) l hl
end Go.Proofs.YtlgkfhipobdcfaaGreatDoor


namespace Go.Proofs.YtlgkfhipobdcfaaGreatDoor
open Go.RowKit
theorem stp_w2 (l : List UInt8) (k : Int) (t : List UInt8) (v : Int) (n : Nat) (h : stp l = .tok k t v n) (hk : k = 2) : t ≠ [61]:=by
  unfold stp at h
  split at h
  · cases h
  split at h
  · cases h
  split at h
  · split at h
    · cases h
    · injection h with h1 h2 h3 h4
      by_cases hw : wordB (l.take (spn inNm l)) = true
      · intro e
        rw [← h2] at e
        rw [e] at hw
        exact absurd hw (by decide)
      · rw [if_neg hw] at h1;omega
  split at h
  · split at h
    · cases h
    · injection h with h1;omega
  split at h
  · split at h
    · injection h with h1;omega
    · cases h
  split at h
  · cases h
  · injection h with h1;omega
theorem scn_w2 : ∀ (m : Nat) (l : List UInt8) (p : Nat) (acc ts : List Tok),l.length ≤ m → (∀ x ∈ acc,x.k = 2 → x.t ≠ [61]) → scn l p acc = .ok ts → ∀ x ∈ ts,x.k = 2 → x.t ≠ [61]:=by
  intro m
  induction m with
  | zero =>
    intro l p acc ts hl ha h
    have : l = []:=List.length_eq_zero_iff.1 (by omega)
    subst this
    rw [scn] at h
    injection h with h
    subst h
    intro x hx
    rcases List.mem_append.1 hx with hx | hx
    · exact ha x hx
    · have:=List.mem_singleton.1 hx;subst this;intro e;exact absurd (show (6 : Int) = 2 from e) (by decide)
  | succ m ih =>
    intro l p acc ts hl ha h
    cases l with
    | nil =>
      rw [scn] at h
      injection h with h
      subst h
      intro x hx
      rcases List.mem_append.1 hx with hx | hx
      · exact ha x hx
      · have:=List.mem_singleton.1 hx;subst this;intro e;exact absurd (show (6 : Int) = 2 from e) (by decide)
    | cons c u =>
      have hu : ∀ n,(u.drop n).length ≤ m:=fun n=>by simp at hl ⊢;omega
      rw [scn] at h
      split at h
      · exact ih _ _ _ _ (hu _) ha h
      · next k t v n hs =>
        refine ih _ _ _ _ (hu _) (fun x hx=>?_) h
        rcases List.mem_append.1 hx with hx | hx
        · exact ha x hx
        · have:=List.mem_singleton.1 hx;subst this;exact fun e=>stp_w2 _ _ _ _ _ hs e
      · cases h
theorem scT_w2 (l : List UInt8) : ∀ x ∈ (scT l).1,x.k = 2 → x.t ≠ [61]:=by
  unfold scT
  split
  · intro x hx;cases hx
  · split
    · next ts h=>exact scn_w2 _ _ _ _ _ (Nat.le_refl _) (fun x hx=>by cases hx) h
    · intro x hx;cases hx
end Go.Proofs.YtlgkfhipobdcfaaGreatDoor
