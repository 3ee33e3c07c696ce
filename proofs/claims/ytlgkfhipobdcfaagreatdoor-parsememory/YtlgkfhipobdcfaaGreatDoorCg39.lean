import Derived.Test.YtlgkfhipobdcfaaGreatDoorCg38
namespace Go.Proofs.YtlgkfhipobdcfaaGreatDoor
open Go.RowKit
set_option maxRecDepth 20000
section
variable {ops : Array Oper} {rest : List Oper} {o : Oper} {ac : Act} {Q : Exit → Act → World → Prop} {b m : Nat} {T : List Tok} {s s' : Sx} {W : World} {X Y : Nat} {p : Int} {cy : Array Value} {a : Option Addr} {c : Nat} {f : F} {w w1 : World}
structure Ly (b m : Nat) (T : List Tok) (s : Sx) (W : World) (X Y : Nat) (p : Int) (cy : Array Value) (a : Option Addr) (c : Nat) (f : F) (w : World) : Prop where
  tk : Tt b m T s W w
  res : Bx W.heap.size 32 #[.int .i64 0,.string ⟨#[]⟩,.int .i64 0,.int .i64 0,.slice none 0 0] w
  bx : Bx X 32 #[.int .i64 22,.string ⟨#[]⟩,.int .i64 0,.int .i64 p,.slice a f.len c] w
  bY : Bx Y 32 cy w
  kl : KL 32 (fun g=>W.heap.size < g ∧ g ≠ X ∧ g ≠ Y) w (.slice a f.len c) f
  lt : b < W.heap.size ∧ m ≤ W.heap.size ∧ W.heap.size < Y ∧ Y < X
theorem Ly.took (h : Ly b m T s W X Y p cy a c f w) (hT : Tt b m T s' w w1) : Ly b m T s' W X Y p cy a c f w1:=by
  have hlt:=h.lt
  exact ⟨Tr.trans h.tk hT,h.res.ky hT.ky (by omega),h.bx.ky hT.ky (by omega),h.bY.ky hT.ky (by omega),h.kl.keep fun g hg hl=>hT.ky.block g hl (fun e=>by omega),hlt⟩
theorem Ly.below (h : Ly b m T s W X Y p cy a c f w) (hb : Below w.heap.size w w1) : Ly b m T s W X Y p cy a c f w1:=⟨Tr.below h.tk hb,h.res.below hb,h.bx.below hb,h.bY.below hb,h.kl.keep fun g _ hl=>hb.block g hl,h.lt⟩
theorem Ly.own_lt (h : Ly b m T s W X Y p cy a c f w) (g : Nat) (e : Value.ownBlock (.slice a f.len c) = some g) : g < w.heap.size:=by
  obtain ⟨xs,hown,_,_⟩:=h.kl.out
  exact (hown.lt g e).2
theorem Ly.lk (h : Ly b m T s W X Y p cy a c f w) : Lk b m T s W X 22 [] 0 p a c f w:=by
  have hlt:=h.lt
  exact ⟨h.tk,h.res,h.bx,h.kl.wide fun g hg _=>⟨hg.1,hg.2.1⟩,by omega⟩
abbrev Ap (W : World) (X Y : Nat) (a : Option Addr) (c : Nat) (f : F) (g : Nat) : Prop:=(W.heap.size < g ∧ g ≠ X ∧ g ≠ Y) ∧ some g ≠ Value.ownBlock (.slice a f.len c)
theorem Ly.put {k : Int} {t : List UInt8} {n q : Int} {v : Value} {ks : F} {x0 x1 x2 x3 x4 : Value} (h : Ly b m T s W X Y p #[x0,x1,x2,x3,x4] a c f w) (hT : Tt b m T s' w w1) (hN : TN 32 w1 (fun g=>w.heap.size ≤ g) k t n q v ks) :
    ∃ wF,((((w1.setCell ⟨Y,0,none⟩ (.int .i64 k)).setCell ⟨Y,1,none⟩ (.string ⟨t.toArray⟩)).setCell ⟨Y,2,none⟩ (.int .i64 n)).setCell ⟨Y,3,none⟩ (.int .i64 q)).setCell ⟨Y,4,none⟩ v = wF ∧ Ly b m T s' W X Y p #[.int .i64 k,.string ⟨t.toArray⟩,.int .i64 n,.int .i64 q,v] a c f wF ∧ TN 32 wF (Ap W X Y a c f) k t n q v ks:=by
  have hlt:=h.lt
  have hX:=h.bx.lt
  have h1:=h.took hT
  have hB : ∀ (z : World) (o : Nat) (u : Value),KL 32 (fun g=>W.heap.size < g ∧ g ≠ X ∧ g ≠ Y) z (.slice a f.len c) f → KL 32 (fun g=>W.heap.size < g ∧ g ≠ X ∧ g ≠ Y) (z.setCell ⟨Y,o,none⟩ u) (.slice a f.len c) f:=fun z o u h=>h.keep fun g hg _=>Below.heap_setCell z _ _ g hg.2.2
  refine ⟨_,rfl,⟨Tr.five h1.tk (by omega) hlt.2.1 _ _ _ _ _,h1.res.five_set (by omega) _ _ _ _ _,h1.bx.five_set (by omega) _ _ _ _ _,h1.bY.five_put _ _ _ _ _,hB _ _ _ (hB _ _ _ (hB _ _ _ (hB _ _ _ (hB _ _ _ h1.kl)))),hlt⟩,?_⟩
  exact (hN.five (X:=Y) (by omega) _ _ _ _ _).mono fun g hg _=>⟨⟨by omega,by omega,by omega⟩,fun e=>by have:=h.own_lt g e.symm;omega⟩
theorem app_ly {k : Int} {t : List UInt8} {n q : Int} {v : Value} {ks : F} (hgd : o.guard = none) (sv x : Operand) (ho : o.op = .call { callee:=.builtin .append,args:=#[sv,x],argTypes:=#[30,30] })
    (h : Ly b m T s W X Y p cy a c f w) (hN : TN 32 w (Ap W X Y a c f) k t n q v ks) (hB : f.len ≤ 90000) (hs : ac.eval sv = .slice a f.len c) (hx : ac.eval x = .slice (some ⟨w.heap.size,0,none⟩) 1 1)
    (hK : ∀ g cc w2 wF,w2.setCell ⟨X,4,none⟩ (.slice (some ⟨g,0,none⟩) (f.app (one k t n q ks)).len cc) = wF → Ly b m T s W X Y p cy (some ⟨g,0,none⟩) cc (f.app (one k t n q ks)) wF → Bx X 32 #[.int .i64 22,.string ⟨#[]⟩,.int .i64 0,.int .i64 p,.slice a f.len c] w2 → wpList Tryz.prog ops Q rest (ac.put o.dst (.slice (some ⟨g,0,none⟩) (f.app (one k t n q ks)).len cc)) w2) :
    wpList Tryz.prog ops Q (o :: rest) ac (w.alloc (.cells #[.int .i64 k,.string ⟨t.toArray⟩,.int .i64 n,.int .i64 q,v] 32)):=by
  have h1:=h.below ((Below.refl _ w).alloc (Nat.le_refl _) (.cells #[.int .i64 k,.string ⟨t.toArray⟩,.int .i64 n,.int .i64 q,v] 32))
  have hlt:=h.lt
  have hX:=h1.bx.lt
  have hY:=h1.bY.lt
  refine app_kl (n:=one k t n q ks) (ad:=⟨w.heap.size,0,none⟩) (news:=[.int .i64 k,.string ⟨t.toArray⟩,.int .i64 n,.int .i64 q,v]) hgd sv x ho h1.kl (fun y hy=>by show W.heap.size < y ∧ y ≠ X ∧ y ≠ Y;omega) (by show f.len + 1 ≤ _;omega) (by show 0 < 1;omega) ?_ hs hx (World.news_of_block (cs:=#[.int .i64 k,.string ⟨t.toArray⟩,.int .i64 n,.int .i64 q,v]) (t:=32) (fr:=(0,0)) (Go.heap_alloc_new w _)) ?_
  · exact (hN.alloc _).kf
  · intro g cc w2 hkl hky _
    obtain ⟨xs,hown,hoP,_⟩:=h1.kl.out
    have hS : ∀ x,some x = Value.ownBlock (.slice a f.len c) → W.heap.size < x ∧ x ≠ X ∧ x ≠ Y:=fun x e=>hoP x e.symm
    have hBX:=h1.bx.ky hky (fun e=>(hS X e).2.1 rfl)
    refine hK g cc w2 _ rfl ⟨Tr.new (Tr.onto h1.tk hky (fun x hx=>by have:=hS x hx;omega) hlt.2.1) (by omega) hlt.2.1 _,(h1.res.ky hky (fun e=>by have:=hS _ e;omega)).set (by omega) _,hBX.put4 _,(h1.bY.ky hky (fun e=>(hS Y e).2.2 rfl)).set (by omega) _,hkl.keep fun g hg _=>Below.heap_setCell _ _ _ g hg.2.1,hlt⟩ hBX
end
set_option maxHeartbeats 16000000 in
theorem rplain_any (b m : Nat) (T : List Tok) (hE : Ends T) (p : Int) (s : Sx) (g : F) (s2 : Sx) (hS : Stp T (CR T) (.plain p) s g s2) (W : World) (h : RT b m T s W) : Calls Tryz.prog 75 #[.pointer (some ⟨b,0,none⟩),.int .i64 p] W (RN b m T W s2 g):=by
  have hlt:=RT.lt h
  have hbW : W.heap.size ≠ b:=by omega
  obtain ⟨hes,hsm⟩:=RT.sm h
  have B0:=Bx.new W 32 #[.int .i64 0,.string ⟨#[]⟩,.int .i64 0,.int .i64 0,.slice none 0 0]
  have T0:=Tr.alloc (RS.tr h) (.cells #[.int .i64 0,.string ⟨#[]⟩,.int .i64 0,.int .i64 0,.slice none 0 0] 32)
  obtain ⟨A,hA⟩ : ∃ A,W.alloc (.cells #[.int .i64 0,.string ⟨#[]⟩,.int .i64 0,.int .i64 0,.slice none 0 0] 32) = A:=⟨_,rfl⟩
  have hAs : (W.alloc (.cells #[.int .i64 0,.string ⟨#[]⟩,.int .i64 0,.int .i64 0,.slice none 0 0] 32)).heap.size = W.heap.size + 1:=by simp
  rw [hA] at B0 T0 hAs
  obtain ⟨ee,s1,h1⟩ : ∃ ee s1,CR T .suf s ee s1 ∧ Hid ((s1.c ≠ 14 ∧ s1.c ≠ 15 ∧ (ee.kind = 8 ∧ g = one 23 [] 0 p ee ∧ s2 = s1 ∨ ee.kind ≠ 8 ∧ g = one 23 [] 0 p ee ∧ s2 = s1.bad T s1.t.p)) ∨ ((s1.c = 14 ∨ s1.c = 15) ∧ ∃ ts s3 gl,AsgL T (CR T) .nil ee s1 ts s3 ∧ CR T .lst (s3.needC T 14) gl s2 ∧ g = one 22 [] ts.len p (ts.app gl))):=by
    cases hS with
    | prn h1 h hk=>exact ⟨_,_,h1,.inl ⟨h.1,h.2,.inl ⟨hk,rfl,rfl⟩⟩⟩
    | prb h1 h hk=>exact ⟨_,_,h1,.inl ⟨h.1,h.2,.inr ⟨hk,rfl,rfl⟩⟩⟩
    | pas h1 h h2 h3=>exact ⟨_,_,h1,.inr ⟨h,_,_,_,h2,h3,rfl⟩⟩
  obtain ⟨h1,HC⟩:=h1
  have l1:=h1.pz.len hes
  have CS : Calls Tryz.prog 111 #[.pointer (some ⟨b,0,none⟩)] A (RN b m T A s1 ee):=h1.cl b m A T0.rs
  clear h1 hS
  go_enter Tryz.func75,Tryz.ntmps75
  go_wp2_with fail
  refine CS.mono ?_;rintro e w1 ⟨k1,t1,n1,p1,a1,c1,ks1,rfl,rfl,hTN,hT⟩
  have hX1:=hT.ky.size
  have hL : Lr b m T s1 W w1.heap.size k1 t1 n1 p1 (.slice a1 ks1.len c1) ks1 (w1.alloc (.cells #[.int .i64 k1,.string ⟨t1.toArray⟩,.int .i64 n1,.int .i64 p1,.slice a1 ks1.len c1] 32)) :=
    ⟨Tr.alloc (Tr.trans T0 hT) _,(B0.ky hT.ky hbW).alloc _,Bx.new _ _ _,(hTN.mono fun g hg hl=>⟨by rw [hAs] at hg;omega,by omega⟩).alloc _,by omega⟩
  obtain ⟨Y,hY⟩ : ∃ Y,w1.heap.size = Y:=⟨_,rfl⟩
  obtain ⟨wS,hwS⟩ : ∃ wS,w1.alloc (.cells #[.int .i64 k1,.string ⟨t1.toArray⟩,.int .i64 n1,.int .i64 p1,.slice a1 ks1.len c1] 32) = wS:=⟨_,rfl⟩
  rw [hY,hwS] at hL
  have HwS : Hid (w1.alloc (.cells #[.int .i64 k1,.string ⟨t1.toArray⟩,.int .i64 n1,.int .i64 p1,.slice a1 ks1.len c1] 32) = wS):=hwS
  have C14:=fun W h=>see_n b m T s1 14 (by decide) (by decide) W h
  rw [show wds 14 = [61] from rfl] at C14
  have C15:=fun W h=>see_n b m T s1 15 (by decide) (by decide) W h
  rw [show wds 15 = [44] from rfl] at C15
  clear hwS hTN hT CS B0 T0 hX1 hA
  go_upto_region 2 with fail
  rw [HwS.out]
  clear HwS
  go_cut [16] from 9 to 15 (fun v16 wx=>v16 = .bool (decide (s1.c ≠ 14 ∧ s1.c ≠ 15)) ∧ Lr b m T s1 W Y k1 t1 n1 p1 (.slice a1 ks1.len c1) ks1 wx)
  case first =>
    by_cases h14 : s1.c = 14
    · rw [decide_eq_true h14] at C14
      go_wp2_with fail
      refine (C14 _ hL.tk.rs).mono ?_;rintro e w2 ⟨rfl,hb2⟩
      have hL:=hL.below hb2
      go_wp2_with fail
      go_meet
      exact ⟨by simp [h14],hL⟩
    · rw [decide_eq_false h14] at C14
      by_cases h15 : s1.c = 15
      · rw [decide_eq_true h15] at C15
        go_wp2_with fail
        refine (C14 _ hL.tk.rs).mono ?_;rintro e w2 ⟨rfl,hb2⟩
        have hL:=hL.below hb2
        go_wp2_with fail
        refine (C15 _ hL.tk.rs).mono ?_;rintro e w3 ⟨rfl,hb3⟩
        have hL:=hL.below hb3
        go_wp2_with fail
        go_meet
        exact ⟨by simp [h15],hL⟩
      · rw [decide_eq_false h15] at C15
        go_wp2_with fail
        refine (C14 _ hL.tk.rs).mono ?_;rintro e w2 ⟨rfl,hb2⟩
        have hL:=hL.below hb2
        go_wp2_with fail
        refine (C15 _ hL.tk.rs).mono ?_;rintro e w3 ⟨rfl,hb3⟩
        have hL:=hL.below hb3
        go_wp2_with fail
        go_meet
        exact ⟨by simp [h14,h15],hL⟩
  case rest =>
  clear hL C14 C15
  obtain ⟨rfl,hL⟩:=hcut
  have hC:=HC.out
  clear HC
  rcases hC with ⟨n14,n15,hk⟩ | ⟨hc,ts,s3,gl,hA1,h3,rfl⟩
  · rw [decide_eq_true ⟨n14,n15⟩]
    obtain ⟨x0,x1,x2,x3,x4⟩:=hL.box.five
    rcases hk with ⟨hk,rfl,rfl⟩ | ⟨hk,rfl,rfl⟩
    · have hk : k1 = 8:=hk
      subst hk
      have hYl:=hL.box.lt
      have hll:=hL.lt
      have M6:=TN.made (E:=32) (Q:=fun g=>W.heap.size < g) (cur:=#[.int .i64 8,.string ⟨t1.toArray⟩,.int .i64 n1,.int .i64 p1,.slice a1 ks1.len c1]) (c:=1) (hL.tn.kf.mono fun g hg _=>hg.1) (by omega) rfl (by unfold maxLen;omega) 23 [] 0 p
      have TA:=Tr.alloc hL.tk (.cells #[.int .i64 8,.string ⟨t1.toArray⟩,.int .i64 n1,.int .i64 p1,.slice a1 ks1.len c1] 32)
      have BA:=hL.res.alloc (.cells #[.int .i64 8,.string ⟨t1.toArray⟩,.int .i64 n1,.int .i64 p1,.slice a1 ks1.len c1] 32)
      obtain ⟨q0,q1,q2,q3,q4⟩:=hL.res.fiveA
      obtain ⟨m0,m1,m2,m3,m4⟩:=hL.res.frozen5A
      have HL : Hid (Tt b m T _ W _):=TA
      have HM : Hid (TN 32 _ (fun g=>W.heap.size < g) 23 [] 0 p _ _):=M6
      have HB : Hid (Bx W.heap.size 32 #[.int .i64 0,.string ⟨#[]⟩,.int .i64 0,.int .i64 0,.slice none 0 0] _):=BA
      clear hYl TA M6 BA hL
      go_wp2_with fail
      obtain ⟨y0,y1,y2,y3,y4⟩:=(HB.out.five_put (.int .i64 23) (.string ⟨#[]⟩) (.int .i64 0) (.int .i64 p) (.slice (some ⟨wc.heap.size,0,none⟩) 1 1)).five
      refine bodyPost_ret (v:=.agg #[.int .i64 23,.string ⟨#[]⟩,.int .i64 0,.int .i64 p,.slice (some ⟨wc.heap.size,0,none⟩) 1 1]) (by simp [results,Tryz.results75,go_sem,y0,y1,y2,y3,y4]) rfl ?_
      exact ⟨23,[],0,p,_,1,_,rfl,rfl,(HM.out.five (X:=W.heap.size) (by omega) _ _ _ _ _).mono fun g hg _=>by omega,Tr.five HL.out (Nat.le_refl _) hlt.2 _ _ _ _ _⟩
    · have hk : ¬ k1 = 8:=hk
      have hk' : (k1 == 8) = false:=by simpa using hk
      have CA:=fun W h=>at_s b m T s1 W h
      have CB:=fun W h=>bad_s b m T s1 (s1.t.p : Int) W h
      obtain ⟨P,hP⟩ : ∃ P : Int,(s1.t.p : Int) = P:=⟨_,rfl⟩
      rw [hP] at CA CB
      go_wp2_with fail
      refine (CA _ hL.tk.rs).mono ?_;rintro e w4 ⟨rfl,hb4⟩
      have hL:=hL.below hb4
      go_wp2_with fail
      refine (CB _ hL.tk.rs).mono ?_;rintro e w5 ⟨rfl,hT5⟩
      have hL:=hL.took hT5
      clear CA CB hb4 hT5 x0 x1 x2 x3 x4
      obtain ⟨x0,x1,x2,x3,x4⟩:=hL.box.five
      have hYl:=hL.box.lt
      have hll:=hL.lt
      have M6:=TN.made (E:=32) (Q:=fun g=>W.heap.size < g) (cur:=#[.int .i64 k1,.string ⟨t1.toArray⟩,.int .i64 n1,.int .i64 p1,.slice a1 ks1.len c1]) (c:=1) (hL.tn.kf.mono fun g hg _=>hg.1) (by omega) rfl (by unfold maxLen;omega) 23 [] 0 p
      have TA:=Tr.alloc hL.tk (.cells #[.int .i64 k1,.string ⟨t1.toArray⟩,.int .i64 n1,.int .i64 p1,.slice a1 ks1.len c1] 32)
      have BA:=hL.res.alloc (.cells #[.int .i64 k1,.string ⟨t1.toArray⟩,.int .i64 n1,.int .i64 p1,.slice a1 ks1.len c1] 32)
      obtain ⟨q0,q1,q2,q3,q4⟩:=hL.res.fiveA
      obtain ⟨m0,m1,m2,m3,m4⟩:=hL.res.frozen5A
      have HL : Hid (Tt b m T _ W _):=TA
      have HM : Hid (TN 32 _ (fun g=>W.heap.size < g) 23 [] 0 p _ _):=M6
      have HB : Hid (Bx W.heap.size 32 #[.int .i64 0,.string ⟨#[]⟩,.int .i64 0,.int .i64 0,.slice none 0 0] _):=BA
      clear hYl TA M6 BA hL
      go_wp2_with fail
      obtain ⟨y0,y1,y2,y3,y4⟩:=(HB.out.five_put (.int .i64 23) (.string ⟨#[]⟩) (.int .i64 0) (.int .i64 p) (.slice (some ⟨w5.heap.size,0,none⟩) 1 1)).five
      refine bodyPost_ret (v:=.agg #[.int .i64 23,.string ⟨#[]⟩,.int .i64 0,.int .i64 p,.slice (some ⟨w5.heap.size,0,none⟩) 1 1]) (by simp [results,Tryz.results75,go_sem,y0,y1,y2,y3,y4]) rfl ?_
      rw [hP]
      exact ⟨23,[],0,p,_,1,_,rfl,rfl,(HM.out.five (X:=W.heap.size) (by omega) _ _ _ _ _).mono fun g hg _=>by omega,Tr.five HL.out (Nat.le_refl _) hlt.2 _ _ _ _ _⟩
  · rw [decide_eq_false (fun e=>hc.elim e.1 e.2)]
    obtain ⟨he1,hs1⟩:=RT.sm hL.tk.rs
    obtain ⟨ea,la,la2⟩:=asg_e hE (fun _ _ _ _ h=>h.pz) hA1 he1 rfl
    have la2 : ts.len + s3.l.length ≤ 0 + s1.l.length + 1:=la2
    obtain ⟨eb,lb⟩:=need_e2 hE ea 14 (by decide)
    obtain ⟨r1,r2⟩:=h3.pz.row eb
    have CL : ∀ W,RT b m T (s3.needC T 14) W → Calls Tryz.prog 47 #[.pointer (some ⟨b,0,none⟩)] W (RL b m T W s2 gl):=fun W h=>h3.cl b m W h
    have HGL : Hid (0 < gl.len ∧ ts.len + gl.len ≤ 100000):=⟨by omega,by omega⟩
    have HA1 : Hid (AsgL T (CR T) .nil (one k1 t1 n1 p1 ks1) s1 ts s3):=hA1
    clear h3 hA1 r1 r2 lb la la2
    have hYl:=hL.box.lt
    have hll:=hL.lt
    have LZ : Ly b m T s1 W wc.heap.size Y p #[.int .i64 k1,.string ⟨t1.toArray⟩,.int .i64 n1,.int .i64 p1,.slice a1 ks1.len c1] none 0 F.nil (wc.alloc (.cells #[.int .i64 22,.string ⟨#[]⟩,.int .i64 0,.int .i64 p,.slice none 0 0] 32)) :=
      ⟨Tr.alloc hL.tk _,hL.res.alloc _,Bx.new _ _ _,hL.box.alloc _,KL.nil _ _ _,by omega⟩
    have NZ : TN 32 (wc.alloc (.cells #[.int .i64 22,.string ⟨#[]⟩,.int .i64 0,.int .i64 p,.slice none 0 0] 32)) (Ap W wc.heap.size Y none 0 F.nil) k1 t1 n1 p1 (.slice a1 ks1.len c1) ks1 :=
      (hL.tn.mono (Q:=Ap W wc.heap.size Y none 0 F.nil) fun g hg hl=>⟨⟨hg.1,by omega,hg.2⟩,by simp [Value.ownBlock]⟩).alloc _
    obtain ⟨X,hX⟩ : ∃ X,wc.heap.size = X:=⟨_,rfl⟩
    obtain ⟨V,hV⟩ : ∃ V,wc.alloc (.cells #[.int .i64 22,.string ⟨#[]⟩,.int .i64 0,.int .i64 p,.slice none 0 0] 32) = V:=⟨_,rfl⟩
    rw [hX,hV] at LZ NZ
    have HV : Hid (wc.alloc (.cells #[.int .i64 22,.string ⟨#[]⟩,.int .i64 0,.int .i64 p,.slice none 0 0] 32) = V):=hV
    clear hV hL hYl
    go_wp2_with fail
    rw [HV.out]
    clear HV
    go_loopg [] 20010 (fun gf wx=>∃ (k : Int) (t : List UInt8) (n q : Int) (ae : Option Addr) (ce : Nat) (ks : F) (a' : Option Addr) (c' : Nat) (f' : F) (s' : Sx),Ly b m T s' W X Y p #[.int .i64 k,.string ⟨t.toArray⟩,.int .i64 n,.int .i64 q,.slice ae ks.len ce] a' c' f' wx ∧ TN 32 wx (Ap W X Y a' c' f') k t n q (.slice ae ks.len ce) ks ∧ Hid (AsgL T (CR T) f' (one k t n q ks) s' ts s3) ∧ f'.len + s'.l.length ≤ 20010 ∧ s'.l.length < gf)
    case atStart=>exact ⟨k1,t1,n1,p1,a1,c1,ks1,none,0,.nil,s1,LZ,NZ,HA1,by show 0 + _ ≤ _;omega,by omega⟩
    case round =>
      clear LZ NZ HA1
      obtain ⟨k,t,n,q,ae,ce,ks,a',c',f',s',LZ,NZ,HN,hfw,hfu⟩:=hrel
      obtain ⟨he',hs'⟩:=RT.sm LZ.tk.rs
      have hn:=HN.out
      clear HN
      have f2:=LZ.tk.rs.fl
      by_cases hf0 : s'.f < 0
      · have hn2 : ((s'.tg T (one k t n q ks)).c ≠ 15 ∧ ts = f'.app (one k t n q ks) ∧ s3 = s'.tg T (one k t n q ks)) ∨ ((s'.tg T (one k t n q ks)).c = 15 ∧ ∃ e2 s4,CR T .suf (s'.tg T (one k t n q ks)).tl e2 s4 ∧ AsgL T (CR T) (f'.app (one k t n q ks)) e2 s4 ts s3):=by
          cases hn with
          | stop h=>omega
          | last h h2=>exact .inl ⟨h2,rfl,rfl⟩
          | more h h2 h1 h3=>exact .inr ⟨h2,_,_,h1,h3⟩
        have HN2 : Hid _:=hn2
        obtain ⟨eg,lg⟩:=tg_e hE he' (one k t n q ks)
        clear hn hn2
        obtain ⟨v0,v1,v2,v3,v4⟩:=LZ.bY.five
        go_upto_region 8 with fail
        go_cut [42] from 30 to 57 (fun v42 wx=>v42 = .bool (decide (k ≠ 6 ∧ k ≠ 7)) ∧ Ly b m T s' W X Y p #[.int .i64 k,.string ⟨t.toArray⟩,.int .i64 n,.int .i64 q,.slice ae ks.len ce] a' c' f' wx ∧ TN 32 wx (Ap W X Y a' c' f') k t n q (.slice ae ks.len ce) ks)
        case first =>
          by_cases h6 : k = 6
          · have h6' : (k == 6) = true:=by simpa using h6
            go_wp2_with fail
            go_meet
            exact ⟨by simp [h6],LZ,NZ⟩
          · have h6' : (k == 6) = false:=by simpa using h6
            by_cases h7 : k = 7
            · have h7' : (k == 7) = true:=by simpa using h7
              go_wp2_with fail
              go_meet
              exact ⟨by simp [h7],LZ,NZ⟩
            · have h7' : (k == 7) = false:=by simpa using h7
              go_wp2_with fail
              go_meet
              exact ⟨by simp [h6,h7],LZ,NZ⟩
        case rest =>
        clear LZ NZ v0 v1 v2 v3 v4 f2
        obtain ⟨rfl,LZ,NZ⟩:=hcut
        obtain ⟨v0,v1,v2,v3,v4⟩:=LZ.bY.five
        go_upto_if 42 with fail
        go_cut [] from 30 to 57 (fun wx=>Ly b m T (s'.tg T (one k t n q ks)) W X Y p #[.int .i64 k,.string ⟨t.toArray⟩,.int .i64 n,.int .i64 q,.slice ae ks.len ce] a' c' f' wx ∧ TN 32 wx (Ap W X Y a' c' f') k t n q (.slice ae ks.len ce) ks)
        case first =>
          by_cases h67 : k ≠ 6 ∧ k ≠ 7
          · rw [decide_eq_true h67]
            have e1 : s'.tg T (one k t n q ks) = s'.bad T q:=if_neg (fun e=>e.elim h67.1 h67.2)
            have CB:=bad_s b m T s' q _ LZ.tk.rs
            clear h67
            go_wp2_with fail
            refine CB.mono ?_;rintro e' w5 ⟨rfl,hT5⟩
            have L5:=LZ.took hT5
            have N5:=NZ.ky hT5.ky (fun e=>by omega)
            go_wp2_with fail
            go_meet
            rw [e1];exact ⟨L5,N5⟩
          · rw [decide_eq_false h67]
            have e1 : s'.tg T (one k t n q ks) = s':=if_pos (by omega : k = 6 ∨ k = 7)
            clear h67
            go_wp2_with fail
            go_meet
            rw [e1];exact ⟨LZ,NZ⟩
        case rest =>
          clear LZ NZ v0 v1 v2 v3 v4
          obtain ⟨LZ,NZ⟩:=hcut
          obtain ⟨S,hS⟩ : ∃ S,s'.tg T (one k t n q ks) = S:=⟨_,rfl⟩
          rw [hS] at LZ HN2 eg lg
          clear hS
          obtain ⟨v0,v1,v2,v3,v4⟩:=LZ.bY.five
          obtain ⟨-,-,-,-,b4⟩:=LZ.bx.five
          have HB : Hid (f'.len ≤ 90000):=(by omega : f'.len ≤ 90000)
          go_wp2_with (at_builtin;refine app_ly rfl _ _ rfl LZ NZ HB.out rfl rfl ?_;intro g6 cc6 v6 wF6 hF6 LZ B6;obtain ⟨-,-,-,-,r4⟩:=B6.five;obtain ⟨-,-,-,-,g4⟩:=B6.frozen5)
          have hlen : (f'.app (one k t n q ks)).len = f'.len + 1:=by rw [F.len_app];rfl
          have HLen : Hid ((f'.app (one k t n q ks)).len = f'.len + 1):=hlen
          clear hlen
          have hn2:=HN2.out
          clear HN2
          rcases hn2 with ⟨h15,rfl,rfl⟩ | ⟨h15,e2,s4,h1,h3⟩
          · have C15:=take_n b m T s3 15 (by decide) (by decide) h15 _ LZ.tk.rs
            rw [show wds 15 = [44] from rfl] at C15
            refine C15.mono ?_;rintro e' w7 ⟨rfl,hT7⟩
            have LZ:=LZ.took hT7
            clear C15 hT7
            have LX:=(LZ.lk).num ((f'.app (one k t n q ks)).len : Int)
            obtain ⟨-,-,j2,-,j4⟩:=LZ.bx.five
            obtain ⟨-,-,o2,-,-⟩:=LZ.bx.frozen5
            have CQ:=fun W h=>need_n b m T s3 14 (by decide) (by decide) W h
            rw [show wds 14 = [61] from rfl] at CQ
            have HLX : Hid (Lk b m T s3 W X 22 [] ((f'.app (one k t n q ks)).len : Int) p _ _ (f'.app (one k t n q ks)) _):=LX
            clear LX
            go_wp2_with fail
            refine (CQ _ HLX.out.tk.rs).mono ?_;rintro e' w20 ⟨rfl,hT20⟩
            have L20:=HLX.out.took hT20
            clear HLX hT20 CQ j2 j4 o2
            obtain ⟨b0,b1,b2,b3,b4⟩:=L20.box.five
            go_wp2_with fail
            have D:=L20.drew
            have CV:=CL _ D.tk.rs
            go_region_law (first | (refine step_goE (by rfl) 47 _ _ (by rfl) _ (by simp [Act.eval,Act.put]) enters47 CV ?_;rintro e' wb ⟨a2,c2,rfl,hKL,hTk⟩;refine ⟨_,rfl,?_⟩;obtain ⟨-,-,-,-,q4⟩:=(D.took hTk).box.five) | (refine step_lkL (by rfl) _ _ (by rfl) D hTk hKL HGL.out.1 HGL.out.2 (by rfl) (by rfl) ?_;intro gg cc wc wF hwF L8 B8;obtain ⟨-,-,-,-,r4⟩:=B8.five;obtain ⟨-,-,-,-,g4⟩:=B8.frozen5))
            all_goals
              obtain ⟨x0,x1,x2,x3,x4⟩:=L8.box.five
              obtain ⟨q0,q1,q2,q3,q4⟩:=L8.res.five
              obtain ⟨m0,m1,m2,m3,m4⟩:=L8.res.frozen5
              go_wp2_with fail
              obtain ⟨y0,y1,y2,y3,y4⟩:=(L8.res.five_put (.int .i64 22) (.string ⟨#[]⟩) (.int .i64 ((f'.app (one k t n q ks)).len : Int)) (.int .i64 p) (.slice (some ⟨gg,0,none⟩) ((f'.app (one k t n q ks)).app gl).len cc)).five
              refine bodyPost_ret (v:=.agg #[.int .i64 22,.string ⟨#[]⟩,.int .i64 ((f'.app (one k t n q ks)).len : Int),.int .i64 p,.slice (some ⟨gg,0,none⟩) ((f'.app (one k t n q ks)).app gl).len cc]) (by simp [results,Tryz.results75,go_sem,y0,y1,y2,y3,y4]) rfl ?_
              exact L8.lr.tell'
          · have C15:=take_y b m T S 15 (by decide) (by decide) h15 _ LZ.tk.rs
            rw [show wds 15 = [44] from rfl] at C15
            have CS : ∀ W,RT b m T S.tl W → Calls Tryz.prog 111 #[.pointer (some ⟨b,0,none⟩)] W (RN b m T W s4 e2):=fun W h=>h1.cl b m W h
            obtain ⟨e5,l5⟩:=Sx.tl_e eg (by rw [h15];decide)
            have l6:=h1.pz.len e5
            have HN : Hid (AsgL T (CR T) (f'.app (one k t n q ks)) e2 s4 ts s3):=h3
            clear h1 h3
            refine C15.mono ?_;rintro e' w7 ⟨rfl,hT7⟩
            have LZ:=LZ.took hT7
            clear C15 hT7
            go_wp2_with fail
            refine (CS _ LZ.tk.rs).mono ?_;rintro e' w8 ⟨k8,t8,n8,p8,a8,c8,ks8,rfl,rfl,hN8,hT8⟩
            obtain ⟨wG,hG,LG,NG⟩:=LZ.put hT8 hN8
            obtain ⟨z0,z1,z2,z3,z4⟩:=(LZ.took hT8).bY.frozen5
            obtain ⟨u0,u1,u2,u3,u4⟩:=(LZ.took hT8).bY.five
            go_wp2_with fail
            go_roundg (s4.l.length + 1)
            case measure=>omega
            case rel=>exact ⟨k8,t8,n8,p8,a8,c8,ks8,_,_,_,s4,LG,NG,HN,by have:=HLen.out;omega,by omega⟩
      · have hn2 : ts = f' ∧ s3 = s':=by
          cases hn with
          | stop h=>exact ⟨rfl,rfl⟩
          | last h h2=>exact absurd h hf0
          | more h h2 h1 h3=>exact absurd h hf0
        obtain ⟨rfl,rfl⟩:=hn2
        clear hn
        have LX:=(LZ.lk).num (ts.len : Int)
        obtain ⟨-,-,j2,-,j4⟩:=LZ.bx.five
        obtain ⟨-,-,o2,-,-⟩:=LZ.bx.frozen5
        have CQ:=fun W h=>need_n b m T s3 14 (by decide) (by decide) W h
        rw [show wds 14 = [61] from rfl] at CQ
        have HLX : Hid (Lk b m T s3 W X 22 [] (ts.len : Int) p _ _ ts _):=LX
        clear LX
        go_wp2_with fail
        refine (CQ _ HLX.out.tk.rs).mono ?_;rintro e' w20 ⟨rfl,hT20⟩
        have L20:=HLX.out.took hT20
        clear HLX hT20 CQ j2 j4 o2
        obtain ⟨b0,b1,b2,b3,b4⟩:=L20.box.five
        go_wp2_with fail
        have D:=L20.drew
        have CV:=CL _ D.tk.rs
        go_region_law (first | (refine step_goE (by rfl) 47 _ _ (by rfl) _ (by simp [Act.eval,Act.put]) enters47 CV ?_;rintro e' wb ⟨a2,c2,rfl,hKL,hTk⟩;refine ⟨_,rfl,?_⟩;obtain ⟨-,-,-,-,q4⟩:=(D.took hTk).box.five) | (refine step_lkL (by rfl) _ _ (by rfl) D hTk hKL HGL.out.1 HGL.out.2 (by rfl) (by rfl) ?_;intro gg cc wc wF hwF L8 B8;obtain ⟨-,-,-,-,r4⟩:=B8.five;obtain ⟨-,-,-,-,g4⟩:=B8.frozen5))
        all_goals
          obtain ⟨x0,x1,x2,x3,x4⟩:=L8.box.five
          obtain ⟨q0,q1,q2,q3,q4⟩:=L8.res.five
          obtain ⟨m0,m1,m2,m3,m4⟩:=L8.res.frozen5
          go_wp2_with fail
          obtain ⟨y0,y1,y2,y3,y4⟩:=(L8.res.five_put (.int .i64 22) (.string ⟨#[]⟩) (.int .i64 (ts.len : Int)) (.int .i64 p) (.slice (some ⟨gg,0,none⟩) (ts.app gl).len cc)).five
          refine bodyPost_ret (v:=.agg #[.int .i64 22,.string ⟨#[]⟩,.int .i64 (ts.len : Int),.int .i64 p,.slice (some ⟨gg,0,none⟩) (ts.app gl).len cc]) (by simp [results,Tryz.results75,go_sem,y0,y1,y2,y3,y4]) rfl ?_
          exact L8.lr.tell'
end Go.Proofs.YtlgkfhipobdcfaaGreatDoor
