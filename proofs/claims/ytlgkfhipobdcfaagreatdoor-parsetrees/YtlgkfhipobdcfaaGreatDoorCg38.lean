import Derived.Test.YtlgkfhipobdcfaaGreatDoorCg37
namespace Go.Proofs.YtlgkfhipobdcfaaGreatDoor
open Go.RowKit
set_option maxRecDepth 20000
section
variable {ops : Array Oper} {rest : List Oper} {o : Oper} {ac : Act} {Q : Exit → Act → World → Prop} {b m : Nat} {T : List Tok} {s s' : Sx} {W : World} {X : Nat} {cur : Array Value} {a a' : Option Addr} {c c' : Nat} {f : F} {w w1 : World}
structure Lq (b m : Nat) (T : List Tok) (s : Sx) (W : World) (X : Nat) (cur : Array Value) (a : Option Addr) (c : Nat) (f : F) (w : World) : Prop where
  lv : Lv b m T s W X cur w
  kl : KL 32 (fun g=>W.heap.size < g ∧ g ≠ X) w (.slice a f.len c) f
theorem Lq.took (h : Lq b m T s W X cur a c f w) (hT : Tt b m T s' w w1) : Lq b m T s' W X cur a c f w1:=by
  have hlt:=h.lv.lt
  exact ⟨h.lv.took hT,h.kl.keep fun g hg hl=>hT.ky.block g hl (fun e=>by omega)⟩
theorem Lq.below (h : Lq b m T s W X cur a c f w) (hb : Below w.heap.size w w1) : Lq b m T s W X cur a c f w1:=⟨h.lv.below hb,h.kl.keep fun g _ hl=>hb.block g hl⟩
theorem Lq.grown {a2 : Option Addr} {c2 : Nat} {f2 : F} (h : Lq b m T s W X cur a c f w) (hr : KL 32 (fun g=>W.heap.size < g ∧ g ≠ X) w1 (.slice a2 f2.len c2) f2) (hk : Ky (fun k=>some k = Value.ownBlock (.slice a f.len c)) w w1) : Lq b m T s W X cur a2 c2 f2 w1:=by
  have hlt:=h.lv.lt
  obtain ⟨xs,hown,hoP,_⟩:=h.kl.out
  have hS : ∀ x,some x = Value.ownBlock (.slice a f.len c) → W.heap.size < x ∧ x ≠ X:=fun x e=>hoP x e.symm
  exact ⟨⟨Tr.onto h.lv.tk hk (fun x hx=>by have:=hS x hx;omega) hlt.2.1,h.lv.res.ky hk (fun e=>by have:=hS _ e;omega),h.lv.box.ky hk (fun e=>(hS X e).2 rfl),hlt⟩,hr⟩
theorem Lq.own_lt (h : Lq b m T s W X cur a c f w) (g : Nat) (e : Value.ownBlock (.slice a f.len c) = some g) : g < w.heap.size:=by
  obtain ⟨xs,hown,_,_⟩:=h.kl.out
  exact (hown.lt g e).2
theorem Lq.lk {k : Int} {t : List UInt8} {n p : Int} {v : Value} (h : Lq b m T s W X #[.int .i64 k,.string ⟨t.toArray⟩,.int .i64 n,.int .i64 p,v] a c f w) : Lk b m T s W X k t n p a c f (w.setCell ⟨X,4,none⟩ (.slice a f.len c)):=by
  have hlt:=h.lv.lt
  exact ⟨Tr.new h.lv.tk (by omega) hlt.2.1 _,h.lv.res.set (by omega) _,h.lv.box.put4 _,h.kl.keep fun g hg _=>Below.heap_setCell _ _ _ g hg.2,hlt⟩
theorem app_lq1 {ks : F} {k' : Int} {t' : List UInt8} {n' p' : Int} (hgd : o.guard = none) (sv x : Operand) (ho : o.op = .call { callee:=.builtin .append,args:=#[sv,x],argTypes:=#[30,30] })
    (h : Lq b m T s W X cur a c f w) (hT : Tt b m T s' w w1) (ht : TN 32 w1 (fun g=>w.heap.size ≤ g) k' t' n' p' (.slice a' ks.len c') ks) (hB : f.len ≤ 90000) (hs : ac.eval sv = .slice a f.len c) (hx : ac.eval x = .slice (some ⟨w1.heap.size,0,none⟩) 1 1)
    (hK : ∀ g cc w2,Lq b m T s' W X cur (some ⟨g,0,none⟩) cc (f.app (one k' t' n' p' ks)) w2 → wpList Tryz.prog ops Q rest (ac.put o.dst (.slice (some ⟨g,0,none⟩) (f.app (one k' t' n' p' ks)).len cc)) w2) :
    wpList Tryz.prog ops Q (o :: rest) ac (w1.alloc (.cells #[.int .i64 k',.string ⟨t'.toArray⟩,.int .i64 n',.int .i64 p',.slice a' ks.len c'] 32)):=by
  have h1:=(h.took hT).below ((Below.refl _ w1).alloc (Nat.le_refl _) (.cells #[.int .i64 k',.string ⟨t'.toArray⟩,.int .i64 n',.int .i64 p',.slice a' ks.len c'] 32))
  have hlt:=h.lv.lt
  have hX:=h.lv.box.lt
  have hX1:=h1.lv.box.lt
  have hsz:=hT.ky.size
  refine app_kl (n:=one k' t' n' p' ks) (ad:=⟨w1.heap.size,0,none⟩) (news:=[.int .i64 k',.string ⟨t'.toArray⟩,.int .i64 n',.int .i64 p',.slice a' ks.len c']) hgd sv x ho h1.kl (fun y hy=>by show W.heap.size < y ∧ y ≠ X;omega) (by show f.len + 1 ≤ _;omega) (by show 0 < 1;omega) ?_ hs hx (World.news_of_block (cs:=#[.int .i64 k',.string ⟨t'.toArray⟩,.int .i64 n',.int .i64 p',.slice a' ks.len c']) (t:=32) (fr:=(0,0)) (Go.heap_alloc_new w1 _)) ?_
  · refine ((ht.kf.mono (Q:=fun g=>w.heap.size ≤ g ∧ g < w1.heap.size) fun g x y=>⟨x,y⟩).keep (w':=w1.alloc _) fun g hg _=>(World.grownBy_alloc w1 _ none).block g hg.2 (by simp)).mono fun g hg _=>⟨⟨by omega,by omega⟩,fun e=>?_⟩
    have:=h.own_lt g e.symm
    omega
  · intro g cc w2 hkl hky _
    exact hK g cc w2 (h1.grown hkl hky)
theorem app_lqL {a2 : Option Addr} {c2 : Nat} {g : F} (hgd : o.guard = none) (sv x : Operand) (ho : o.op = .call { callee:=.builtin .append,args:=#[sv,x],argTypes:=#[30,30] })
    (h : Lq b m T s W X cur a c f w) (hT : Tt b m T s' w w1) (hg : KL 32 (fun g=>w.heap.size ≤ g) w1 (.slice a2 g.len c2) g) (hn : 0 < g.len) (hB : f.len + g.len ≤ 100000) (hs : ac.eval sv = .slice a f.len c) (hx : ac.eval x = .slice a2 g.len c2)
    (hK : ∀ gg cc w2,Lq b m T s' W X cur (some ⟨gg,0,none⟩) cc (f.app g) w2 → wpList Tryz.prog ops Q rest (ac.put o.dst (.slice (some ⟨gg,0,none⟩) (f.app g).len cc)) w2) :
    wpList Tryz.prog ops Q (o :: rest) ac w1:=by
  have h1:=h.took hT
  obtain ⟨ad,xs,rfl,hkf,hnews⟩:=hg.lie hn
  have hlt:=h.lv.lt
  have hX:=h.lv.box.lt
  have hX1:=h1.lv.box.lt
  refine app_kl (n:=g) (ad:=ad) (news:=xs) hgd sv x ho h1.kl (fun y hy=>by show W.heap.size < y ∧ y ≠ X;omega) hB hn (hkf.mono fun y hy _=>⟨⟨by omega,by omega⟩,fun e=>?_⟩) hs hx hnews ?_
  · have:=h.own_lt y e.symm
    omega
  · intro gg cc w2 hkl hky _
    exact hK gg cc w2 (h1.grown hkl hky)
end
set_option maxHeartbeats 16000000 in
theorem rloop_any (b m : Nat) (T : List Tok) (hE : Ends T) (p : Int) (s : Sx) (g : F) (s2 : Sx) (hS : Stp T (CR T) (.loop p) s g s2) (W : World) (h : RT b m T s W) : Calls Tryz.prog 74 #[.pointer (some ⟨b,0,none⟩),.int .i64 p] W (RN b m T W s2 g):=by
  have hlt:=RT.lt h
  have hbW : W.heap.size ≠ b:=by omega
  obtain ⟨hes,hsm⟩:=RT.sm h
  have B0:=Bx.new W 32 #[.int .i64 0,.string ⟨#[]⟩,.int .i64 0,.int .i64 0,.slice none 0 0]
  have T0:=Tr.alloc (RS.tr h) (.cells #[.int .i64 0,.string ⟨#[]⟩,.int .i64 0,.int .i64 0,.slice none 0 0] 32)
  obtain ⟨A,hA⟩ : ∃ A,W.alloc (.cells #[.int .i64 0,.string ⟨#[]⟩,.int .i64 0,.int .i64 0,.slice none 0 0] 32) = A:=⟨_,rfl⟩
  have hAs : (W.alloc (.cells #[.int .i64 0,.string ⟨#[]⟩,.int .i64 0,.int .i64 0,.slice none 0 0] 32)).heap.size = W.heap.size + 1:=by simp
  rw [hA] at B0 T0 hAs
  obtain ⟨e9,l9⟩:=name_e hE hes
  have CN:=name_n b m T s 6 A T0.rs
  have HS : Hid (Stp T (CR T) (.loop p) s g s2):=hS
  clear hS
  go_enter Tryz.func74,Tryz.ntmps74
  go_wp2_with fail
  refine CN.mono ?_;rintro e w0 ⟨k0,t0,n0,p0,a0,c0,ks0,e0,rfl,hN0,hT0⟩
  have hR:=Rr.made hT0 hN0 (by omega)
  clear CN hN0 hT0 hA
  have hS:=HS.out
  clear HS
  cases hS with
  | @ln2 _ _ e1 sa e2 sb bb _ hc h1 h2 h3 h4 =>
    have K14:=fun W h=>take_y b m T (s.name T) 14 (by decide) (by decide) hc W h
    rw [show wds 14 = [61] from rfl] at K14
    have C1 : ∀ W,RT b m T (s.name T).tl W → Calls Tryz.prog 72 #[.pointer (some ⟨b,0,none⟩),.int .i64 1] W (RN b m T W sa e1):=fun W h=>h1.cl b m W h
    have C2 : ∀ W,RT b m T (sa.needC T 15) W → Calls Tryz.prog 72 #[.pointer (some ⟨b,0,none⟩),.int .i64 1] W (RN b m T W sb e2):=fun W h=>h2.cl b m W h
    have K15:=fun W h=>need_n b m T sa 15 (by decide) (by decide) W h
    rw [show wds 15 = [44] from rfl] at K15
    have J15:=fun W h=>take_n b m T sb 15 (by decide) (by decide) h3 W h
    rw [show wds 15 = [44] from rfl] at J15
    have CB : ∀ W,RT b m T sb W → Calls Tryz.prog 73 #[.pointer (some ⟨b,0,none⟩)] W (RN b m T W s2 bb):=fun W h=>h4.cl b m W h
    clear h1 h2 h4
    go_wp2_with fail
    refine (K14 _ hR.tr.rs).mono ?_;rintro e' w14 ⟨rfl,hT14⟩
    have hR:=hR.go hT14
    go_wp2_with fail
    refine (C1 _ hR.tr.rs).mono ?_;rintro e' w1 ⟨k1,t1,n1,p1,a1,c1,ks1,e1',rfl,hN1,hT1⟩
    go_wp2_with (at_builtin;refine app_rr rfl _ _ rfl hR hT1 hN1 (by show 1 ≤ 90000;omega) rfl rfl ?_;intro gg1 cc1 v1 hR)
    go_wp2_with fail
    refine (K15 _ hR.tr.rs).mono ?_;rintro e' w15 ⟨rfl,hT15⟩
    have hR:=hR.go hT15
    go_wp2_with fail
    refine (C2 _ hR.tr.rs).mono ?_;rintro e' w2 ⟨k2,t2,n2,p2,a2,c2,ks2,e2',rfl,hN2,hT2⟩
    go_wp2_with (at_builtin;refine app_rr rfl _ _ rfl hR hT2 hN2 (by show 2 ≤ 90000;omega) rfl rfl ?_;intro gg2 cc2 v2 hR)
    go_wp2_with fail
    refine (J15 _ hR.tr.rs).mono ?_;rintro e' w16 ⟨rfl,hT16⟩
    have hR:=hR.go hT16
    go_wp2_with fail
    refine (CB _ hR.tr.rs).mono ?_;rintro e' w4 ⟨k4,t4,n4,p4,a4,c4,ks4,e4',rfl,hN4,hT4⟩
    go_wp2_with (at_builtin;refine app_rr rfl _ _ rfl hR hT4 hN4 (by show 3 ≤ 90000;omega) rfl rfl ?_;intro gg4 cc4 v4 hR;have BR:=B0.ky hR.tr.ky hbW;obtain ⟨q0,q1,q2,q3,q4⟩:=BR.five;obtain ⟨m0,m1,m2,m3,m4⟩:=BR.frozen5)
    obtain ⟨y0,y1,y2,y3,y4⟩:=(BR.five_put (.int .i64 26) (.string ⟨#[]⟩) (.int .i64 0) (.int .i64 p) (.slice (some ⟨gg4,0,none⟩) ((((one k0 t0 n0 p0 ks0).app (one k1 t1 n1 p1 ks1)).app (one k2 t2 n2 p2 ks2)).app (one k4 t4 n4 p4 ks4)).len cc4)).five
    refine bodyPost_ret (v:=.agg #[.int .i64 26,.string ⟨#[]⟩,.int .i64 0,.int .i64 p,.slice (some ⟨gg4,0,none⟩) ((((one k0 t0 n0 p0 ks0).app (one k1 t1 n1 p1 ks1)).app (one k2 t2 n2 p2 ks2)).app (one k4 t4 n4 p4 ks4)).len cc4]) (by simp [results,Tryz.results74,go_sem,y0,y1,y2,y3,y4]) rfl ?_
    refine ⟨26,[],0,p,some ⟨gg4,0,none⟩,cc4,((((one k0 t0 n0 p0 ks0).app (one k1 t1 n1 p1 ks1)).app (one k2 t2 n2 p2 ks2)).app (one k4 t4 n4 p4 ks4)),by rw [e0,e1',e2',e4'],rfl,?_,Tr.five (Tr.trans T0 hR.tr) (Nat.le_refl _) hlt.2 _ _ _ _ _⟩
    exact ((hR.kl.node 26 [] 0 p).five (X:=W.heap.size) (by omega) _ _ _ _ _).mono fun g hg _=>by omega
  | @ln3 _ _ e1 sa e2 sb e3 sc bb _ hc h1 h2 h3 h4 h5 =>
    have K14:=fun W h=>take_y b m T (s.name T) 14 (by decide) (by decide) hc W h
    rw [show wds 14 = [61] from rfl] at K14
    have C1 : ∀ W,RT b m T (s.name T).tl W → Calls Tryz.prog 72 #[.pointer (some ⟨b,0,none⟩),.int .i64 1] W (RN b m T W sa e1):=fun W h=>h1.cl b m W h
    have C2 : ∀ W,RT b m T (sa.needC T 15) W → Calls Tryz.prog 72 #[.pointer (some ⟨b,0,none⟩),.int .i64 1] W (RN b m T W sb e2):=fun W h=>h2.cl b m W h
    have K15:=fun W h=>need_n b m T sa 15 (by decide) (by decide) W h
    rw [show wds 15 = [44] from rfl] at K15
    have J15:=fun W h=>take_y b m T sb 15 (by decide) (by decide) h3 W h
    rw [show wds 15 = [44] from rfl] at J15
    have C3 : ∀ W,RT b m T sb.tl W → Calls Tryz.prog 72 #[.pointer (some ⟨b,0,none⟩),.int .i64 1] W (RN b m T W sc e3):=fun W h=>h4.cl b m W h
    have CB : ∀ W,RT b m T sc W → Calls Tryz.prog 73 #[.pointer (some ⟨b,0,none⟩)] W (RN b m T W s2 bb):=fun W h=>h5.cl b m W h
    clear h1 h2 h4 h5
    go_wp2_with fail
    refine (K14 _ hR.tr.rs).mono ?_;rintro e' w14 ⟨rfl,hT14⟩
    have hR:=hR.go hT14
    go_wp2_with fail
    refine (C1 _ hR.tr.rs).mono ?_;rintro e' w1 ⟨k1,t1,n1,p1,a1,c1,ks1,e1',rfl,hN1,hT1⟩
    go_wp2_with (at_builtin;refine app_rr rfl _ _ rfl hR hT1 hN1 (by show 1 ≤ 90000;omega) rfl rfl ?_;intro gg1 cc1 v1 hR)
    go_wp2_with fail
    refine (K15 _ hR.tr.rs).mono ?_;rintro e' w15 ⟨rfl,hT15⟩
    have hR:=hR.go hT15
    go_wp2_with fail
    refine (C2 _ hR.tr.rs).mono ?_;rintro e' w2 ⟨k2,t2,n2,p2,a2,c2,ks2,e2',rfl,hN2,hT2⟩
    go_wp2_with (at_builtin;refine app_rr rfl _ _ rfl hR hT2 hN2 (by show 2 ≤ 90000;omega) rfl rfl ?_;intro gg2 cc2 v2 hR)
    go_wp2_with fail
    refine (J15 _ hR.tr.rs).mono ?_;rintro e' w16 ⟨rfl,hT16⟩
    have hR:=hR.go hT16
    go_wp2_with fail
    refine (C3 _ hR.tr.rs).mono ?_;rintro e' w3 ⟨k3,t3,n3,p3,a3,c3,ks3,e3',rfl,hN3,hT3⟩
    go_wp2_with (at_builtin;refine app_rr rfl _ _ rfl hR hT3 hN3 (by show 3 ≤ 90000;omega) rfl rfl ?_;intro gg3 cc3 v3 hR)
    go_wp2_with fail
    refine (CB _ hR.tr.rs).mono ?_;rintro e' w4 ⟨k4,t4,n4,p4,a4,c4,ks4,e4',rfl,hN4,hT4⟩
    go_wp2_with (at_builtin;refine app_rr rfl _ _ rfl hR hT4 hN4 (by show 4 ≤ 90000;omega) rfl rfl ?_;intro gg4 cc4 v4 hR;have BR:=B0.ky hR.tr.ky hbW;obtain ⟨q0,q1,q2,q3,q4⟩:=BR.five;obtain ⟨m0,m1,m2,m3,m4⟩:=BR.frozen5)
    obtain ⟨y0,y1,y2,y3,y4⟩:=(BR.five_put (.int .i64 26) (.string ⟨#[]⟩) (.int .i64 0) (.int .i64 p) (.slice (some ⟨gg4,0,none⟩) (((((one k0 t0 n0 p0 ks0).app (one k1 t1 n1 p1 ks1)).app (one k2 t2 n2 p2 ks2)).app (one k3 t3 n3 p3 ks3)).app (one k4 t4 n4 p4 ks4)).len cc4)).five
    refine bodyPost_ret (v:=.agg #[.int .i64 26,.string ⟨#[]⟩,.int .i64 0,.int .i64 p,.slice (some ⟨gg4,0,none⟩) (((((one k0 t0 n0 p0 ks0).app (one k1 t1 n1 p1 ks1)).app (one k2 t2 n2 p2 ks2)).app (one k3 t3 n3 p3 ks3)).app (one k4 t4 n4 p4 ks4)).len cc4]) (by simp [results,Tryz.results74,go_sem,y0,y1,y2,y3,y4]) rfl ?_
    refine ⟨26,[],0,p,some ⟨gg4,0,none⟩,cc4,(((((one k0 t0 n0 p0 ks0).app (one k1 t1 n1 p1 ks1)).app (one k2 t2 n2 p2 ks2)).app (one k3 t3 n3 p3 ks3)).app (one k4 t4 n4 p4 ks4)),by rw [e0,e1',e2',e3',e4'],rfl,?_,Tr.five (Tr.trans T0 hR.tr) (Nat.le_refl _) hlt.2 _ _ _ _ _⟩
    exact ((hR.kl.node 26 [] 0 p).five (X:=W.heap.size) (by omega) _ _ _ _ _).mono fun g hg _=>by omega
  | @lin _ _ ns sa gl sb bb _ hc h1 h2 h3 =>
    have K14:=fun W h=>take_n b m T (s.name T) 14 (by decide) (by decide) hc W h
    rw [show wds 14 = [61] from rfl] at K14
    have nE:=nms_e hE h1 e9
    rw [nm_len] at nE
    obtain ⟨ea,la,la2⟩:=nE
    obtain ⟨eb,lb⟩:=need_e2 hE ea 16 (by decide)
    obtain ⟨r1,r2⟩:=h2.pz.row eb
    have C16:=fun W h=>need_n b m T sa 16 (by decide) (by decide) W h
    rw [show wds 16 = [105,110] from rfl] at C16
    have CL : ∀ W,RT b m T (sa.needC T 16) W → Calls Tryz.prog 47 #[.pointer (some ⟨b,0,none⟩)] W (RL b m T W sb gl):=fun W h=>h2.cl b m W h
    have CB : ∀ W,RT b m T sb W → Calls Tryz.prog 73 #[.pointer (some ⟨b,0,none⟩)] W (RN b m T W s2 bb):=fun W h=>h3.cl b m W h
    have HB : Hid (0 < gl.len ∧ ns.len + gl.len ≤ 100000 ∧ (ns.app gl).len ≤ 90000):=⟨by omega,by omega,by rw [F.len_app];omega⟩
    have HN0 : Hid (Nms T (one k0 t0 n0 p0 ks0) (s.name T) ns sa):=by rw [← e0];exact h1
    clear h1 h2 h3 r1 r2 lb la la2
    go_wp2_with fail
    refine (K14 _ hR.tr.rs).mono ?_;rintro e' w14 ⟨rfl,hT14⟩
    have hR:=hR.go hT14
    clear K14 hT14
    go_wp2_with fail
    go_loopg [5] 20010 (fun gf v5 wx=>∃ (f' : F) (s' : Sx) (a' : Option Addr) (c' : Nat),v5 = .slice a' f'.len c' ∧ Rr b m T s' A wx a' c' f' ∧ f'.len + s'.l.length ≤ 20010 ∧ Hid (Nms T f' s' ns sa) ∧ s'.l.length < gf)
    case atStart=>exact ⟨_,s.name T,_,_,rfl,hR,by show 1 + _ ≤ _;omega,HN0,by omega⟩
    case round =>
      clear hR HN0
      obtain ⟨f',s',a',c',rfl,hR,hfw,HN,hfu⟩:=hrel
      obtain ⟨he',hs'⟩:=RT.sm hR.tr.rs
      have hn:=HN.out
      clear HN
      cases hn with
      | stop h15 =>
        have C:=take_n b m T _ 15 (by decide) (by decide) h15 wr hR.tr.rs
        rw [show wds 15 = [44] from rfl] at C
        go_wp2_with fail
        refine C.mono ?_;rintro e' w3 ⟨rfl,hT3⟩
        have hR:=hR.go hT3
        have hAw:=hR.tr.ky.size
        have LQ : Lq b m T sa W w3.heap.size #[.int .i64 27,.string ⟨#[]⟩,.int .i64 (ns.len : Int),.int .i64 p,.slice none 0 0] a' c' ns (w3.alloc (.cells #[.int .i64 27,.string ⟨#[]⟩,.int .i64 (ns.len : Int),.int .i64 p,.slice none 0 0] 32)) :=
          ⟨⟨Tr.alloc (Tr.trans T0 hR.tr) _,(B0.ky hR.tr.ky hbW).alloc _,Bx.new _ _ _,by omega⟩,(hR.kl.wide (Q:=fun g=>W.heap.size < g ∧ g ≠ w3.heap.size) fun g hg hl=>⟨by omega,by omega⟩).keep fun g _ hl=>((Below.refl _ w3).alloc (Nat.le_refl _) _).block g hl⟩
        obtain ⟨X,hX⟩ : ∃ X,w3.heap.size = X:=⟨_,rfl⟩
        obtain ⟨V,hV⟩ : ∃ V,w3.alloc (.cells #[.int .i64 27,.string ⟨#[]⟩,.int .i64 (ns.len : Int),.int .i64 p,.slice none 0 0] 32) = V:=⟨_,rfl⟩
        rw [hX,hV] at LQ
        have HV : Hid (w3.alloc (.cells #[.int .i64 27,.string ⟨#[]⟩,.int .i64 (ns.len : Int),.int .i64 p,.slice none 0 0] 32) = V):=hV
        clear hV hR C hT3 hAw
        go_wp2_with fail
        rw [HV.out]
        refine (C16 _ LQ.lv.tk.rs).mono ?_;rintro e' w4 ⟨rfl,hT4⟩
        have LQ:=LQ.took hT4
        clear HV hT4 C16
        go_wp2_with fail
        refine (CL _ LQ.lv.tk.rs).mono ?_;rintro e' w5 ⟨a5,c5,rfl,hKL,hT5⟩
        go_wp2_with (at_builtin;refine app_lqL rfl _ _ rfl LQ hT5 hKL HB.out.1 HB.out.2.1 rfl rfl ?_;intro gg5 cc5 v5 LQ)
        refine (CB _ LQ.lv.tk.rs).mono ?_;rintro e' w6 ⟨k6,t6,n6,p6,a6,c6,ks6,e6,rfl,hN6,hT6⟩
        go_wp2_with (at_builtin;refine app_lq1 rfl _ _ rfl LQ hT6 hN6 HB.out.2.2 rfl rfl ?_;intro gg6 cc6 v6 LQ;have L7:=Lq.lk (t:=[]) LQ;obtain ⟨-,-,-,-,y4⟩:=LQ.lv.box.five;obtain ⟨-,-,-,-,f4⟩:=LQ.lv.box.frozen5;obtain ⟨V7,hV7⟩ : ∃ V7,v6.setCell ⟨X,4,none⟩ (.slice (some ⟨gg6,0,none⟩) ((ns.app gl).app (one k6 t6 n6 p6 ks6)).len cc6) = V7:=⟨_,rfl⟩;rw [hV7] at L7;obtain ⟨x0,x1,x2,x3,x4⟩:=L7.box.five;obtain ⟨q0,q1,q2,q3,q4⟩:=L7.res.five;obtain ⟨m0,m1,m2,m3,m4⟩:=L7.res.frozen5)
        obtain ⟨y0,y1,y2,y3,y4⟩:=(L7.res.five_put (.int .i64 27) (.string ⟨#[]⟩) (.int .i64 (ns.len : Int)) (.int .i64 p) (.slice (some ⟨gg6,0,none⟩) ((ns.app gl).app (one k6 t6 n6 p6 ks6)).len cc6)).five
        refine bodyPost_ret (v:=.agg #[.int .i64 27,.string ⟨#[]⟩,.int .i64 (ns.len : Int),.int .i64 p,.slice (some ⟨gg6,0,none⟩) ((ns.app gl).app (one k6 t6 n6 p6 ks6)).len cc6]) (by simp [results,Tryz.results74,go_sem,y0,y1,y2,y3,y4]) rfl ?_
        rw [e6]
        exact L7.lr.tell'
      | more h15 h2 =>
        have C:=take_y b m T s' 15 (by decide) (by decide) h15 wr hR.tr.rs
        rw [show wds 15 = [44] from rfl] at C
        obtain ⟨e1,l1⟩:=Sx.tl_e he' (by rw [h15];decide)
        obtain ⟨e2,l2⟩:=name_e hE e1
        have CN:=fun W h=>name_n b m T s'.tl 6 W h
        have HN : Hid (Nms T (f'.app (s'.tl.nm 6)) (s'.tl.name T) ns sa):=h2
        clear h2
        go_wp2_with (first | (go_at_call 45;refine C.mono ?_;rintro e w3 ⟨rfl,hT⟩;have hR:=hR.go hT) | (go_at_call 48;refine (CN _ hR.tr.rs).mono ?_;rintro e w1 ⟨k,t,n,p,a1,c1,ks,e3,rfl,hTN,hT1⟩) | (at_builtin;refine app_rr rfl _ _ rfl hR hT1 hTN (by omega) rfl rfl ?_;intro gg cc w2 hR2))
        rw [e3] at HN
        go_roundg ((s'.tl.name T).l.length + 1)
        case measure=>omega
        case rel=>exact ⟨_,s'.tl.name T,_,_,rfl,hR2,by rw [F.len_app];show _ + 1 + _ ≤ _;omega,HN,by omega⟩
end Go.Proofs.YtlgkfhipobdcfaaGreatDoor
