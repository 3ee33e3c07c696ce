import Derived.Test.YtlgkfhipobdcfaaGreatDoorCg39
namespace Go.Proofs.YtlgkfhipobdcfaaGreatDoor
open Go.RowKit
set_option maxRecDepth 20000
theorem enters51 : ∀ args w,(callFunc 51 args).run Tryz.prog w = .ok (.enter 51 args) w:=enters_of Tryz.func51 (by kernel_rfl) rfl
@[go_sem] theorem rf1 (k n p : Int) (s : ByteArray) (v : Value) (W : World) : (Instr.field 32 (.agg #[.int .i64 k,.string s,.int .i64 n,.int .i64 p,v]) 1).run Tryz.prog W = .ok (.string s) W:=by kernel_rfl
section
variable {ops : Array Oper} {rest : List Oper} {o : Oper} {ac : Act} {Q : Exit → Act → World → Prop} {b m : Nat} {T : List Tok} {s s' : Sx} {W : World} {X Y : Nat} {P : Int} {a : Option Addr} {c : Nat} {f : F} {ky : Int} {ty : List UInt8} {ny py : Int} {ay : Option Addr} {cy : Nat} {fy : F} {w w1 : World}
structure Lb (b m : Nat) (T : List Tok) (s : Sx) (W : World) (X : Nat) (P : Int) (a : Option Addr) (c : Nat) (f : F) (Y : Nat) (ky : Int) (ty : List UInt8) (ny py : Int) (ay : Option Addr) (cy : Nat) (fy : F) (w : World) : Prop where
  tk : Tt b m T s W w
  res : Bx W.heap.size 32 #[.int .i64 0,.string ⟨#[]⟩,.int .i64 0,.int .i64 0,.slice none 0 0] w
  bx : Bx X 32 #[.int .i64 20,.string ⟨#[]⟩,.int .i64 0,.int .i64 P,.slice a f.len c] w
  bY : Bx Y 32 #[.int .i64 ky,.string ⟨ty.toArray⟩,.int .i64 ny,.int .i64 py,.slice ay fy.len cy] w
  kx : KL 32 (fun g=>(W.heap.size < g ∧ g ≠ X) ∧ g < Y) w (.slice a f.len c) f
  kY : KL 32 (fun g=>Y < g) w (.slice ay fy.len cy) fy
  lt : b < W.heap.size ∧ m ≤ W.heap.size ∧ W.heap.size < X ∧ X < Y
theorem Lb.begin (h : Lk b m T s W X 20 [] 0 P a c f w) (ky : Int) (ty : List UInt8) (ny py : Int) : Lb b m T s W X P a c f w.heap.size ky ty ny py none 0 .nil (w.alloc (.cells #[.int .i64 ky,.string ⟨ty.toArray⟩,.int .i64 ny,.int .i64 py,.slice none 0 0] 32)):=by
  have hlt:=h.lt
  have hX:=h.box.lt
  exact ⟨Tr.alloc h.tk _,h.res.alloc _,h.box.alloc _,Bx.new _ _ _,(h.kl.wide (Q:=fun g=>(W.heap.size < g ∧ g ≠ X) ∧ g < w.heap.size) fun g hg hl=>⟨hg,hl⟩).keep fun g _ hl=>((Below.refl _ w).alloc (Nat.le_refl _) _).block g hl,KL.nil _ _ _,by omega⟩
theorem Lb.took (h : Lb b m T s W X P a c f Y ky ty ny py ay cy fy w) (hT : Tt b m T s' w w1) : Lb b m T s' W X P a c f Y ky ty ny py ay cy fy w1:=by
  have hlt:=h.lt
  exact ⟨Tr.trans h.tk hT,h.res.ky hT.ky (by omega),h.bx.ky hT.ky (by omega),h.bY.ky hT.ky (by omega),h.kx.keep fun g hg hl=>hT.ky.block g hl (fun e=>by omega),h.kY.keep fun g hg hl=>hT.ky.block g hl (fun e=>by omega),hlt⟩
theorem Lb.below (h : Lb b m T s W X P a c f Y ky ty ny py ay cy fy w) (hb : Below w.heap.size w w1) : Lb b m T s W X P a c f Y ky ty ny py ay cy fy w1:=⟨Tr.below h.tk hb,h.res.below hb,h.bx.below hb,h.bY.below hb,h.kx.keep fun g _ hl=>hb.block g hl,h.kY.keep fun g _ hl=>hb.block g hl,h.lt⟩
theorem Lb.drew (h : Lb b m T s W X P a c f Y ky ty ny py ay cy fy w) : Lb b m T s W X P a c f Y ky ty ny py ay cy fy w.drew:=⟨Tr.drew h.tk,h.res.drew,h.bx.drew,h.bY.drew,h.kx.keep fun _ _ _=>rfl,h.kY.keep fun _ _ _=>rfl,h.lt⟩
theorem Lb.txt (h : Lb b m T s W X P a c f Y ky ty ny py ay cy fy w) (t' : List UInt8) : Lb b m T s W X P a c f Y ky t' ny py ay cy fy (w.setCell ⟨Y,1,none⟩ (.string ⟨t'.toArray⟩)):=by
  have hlt:=h.lt
  exact ⟨Tr.new h.tk (by omega) hlt.2.1 _,h.res.set (by omega) _,h.bx.set (by omega) _,h.bY.put (j:=1) _,h.kx.keep fun g hg _=>Below.heap_setCell _ _ _ g (Nat.ne_of_lt hg.2),h.kY.keep fun g hg _=>Below.heap_setCell _ _ _ g (Nat.ne_of_gt hg),hlt⟩
theorem Lb.num (h : Lb b m T s W X P a c f Y ky ty ny py ay cy fy w) (n' : Int) : Lb b m T s W X P a c f Y ky ty n' py ay cy fy (w.setCell ⟨Y,2,none⟩ (.int .i64 n')):=by
  have hlt:=h.lt
  exact ⟨Tr.new h.tk (by omega) hlt.2.1 _,h.res.set (by omega) _,h.bx.set (by omega) _,h.bY.put2 _,h.kx.keep fun g hg _=>Below.heap_setCell _ _ _ g (Nat.ne_of_lt hg.2),h.kY.keep fun g hg _=>Below.heap_setCell _ _ _ g (Nat.ne_of_gt hg),hlt⟩
theorem Lb.row {a2 : Option Addr} {c2 : Nat} {g : F} (h : Lb b m T s W X P a c f Y ky ty ny py ay cy fy w) (hT : Tt b m T s' w w1) (hk : KL 32 (fun g=>w.heap.size ≤ g) w1 (.slice a2 g.len c2) g) : Lb b m T s' W X P a c f Y ky ty ny py a2 c2 g (w1.setCell ⟨Y,4,none⟩ (.slice a2 g.len c2)):=by
  have hlt:=h.lt
  have hY:=h.bY.lt
  have h1:=h.took hT
  exact ⟨Tr.new h1.tk (by omega) hlt.2.1 _,h1.res.set (by omega) _,h1.bx.set (by omega) _,h1.bY.put4 _,h1.kx.keep fun g hg _=>Below.heap_setCell _ _ _ g (Nat.ne_of_lt hg.2),(hk.wide (Q:=fun g=>Y < g) fun g hg _=>by omega).keep fun g hg _=>Below.heap_setCell _ _ _ g (Nat.ne_of_gt hg),hlt⟩
theorem Lb.own_lt (h : Lb b m T s W X P a c f Y ky ty ny py ay cy fy w) (g : Nat) (e : Value.ownBlock (.slice ay fy.len cy) = some g) : g < w.heap.size:=by
  obtain ⟨xs,hown,_,_⟩:=h.kY.out
  exact (hown.lt g e).2
theorem step_lb1 {K : Act → World → Prop} {E : Prop} {a' : Option Addr} {c' : Nat} {ks : F} {k' : Int} {t' : List UInt8} {n' p' : Int} (hgd : o.guard = none) (sv x : Operand) (ho : o.op = .call { callee:=.builtin .append,args:=#[sv,x],argTypes:=#[30,30] })
    (h : Lb b m T s W X P a c f Y ky ty ny py ay cy fy w) (hT : Tt b m T s' w w1) (ht : TN 32 w1 (fun g=>w.heap.size ≤ g) k' t' n' p' (.slice a' ks.len c') ks) (hB : fy.len ≤ 90000) (hs : ac.eval sv = .slice ay fy.len cy) (hx : ac.eval x = .slice (some ⟨w1.heap.size,0,none⟩) 1 1)
    (hK : ∀ gg cc w2 wF,w2.setCell ⟨Y,4,none⟩ (.slice (some ⟨gg,0,none⟩) (fy.app (one k' t' n' p' ks)).len cc) = wF → Lb b m T s' W X P a c f Y ky ty ny py (some ⟨gg,0,none⟩) cc (fy.app (one k' t' n' p' ks)) wF → Bx Y 32 #[.int .i64 ky,.string ⟨ty.toArray⟩,.int .i64 ny,.int .i64 py,.slice ay fy.len cy] w2 → K (ac.put o.dst (.slice (some ⟨gg,0,none⟩) (fy.app (one k' t' n' p' ks)).len cc)) w2) :
    if Region.wanted o (yielded ops ac.tmps) = true then Oper.wp Tryz.prog o ac (w1.alloc (.cells #[.int .i64 k',.string ⟨t'.toArray⟩,.int .i64 n',.int .i64 p',.slice a' ks.len c'] 32)) K Q else E:=by
  have h1:=(h.took hT).below ((Below.refl _ w1).alloc (Nat.le_refl _) (.cells #[.int .i64 k',.string ⟨t'.toArray⟩,.int .i64 n',.int .i64 p',.slice a' ks.len c'] 32))
  have hlt:=h.lt
  have hY:=h.bY.lt
  have hY1:=h1.bY.lt
  have hsz:=hT.ky.size
  refine step_kl (n:=one k' t' n' p' ks) (ad:=⟨w1.heap.size,0,none⟩) (news:=[.int .i64 k',.string ⟨t'.toArray⟩,.int .i64 n',.int .i64 p',.slice a' ks.len c']) hgd sv x ho h1.kY (fun y hy=>by show Y < y;omega) (by show fy.len + 1 ≤ _;omega) (by show 0 < 1;omega) ?_ hs hx (World.news_of_block (cs:=#[.int .i64 k',.string ⟨t'.toArray⟩,.int .i64 n',.int .i64 p',.slice a' ks.len c']) (t:=32) (fr:=(0,0)) (Go.heap_alloc_new w1 _)) ?_
  · refine ((ht.kf.mono (Q:=fun g=>w.heap.size ≤ g ∧ g < w1.heap.size) fun g x y=>⟨x,y⟩).keep (w':=w1.alloc _) fun g hg _=>(World.grownBy_alloc w1 _ none).block g hg.2 (by simp)).mono fun g hg _=>⟨by omega,fun e=>?_⟩
    have:=h.own_lt g e.symm
    omega
  · intro gg cc w2 hkl hky
    obtain ⟨xs,hown,hoP,_⟩:=h1.kY.out
    have hS : ∀ x,some x = Value.ownBlock (.slice ay fy.len cy) → Y < x:=fun x e=>hoP x e.symm
    have hBY:=h1.bY.ky hky (fun e=>by have:=hS _ e;omega)
    exact hK gg cc w2 _ rfl ⟨Tr.new (Tr.onto h1.tk hky (fun x hx=>by have:=hS x hx;omega) hlt.2.1) (by omega) hlt.2.1 _,(h1.res.ky hky (fun e=>by have:=hS _ e;omega)).set (by omega) _,(h1.bx.ky hky (fun e=>by have:=hS _ e;omega)).set (by omega) _,hBY.put4 _,(h1.kx.keep fun g hg hl=>hky.block g hl (fun e=>by have:=hS _ e;omega)).keep fun g hg _=>Below.heap_setCell _ _ _ g (Nat.ne_of_lt hg.2),hkl.keep fun g hg _=>Below.heap_setCell _ _ _ g (Nat.ne_of_gt hg),hlt⟩ hBY
theorem app_lb (hgd : o.guard = none) (sv x : Operand) (ho : o.op = .call { callee:=.builtin .append,args:=#[sv,x],argTypes:=#[30,30] })
    (h : Lb b m T s W X P a c f Y ky ty ny py ay cy fy w) (hB : f.len ≤ 90000) (hs : ac.eval sv = .slice a f.len c) (hx : ac.eval x = .slice (some ⟨w.heap.size,0,none⟩) 1 1)
    (hK : ∀ g cc w2 wF,w2.setCell ⟨X,4,none⟩ (.slice (some ⟨g,0,none⟩) (f.app (one ky ty ny py fy)).len cc) = wF → Lk b m T s W X 20 [] 0 P (some ⟨g,0,none⟩) cc (f.app (one ky ty ny py fy)) wF → Bx X 32 #[.int .i64 20,.string ⟨#[]⟩,.int .i64 0,.int .i64 P,.slice a f.len c] w2 → wpList Tryz.prog ops Q rest (ac.put o.dst (.slice (some ⟨g,0,none⟩) (f.app (one ky ty ny py fy)).len cc)) w2) :
    wpList Tryz.prog ops Q (o :: rest) ac (w.alloc (.cells #[.int .i64 ky,.string ⟨ty.toArray⟩,.int .i64 ny,.int .i64 py,.slice ay fy.len cy] 32)):=by
  have h1:=h.below ((Below.refl _ w).alloc (Nat.le_refl _) (.cells #[.int .i64 ky,.string ⟨ty.toArray⟩,.int .i64 ny,.int .i64 py,.slice ay fy.len cy] 32))
  have hlt:=h.lt
  have hX:=h1.bx.lt
  have hLk : Lk b m T s W X 20 [] 0 P a c f (w.alloc (.cells #[.int .i64 ky,.string ⟨ty.toArray⟩,.int .i64 ny,.int .i64 py,.slice ay fy.len cy] 32)):=⟨h1.tk,h1.res,h1.bx,h1.kx.wide fun g hg _=>hg.1,by omega⟩
  refine app_kl (n:=one ky ty ny py fy) (ad:=⟨w.heap.size,0,none⟩) (news:=[.int .i64 ky,.string ⟨ty.toArray⟩,.int .i64 ny,.int .i64 py,.slice ay fy.len cy]) hgd sv x ho hLk.kl (fun y hy=>by show W.heap.size < y ∧ y ≠ X;omega) (by show f.len + 1 ≤ _;omega) (by show 0 < 1;omega) ?_ hs hx (World.news_of_block (cs:=#[.int .i64 ky,.string ⟨ty.toArray⟩,.int .i64 ny,.int .i64 py,.slice ay fy.len cy]) (t:=32) (fr:=(0,0)) (Go.heap_alloc_new w _)) ?_
  · refine (h1.kY.node ky ty ny py).kf.mono fun g hg _=>⟨⟨by omega,by omega⟩,fun e=>?_⟩
    obtain ⟨xs,hown,hoP,_⟩:=h.kx.out
    have:=(hoP g e.symm).2
    omega
  · intro g cc w2 hkl hky _
    obtain ⟨wF,e,h3,h4⟩:=hLk.grown hkl hky
    exact hK g cc w2 wF e h3 h4
end
set_option maxHeartbeats 16000000 in
theorem rblk_any (b m : Nat) (T : List Tok) (hE : Ends T) (c : Bool) (s : Sx) (g : F) (s2 : Sx) (hS : Stp T (CR T) (.blk c) s g s2) (W : World) (h : RT b m T s W) : Calls Tryz.prog 24 #[.pointer (some ⟨b,0,none⟩),.bool c] W (RN b m T W s2 g):=by
  have hlt:=RT.lt h
  obtain ⟨hes,hsm⟩:=RT.sm h
  have B0:=Bx.new W 32 #[.int .i64 0,.string ⟨#[]⟩,.int .i64 0,.int .i64 0,.slice none 0 0]
  have T0:=Tr.alloc (RS.tr h) (.cells #[.int .i64 0,.string ⟨#[]⟩,.int .i64 0,.int .i64 0,.slice none 0 0] 32)
  obtain ⟨A,hA⟩ : ∃ A,W.alloc (.cells #[.int .i64 0,.string ⟨#[]⟩,.int .i64 0,.int .i64 0,.slice none 0 0] 32) = A:=⟨_,rfl⟩
  rw [hA] at B0 T0
  obtain ⟨P,hP⟩ : ∃ P : Int,(s.t.p : Int) = P:=⟨_,rfl⟩
  have CA:=at_s b m T s A T0.rs
  rw [hP] at CA
  cases hS with
  | @blk _ _ g1 _ hK =>
  have HK : Hid (BkL T (CR T) c .nil s g1 s2):=hK
  clear hK
  go_enter Tryz.func24,Tryz.ntmps24
  go_wp2_with fail
  refine CA.mono ?_;rintro e w1 ⟨rfl,hb1⟩
  have L1:=Lk.begin (Tr.below T0 hb1) (B0.below hb1) hlt 20 [] 0 P
  obtain ⟨X,hX⟩ : ∃ X,w1.heap.size = X:=⟨_,rfl⟩
  obtain ⟨V1,hV1⟩ : ∃ V1,w1.alloc (.cells #[.int .i64 20,.string ⟨#[]⟩,.int .i64 0,.int .i64 P,.slice none 0 0] 32) = V1:=⟨_,rfl⟩
  have L1 : Lk b m T s W X 20 [] 0 P none 0 F.nil V1:=by rw [← hV1,← hX];exact L1
  have HV1 : Hid (w1.alloc (.cells #[.int .i64 20,.string ⟨#[]⟩,.int .i64 0,.int .i64 P,.slice none 0 0] 32) = V1):=hV1
  clear hV1 T0 B0 CA hb1 hA
  go_wp2_with fail
  rw [HV1.out]
  clear HV1
  go_loopg [] 20010 (fun gf wx=>∃ (a' : Option Addr) (c' : Nat) (f' : F) (s' : Sx),Lk b m T s' W X 20 [] 0 P a' c' f' wx ∧ Hid (BkL T (CR T) c f' s' g1 s2) ∧ f'.len + s'.l.length ≤ 20010 ∧ s'.l.length < gf)
  case atStart=>exact ⟨none,0,.nil,s,L1,HK,by show 0 + _ ≤ _;omega,by omega⟩
  case round =>
    clear L1 HK
    obtain ⟨a',c',f',s',hL,HN,hfw,hfu⟩:=hrel
    obtain ⟨he',hs'⟩:=RT.sm hL.tk.rs
    have hn:=HN.out
    clear HN
    have CE:=end_s b m T s' wr hL.tk.rs
    rw [nd_c] at CE
    have C0:=fun W h=>at_s b m T s' W h
    obtain ⟨Z,hZ⟩ : ∃ Z : Int,(s'.t.p : Int) = Z:=⟨_,rfl⟩
    rw [hZ] at C0
    cases hn with
    | stop hcl =>
      rw [decide_eq_true hcl] at CE
      go_wp2_with fail
      refine CE.mono ?_;rintro e' w2 ⟨rfl,hb2⟩
      have L9:=hL.below hb2
      clear CE hL hb2 C0
      obtain ⟨x0,x1,x2,x3,x4⟩:=L9.box.five
      obtain ⟨q0,q1,q2,q3,q4⟩:=L9.res.five
      obtain ⟨m0,m1,m2,m3,m4⟩:=L9.res.frozen5
      go_wp2_with fail
      obtain ⟨y0,y1,y2,y3,y4⟩:=(L9.res.five_put (.int .i64 20) (.string ⟨#[]⟩) (.int .i64 0) (.int .i64 P) ((.slice a' g1.len c'))).five
      refine bodyPost_ret (v:=.agg #[.int .i64 20,.string ⟨#[]⟩,.int .i64 0,.int .i64 P,(.slice a' g1.len c')]) (by simp [results,Tryz.results24,go_sem,y0,y1,y2,y3,y4]) rfl ?_
      rw [hP]
      exact L9.lr.tell'
    | semi hc h2 =>
      have ncl : ¬ s'.cl:=by unfold Sx.cl;omega
      obtain ⟨e1,l1⟩:=Sx.tl_e he' (by rw [hc];decide)
      have HN : Hid (BkL T (CR T) c f' s'.tl g1 s2):=h2
      clear h2
      have K1:=fun W h=>take_y b m T s' 1 (by decide) (by decide) hc W h
      rw [show wds 1 = [59] from rfl] at K1
      rw [decide_eq_false ncl] at CE
      go_wp2_with fail
      refine CE.mono ?_;rintro e' w2 ⟨rfl,hb2⟩
      have hL:=hL.below hb2
      go_wp2_with fail
      refine (C0 _ hL.tk.rs).mono ?_;rintro e' w3 ⟨rfl,hb3⟩
      have hL:=hL.below hb3
      clear CE C0 hb2 hb3
      go_wp2_with fail
      refine (K1 _ hL.tk.rs).mono ?_;rintro e' wt1 ⟨rfl,hT1⟩
      have hL:=hL.took hT1
      clear K1 hT1
      go_wp2_with fail
      go_roundg (s'.tl.l.length + 1)
      case measure=>omega
      case rel=>exact ⟨a',c',f',_,hL,HN,by omega,by omega⟩
    | ret0 hc h2 =>
      have ncl : ¬ s'.cl:=by unfold Sx.cl;omega
      have K1:=fun W h=>take_n b m T s' 1 (by decide) (by decide) (by rw [hc];decide) W h
      rw [show wds 1 = [59] from rfl] at K1
      have K2:=fun W h=>take_y b m T s' 2 (by decide) (by decide) hc W h
      rw [show wds 2 = [114,101,116,117,114,110] from rfl] at K2
      rw [decide_eq_false ncl] at CE
      go_wp2_with fail
      refine CE.mono ?_;rintro e' w2 ⟨rfl,hb2⟩
      have hL:=hL.below hb2
      go_wp2_with fail
      refine (C0 _ hL.tk.rs).mono ?_;rintro e' w3 ⟨rfl,hb3⟩
      have hL:=hL.below hb3
      clear CE C0 hb2 hb3
      go_wp2_with fail
      refine (K1 _ hL.tk.rs).mono ?_;rintro e' wt1 ⟨rfl,hT1⟩
      have hL:=hL.took hT1
      clear K1 hT1
      go_wp2_with fail
      refine (K2 _ hL.tk.rs).mono ?_;rintro e' wt2 ⟨rfl,hT2⟩
      have hL:=hL.took hT2
      clear K2 hT2
      have LB:=Lb.begin hL 30 [] 0 Z
      obtain ⟨Y,hY⟩ : ∃ Y,wt2.heap.size = Y:=⟨_,rfl⟩
      obtain ⟨V2,hV2⟩ : ∃ V2,wt2.alloc (.cells #[.int .i64 30,.string ⟨#[]⟩,.int .i64 0,.int .i64 Z,.slice none 0 0] 32) = V2:=⟨_,rfl⟩
      have LB : Lb b m T s'.tl W X P a' c' f' Y 30 [] 0 Z none 0 F.nil V2:=by rw [← hV2,← hY];exact LB
      have HV2 : Hid (wt2.alloc (.cells #[.int .i64 30,.string ⟨#[]⟩,.int .i64 0,.int .i64 Z,.slice none 0 0] 32) = V2):=hV2
      clear hV2 hL
      have CE2:=fun W h=>end_s b m T s'.tl W h
      have CS1:=fun W h=>see_n b m T s'.tl 1 (by decide) (by decide) W h
      rw [show wds 1 = [59] from rfl] at CS1
      have HH : Hid (s'.tl.cl ∨ s'.tl.c = 1):=h2
      clear h2
      go_upto_region 7 with fail
      rw [HV2.out]
      clear HV2
      go_cut [30] from 12 to 90 (fun v30 wx=>v30 = .bool false ∧ Lb b m T s'.tl W X P a' c' f' Y 30 [] 0 Z none 0 F.nil wx)
      case first =>
        have h2:=HH.out
        by_cases hcl : s'.tl.cl
        · rw [nd_c,decide_eq_true hcl] at CE2
          go_wp2_with fail
          refine (CE2 _ LB.tk.rs).mono ?_;rintro e' w8 ⟨rfl,hb8⟩
          have LB:=LB.below hb8
          go_wp2_with fail
          go_meet
          exact ⟨rfl,LB⟩
        · rw [nd_c,decide_eq_false hcl] at CE2
          rw [decide_eq_true (h2.elim (fun e=>absurd e hcl) id)] at CS1
          go_wp2_with fail
          refine (CE2 _ LB.tk.rs).mono ?_;rintro e' w8 ⟨rfl,hb8⟩
          have LB:=LB.below hb8
          go_wp2_with fail
          refine (CS1 _ LB.tk.rs).mono ?_;rintro e' w9 ⟨rfl,hb9⟩
          have LB:=LB.below hb9
          go_wp2_with fail
          go_meet
          exact ⟨rfl,LB⟩
      case rest =>
        clear LB CE2 CS1 HH
        obtain ⟨rfl,LB⟩:=hcut
        have K1':=fun W h=>take_c b m T s'.tl 1 (by decide) (by decide) W h
        rw [show wds 1 = [59] from rfl] at K1'
        have HF : Hid (f'.len ≤ 90000):=(by omega : f'.len ≤ 90000)
        have esm : (if (s'.tl).c = 1 then (s'.tl).tl else (s'.tl)) = (s'.tl).sm:=rfl
        rw [esm] at K1'
        obtain ⟨B1,hB1⟩ : ∃ B1 : Bool,decide ((s'.tl).c = 1) = B1:=⟨_,rfl⟩
        rw [hB1] at K1'
        clear hB1
        go_wp2_with fail
        refine (K1' _ LB.tk.rs).mono ?_;rintro e' w20 ⟨rfl,hT20⟩
        have LB:=LB.took hT20
        clear K1' hT20
        obtain ⟨v0,v1,v2,v3,v4⟩:=LB.bY.five
        obtain ⟨-,-,-,-,b4⟩:=LB.bx.five
        go_wp2_with (at_builtin;refine app_lb rfl _ _ rfl LB HF.out rfl rfl ?_;intro g6 cc6 v6 wF6 hF6 L8 B6;obtain ⟨-,-,-,-,r4⟩:=B6.five;obtain ⟨-,-,-,-,g4⟩:=B6.frozen5;obtain ⟨x0,x1,x2,x3,x4⟩:=L8.box.five;obtain ⟨q0,q1,q2,q3,q4⟩:=L8.res.five;obtain ⟨m0,m1,m2,m3,m4⟩:=L8.res.frozen5)
        obtain ⟨y0,y1,y2,y3,y4⟩:=(L8.res.five_put (.int .i64 20) (.string ⟨#[]⟩) (.int .i64 0) (.int .i64 P) (.slice (some ⟨g6,0,none⟩) (f'.app (one 30 [] 0 Z F.nil)).len cc6)).five
        refine bodyPost_ret (v:=.agg #[.int .i64 20,.string ⟨#[]⟩,.int .i64 0,.int .i64 P,.slice (some ⟨g6,0,none⟩) (f'.app (one 30 [] 0 Z F.nil)).len cc6]) (by simp [results,Tryz.results24,go_sem,y0,y1,y2,y3,y4]) rfl ?_
        rw [hP,hZ]
        exact L8.lr.tell'
    | @retN _ _ gl s1 hc h2 h3 h1 =>
      have ncl : ¬ s'.cl:=by unfold Sx.cl;omega
      have CL : ∀ W,RT b m T s'.tl W → Calls Tryz.prog 47 #[.pointer (some ⟨b,0,none⟩)] W (RL b m T W s1 gl):=fun W h=>h1.cl b m W h
      clear h1
      have K1:=fun W h=>take_n b m T s' 1 (by decide) (by decide) (by rw [hc];decide) W h
      rw [show wds 1 = [59] from rfl] at K1
      have K2:=fun W h=>take_y b m T s' 2 (by decide) (by decide) hc W h
      rw [show wds 2 = [114,101,116,117,114,110] from rfl] at K2
      rw [decide_eq_false ncl] at CE
      go_wp2_with fail
      refine CE.mono ?_;rintro e' w2 ⟨rfl,hb2⟩
      have hL:=hL.below hb2
      go_wp2_with fail
      refine (C0 _ hL.tk.rs).mono ?_;rintro e' w3 ⟨rfl,hb3⟩
      have hL:=hL.below hb3
      clear CE C0 hb2 hb3
      go_wp2_with fail
      refine (K1 _ hL.tk.rs).mono ?_;rintro e' wt1 ⟨rfl,hT1⟩
      have hL:=hL.took hT1
      clear K1 hT1
      go_wp2_with fail
      refine (K2 _ hL.tk.rs).mono ?_;rintro e' wt2 ⟨rfl,hT2⟩
      have hL:=hL.took hT2
      clear K2 hT2
      have LB:=Lb.begin hL 30 [] 0 Z
      obtain ⟨Y,hY⟩ : ∃ Y,wt2.heap.size = Y:=⟨_,rfl⟩
      obtain ⟨V2,hV2⟩ : ∃ V2,wt2.alloc (.cells #[.int .i64 30,.string ⟨#[]⟩,.int .i64 0,.int .i64 Z,.slice none 0 0] 32) = V2:=⟨_,rfl⟩
      have LB : Lb b m T s'.tl W X P a' c' f' Y 30 [] 0 Z none 0 F.nil V2:=by rw [← hV2,← hY];exact LB
      have HV2 : Hid (wt2.alloc (.cells #[.int .i64 30,.string ⟨#[]⟩,.int .i64 0,.int .i64 Z,.slice none 0 0] 32) = V2):=hV2
      clear hV2 hL
      have CE2:=fun W h=>end_s b m T s'.tl W h
      have CS1:=fun W h=>see_n b m T s'.tl 1 (by decide) (by decide) W h
      rw [show wds 1 = [59] from rfl] at CS1
      rw [decide_eq_false h3] at CS1
      rw [nd_c,decide_eq_false h2] at CE2
      go_upto_region 7 with fail
      rw [HV2.out]
      clear HV2
      go_cut [30] from 12 to 90 (fun v30 wx=>v30 = .bool true ∧ Lb b m T s'.tl W X P a' c' f' Y 30 [] 0 Z none 0 F.nil wx)
      case first =>
        go_wp2_with fail
        refine (CE2 _ LB.tk.rs).mono ?_;rintro e' w8 ⟨rfl,hb8⟩
        have LB:=LB.below hb8
        go_wp2_with fail
        refine (CS1 _ LB.tk.rs).mono ?_;rintro e' w9 ⟨rfl,hb9⟩
        have LB:=LB.below hb9
        go_wp2_with fail
        go_meet
        exact ⟨rfl,LB⟩
      case rest =>
        clear LB CE2 CS1
        obtain ⟨rfl,LB⟩:=hcut
        go_wp2_with fail
        refine (CL _ LB.tk.rs).mono ?_;rintro e' w10 ⟨a10,c10,rfl,hKL,hT10⟩
        have LC:=LB.row hT10 hKL
        obtain ⟨-,-,-,-,j4⟩:=(LB.took hT10).bY.five
        obtain ⟨-,-,-,-,o4⟩:=(LB.took hT10).bY.frozen5
        obtain ⟨V3,hV3⟩ : ∃ V3,w10.setCell ⟨Y,4,none⟩ (.slice a10 gl.len c10) = V3:=⟨_,rfl⟩
        rw [hV3] at LC
        clear hKL hT10 CL LB
        have LB:=LC
        clear LC
        have K1':=fun W h=>take_c b m T s1 1 (by decide) (by decide) W h
        rw [show wds 1 = [59] from rfl] at K1'
        have HF : Hid (f'.len ≤ 90000):=(by omega : f'.len ≤ 90000)
        have esm : (if (s1).c = 1 then (s1).tl else (s1)) = (s1).sm:=rfl
        rw [esm] at K1'
        obtain ⟨B1,hB1⟩ : ∃ B1 : Bool,decide ((s1).c = 1) = B1:=⟨_,rfl⟩
        rw [hB1] at K1'
        clear hB1
        go_wp2_with fail
        refine (K1' _ LB.tk.rs).mono ?_;rintro e' w20 ⟨rfl,hT20⟩
        have LB:=LB.took hT20
        clear K1' hT20
        obtain ⟨v0,v1,v2,v3,v4⟩:=LB.bY.five
        obtain ⟨-,-,-,-,b4⟩:=LB.bx.five
        go_wp2_with (at_builtin;refine app_lb rfl _ _ rfl LB HF.out rfl rfl ?_;intro g6 cc6 v6 wF6 hF6 L8 B6;obtain ⟨-,-,-,-,r4⟩:=B6.five;obtain ⟨-,-,-,-,g4⟩:=B6.frozen5;obtain ⟨x0,x1,x2,x3,x4⟩:=L8.box.five;obtain ⟨q0,q1,q2,q3,q4⟩:=L8.res.five;obtain ⟨m0,m1,m2,m3,m4⟩:=L8.res.frozen5)
        obtain ⟨y0,y1,y2,y3,y4⟩:=(L8.res.five_put (.int .i64 20) (.string ⟨#[]⟩) (.int .i64 0) (.int .i64 P) (.slice (some ⟨g6,0,none⟩) (f'.app (one 30 [] 0 Z gl)).len cc6)).five
        refine bodyPost_ret (v:=.agg #[.int .i64 20,.string ⟨#[]⟩,.int .i64 0,.int .i64 P,.slice (some ⟨g6,0,none⟩) (f'.app (one 30 [] 0 Z gl)).len cc6]) (by simp [results,Tryz.results24,go_sem,y0,y1,y2,y3,y4]) rfl ?_
        rw [hP,hZ]
        exact L8.lr.tell'
    | @fn _ _ ps s4 bb s6 _ _ hcc hc h1 h2 h3 =>
      subst hcc
      have ncl : ¬ s'.cl:=by unfold Sx.cl;omega
      obtain ⟨e1,l1⟩:=Sx.tl_e he' (by rw [hc];decide)
      obtain ⟨e2,l2⟩:=name_e hE e1
      obtain ⟨e3,l3⟩:=need_e2 hE e2 17 (by decide)
      obtain ⟨e4,l4,r4'⟩:=par_e (fun _ _ _ _ h=>h.pz) h1 e3
      obtain ⟨e5',l5⟩:=need_e2 hE e4 18 (by decide)
      have l6:=h2.pz.len e5'
      obtain ⟨e7,l7⟩:=need_e2 hE (h2.pz.ends e5') 4 (by decide)
      have CN:=fun W h=>name_n b m T s'.tl 6 W h
      have C17:=fun W h=>need_n b m T (s'.tl.name T) 17 (by decide) (by decide) W h
      rw [show wds 17 = [40] from rfl] at C17
      have C18:=fun W h=>need_n b m T s4 18 (by decide) (by decide) W h
      rw [show wds 18 = [41] from rfl] at C18
      have S18:=fun W h=>see_n b m T ((s'.tl.name T).needC T 17) 18 (by decide) (by decide) W h
      rw [show wds 18 = [41] from rfl] at S18
      have CB : ∀ W,RT b m T (s4.needC T 18) W → Calls Tryz.prog 24 #[.pointer (some ⟨b,0,none⟩),.bool false] W (RN b m T W s6 bb):=fun W h=>h2.cl b m W h
      have C4:=fun W h=>need_n b m T s6 4 (by decide) (by decide) W h
      rw [show wds 4 = [101,110,100] from rfl] at C4
      have HN : Hid (BkL T (CR T) true (f'.app (one 31 (s'.tl.nm 6).text (ps.len : Int) Z (ps.app bb))) (s6.needC T 4) g1 s2):=by rw [← hZ];exact h3
      have HF : Hid (ps.len ≤ 90000 ∧ f'.len ≤ 90000):=⟨by omega,by omega⟩
      have HP1 : Hid (ParL (CR T) ((s'.tl.name T).needC T 17) ps s4):=h1
      clear h1 h2 h3 r4'
      have K1:=fun W h=>take_n b m T s' 1 (by decide) (by decide) (by rw [hc];decide) W h
      rw [show wds 1 = [59] from rfl] at K1
      have K2:=fun W h=>take_n b m T s' 2 (by decide) (by decide) (by rw [hc];decide) W h
      rw [show wds 2 = [114,101,116,117,114,110] from rfl] at K2
      have K3:=fun W h=>take_y b m T s' 3 (by decide) (by decide) hc W h
      rw [show wds 3 = [102,117,110,99,116,105,111,110] from rfl] at K3
      rw [decide_eq_false ncl] at CE
      go_wp2_with fail
      refine CE.mono ?_;rintro e' w2 ⟨rfl,hb2⟩
      have hL:=hL.below hb2
      go_wp2_with fail
      refine (C0 _ hL.tk.rs).mono ?_;rintro e' w3 ⟨rfl,hb3⟩
      have hL:=hL.below hb3
      clear CE C0 hb2 hb3
      go_wp2_with fail
      refine (K1 _ hL.tk.rs).mono ?_;rintro e' wt1 ⟨rfl,hT1⟩
      have hL:=hL.took hT1
      clear K1 hT1
      go_wp2_with fail
      refine (K2 _ hL.tk.rs).mono ?_;rintro e' wt2 ⟨rfl,hT2⟩
      have hL:=hL.took hT2
      clear K2 hT2
      go_wp2_with fail
      refine (K3 _ hL.tk.rs).mono ?_;rintro e' wt3 ⟨rfl,hT3⟩
      have hL:=hL.took hT3
      clear K3 hT3
      have LB:=Lb.begin hL 31 [] 0 Z
      obtain ⟨Y,hY⟩ : ∃ Y,wt3.heap.size = Y:=⟨_,rfl⟩
      obtain ⟨V2,hV2⟩ : ∃ V2,wt3.alloc (.cells #[.int .i64 31,.string ⟨#[]⟩,.int .i64 0,.int .i64 Z,.slice none 0 0] 32) = V2:=⟨_,rfl⟩
      have LB : Lb b m T s'.tl W X P a' c' f' Y 31 [] 0 Z none 0 F.nil V2:=by rw [← hV2,← hY];exact LB
      have HV2 : Hid (wt3.alloc (.cells #[.int .i64 31,.string ⟨#[]⟩,.int .i64 0,.int .i64 Z,.slice none 0 0] 32) = V2):=hV2
      clear hV2 hL
      go_wp2_with fail
      rw [HV2.out]
      clear HV2
      refine (CN _ LB.tk.rs).mono ?_;rintro e' w5 ⟨k5,t5,n5,p5,a5,c5,ks5,e5,rfl,hN5,hT5⟩
      have LB:=LB.took hT5
      obtain ⟨-,j1,-,-,-⟩:=LB.bY.five
      obtain ⟨-,o1,-,-,-⟩:=LB.bY.frozen5
      have LB:=LB.txt t5
      obtain ⟨V5,hV5⟩ : ∃ V5,w5.setCell ⟨Y,1,none⟩ (.string ⟨t5.toArray⟩) = V5:=⟨_,rfl⟩
      rw [hV5] at LB
      have ht5 : (s'.tl.nm 6).text = t5:=by rw [e5];rfl
      rw [ht5] at HN
      clear hN5 hT5 CN e5 ht5
      go_wp2_with fail
      refine (C17 _ LB.tk.rs).mono ?_;rintro e' w6 ⟨rfl,hT6⟩
      have LB:=LB.took hT6
      clear C17 hT6 hV5 j1 o1
      have hp:=HP1.out
      clear HP1
      cases hp with
      | none h18 =>
        rw [decide_eq_true h18] at S18
        go_wp2_with fail
        refine (S18 _ LB.tk.rs).mono ?_;rintro e' w7 ⟨rfl,hb7⟩
        have LB:=LB.below hb7
        clear S18 hb7
        obtain ⟨-,-,j2,-,j4⟩:=LB.bY.five
        obtain ⟨-,-,o2,-,-⟩:=LB.bY.frozen5
        have LB:=LB.num (F.nil.len : Int)
        obtain ⟨V7,hV7⟩ : ∃ V7,w7.setCell ⟨Y,2,none⟩ (.int .i64 (F.nil.len : Int)) = V7:=⟨_,rfl⟩
        rw [hV7] at LB
        go_wp2_with fail
        refine (C18 _ LB.tk.rs).mono ?_;rintro e' w12 ⟨rfl,hT12⟩
        have LB:=LB.took hT12
        clear C18 hT12 hV7 j2 j4 o2
        obtain ⟨v0,v1,v2,v3,v4⟩:=LB.bY.five
        go_wp2_with fail
        have D:=LB.drew
        have CV:=CB _ D.tk.rs
        clear CB
        go_region_law (first | (refine step_goE (by rfl) 24 _ _ (by rfl) _ (by simp [Act.eval,Act.put]) enters24 CV ?_;rintro e' wb ⟨k3,t3,n3,p3,a3,c3,ks3,rfl,rfl,hTN,hTk⟩;refine ⟨_,rfl,?_⟩;obtain ⟨-,-,-,-,q4⟩:=(D.took hTk).bY.five;obtain ⟨-,-,-,-,q5⟩:=(D.took hTk).bY.fiveA) | (refine step_lb1 (by rfl) _ _ (by rfl) D hTk hTN HF.out.1 (by rfl) (by rfl) ?_;intro gg cc wc wF hwF L8 B8;obtain ⟨-,-,-,-,r4⟩:=B8.five;obtain ⟨-,-,-,-,g4⟩:=B8.frozen5))
        all_goals
          go_wp2_with fail
          refine (C4 _ L8.tk.rs).mono ?_;rintro e' w13 ⟨rfl,hT13⟩
          have LB:=L8.took hT13
          obtain ⟨z0,z1,z2,z3,z4⟩:=LB.bY.five
          obtain ⟨-,-,-,-,b4⟩:=LB.bx.five
          go_wp2_with (at_builtin;refine app_lb rfl _ _ rfl LB HF.out.2 rfl rfl ?_;intro g6 cc6 v6 wF6 hF6 L9 B6;obtain ⟨-,-,-,-,r6⟩:=B6.five;obtain ⟨-,-,-,-,g6'⟩:=B6.frozen5)
          have HLen : Hid ((f'.app (one 31 t5 (F.nil.len : Int) Z (F.nil.app (one k3 t3 n3 p3 ks3)))).len = f'.len + 1):=(by rw [F.len_app];rfl)
          go_roundg ((s6.needC T 4).l.length + 1)
          case measure=>omega
          case rel=>exact ⟨_,_,_,_,L9,HN,by have:=HLen.out;omega,by omega⟩
      | some h18 h1 =>
        rw [decide_eq_false h18] at S18
        have CP : ∀ W,RT b m T ((s'.tl.name T).needC T 17) W → Calls Tryz.prog 50 #[.pointer (some ⟨b,0,none⟩)] W (RL b m T W s4 ps):=fun W h=>h1.cl b m W h
        clear h1
        go_wp2_with fail
        refine (S18 _ LB.tk.rs).mono ?_;rintro e' w7 ⟨rfl,hb7⟩
        have LB:=LB.below hb7
        clear S18 hb7
        go_wp2_with fail
        refine (CP _ LB.tk.rs).mono ?_;rintro e' w8 ⟨a8,c8,rfl,hKL,hT8⟩
        obtain ⟨-,-,-,-,j8⟩:=(LB.took hT8).bY.five
        obtain ⟨-,-,-,-,o8⟩:=(LB.took hT8).bY.frozen5
        have LB:=LB.row hT8 hKL
        obtain ⟨V8,hV8⟩ : ∃ V8,w8.setCell ⟨Y,4,none⟩ (.slice a8 ps.len c8) = V8:=⟨_,rfl⟩
        rw [hV8] at LB
        clear hKL hT8 CP
        obtain ⟨-,-,j2,-,j4⟩:=LB.bY.five
        obtain ⟨-,-,o2,-,-⟩:=LB.bY.frozen5
        have LB:=LB.num (ps.len : Int)
        obtain ⟨V7,hV7⟩ : ∃ V7,V8.setCell ⟨Y,2,none⟩ (.int .i64 (ps.len : Int)) = V7:=⟨_,rfl⟩
        rw [hV7] at LB
        go_wp2_with fail
        refine (C18 _ LB.tk.rs).mono ?_;rintro e' w12 ⟨rfl,hT12⟩
        have LB:=LB.took hT12
        clear C18 hT12 hV7 j2 j4 o2
        obtain ⟨v0,v1,v2,v3,v4⟩:=LB.bY.five
        go_wp2_with fail
        have D:=LB.drew
        have CV:=CB _ D.tk.rs
        clear CB
        go_region_law (first | (refine step_goE (by rfl) 24 _ _ (by rfl) _ (by simp [Act.eval,Act.put]) enters24 CV ?_;rintro e' wb ⟨k3,t3,n3,p3,a3,c3,ks3,rfl,rfl,hTN,hTk⟩;refine ⟨_,rfl,?_⟩;obtain ⟨-,-,-,-,q4⟩:=(D.took hTk).bY.five;obtain ⟨-,-,-,-,q5⟩:=(D.took hTk).bY.fiveA) | (refine step_lb1 (by rfl) _ _ (by rfl) D hTk hTN HF.out.1 (by rfl) (by rfl) ?_;intro gg cc wc wF hwF L8 B8;obtain ⟨-,-,-,-,r4⟩:=B8.five;obtain ⟨-,-,-,-,g4⟩:=B8.frozen5))
        all_goals
          go_wp2_with fail
          refine (C4 _ L8.tk.rs).mono ?_;rintro e' w13 ⟨rfl,hT13⟩
          have LB:=L8.took hT13
          obtain ⟨z0,z1,z2,z3,z4⟩:=LB.bY.five
          obtain ⟨-,-,-,-,b4⟩:=LB.bx.five
          go_wp2_with (at_builtin;refine app_lb rfl _ _ rfl LB HF.out.2 rfl rfl ?_;intro g6 cc6 v6 wF6 hF6 L9 B6;obtain ⟨-,-,-,-,r6⟩:=B6.five;obtain ⟨-,-,-,-,g6'⟩:=B6.frozen5)
          have HLen : Hid ((f'.app (one 31 t5 (ps.len : Int) Z (ps.app (one k3 t3 n3 p3 ks3)))).len = f'.len + 1):=(by rw [F.len_app];rfl)
          go_roundg ((s6.needC T 4).l.length + 1)
          case measure=>omega
          case rel=>exact ⟨_,_,_,_,L9,HN,by have:=HLen.out;omega,by omega⟩
    | @st _ _ fs s1 _ _ ncl n1 n2 n3 h1 h4 =>
      rw [hZ] at h1
      have CS : ∀ W,RT b m T s' W → Calls Tryz.prog 51 #[.pointer (some ⟨b,0,none⟩),.int .i64 Z] W (RN b m T W s1 fs):=fun W h=>h1.cl b m W h
      have l1 : s'.c ≠ 56 → s1.l.length + 1 ≤ s'.l.length:=h1.pz.st he'
      have l2:=l1 (fun e=>ncl (.inl e))
      have HN : Hid (BkL T (CR T) c (f'.app fs) s1 g1 s2):=h4
      clear h1 h4 l1
      have K1:=fun W h=>take_n b m T s' 1 (by decide) (by decide) n1 W h
      rw [show wds 1 = [59] from rfl] at K1
      have K2:=fun W h=>take_n b m T s' 2 (by decide) (by decide) n2 W h
      rw [show wds 2 = [114,101,116,117,114,110] from rfl] at K2
      rw [decide_eq_false ncl] at CE
      go_wp2_with fail
      refine CE.mono ?_;rintro e' w2 ⟨rfl,hb2⟩
      have hL:=hL.below hb2
      go_wp2_with fail
      refine (C0 _ hL.tk.rs).mono ?_;rintro e' w3 ⟨rfl,hb3⟩
      have hL:=hL.below hb3
      clear CE C0 hb2 hb3
      go_wp2_with fail
      refine (K1 _ hL.tk.rs).mono ?_;rintro e' wt1 ⟨rfl,hT1⟩
      have hL:=hL.took hT1
      clear K1 hT1
      go_wp2_with fail
      refine (K2 _ hL.tk.rs).mono ?_;rintro e' wt2 ⟨rfl,hT2⟩
      have hL:=hL.took hT2
      clear K2 hT2
      have K3:=fun W h=>take_c b m T s' 3 (by decide) (by decide) W h
      rw [show wds 3 = [102,117,110,99,116,105,111,110] from rfl] at K3
      go_upto_region 12 with fail
      go_cut [47] from 12 to 90 (fun v47 wx=>v47 = .bool false ∧ Lk b m T s' W X 20 [] 0 P a' c' f' wx)
      case first =>
        cases c with
        | false =>
          go_wp2_with fail
          go_meet
          exact ⟨rfl,hL⟩
        | true =>
          have h3 : s'.c ≠ 3:=fun e=>n3 ⟨rfl,e⟩
          rw [decide_eq_false h3,if_neg h3] at K3
          go_wp2_with fail
          refine (K3 _ hL.tk.rs).mono ?_;rintro e' w4 ⟨rfl,hT4⟩
          have hL:=hL.took hT4
          go_wp2_with fail
          go_meet
          exact ⟨rfl,hL⟩
      case rest =>
        clear hL K3
        obtain ⟨rfl,hL⟩:=hcut
        obtain ⟨b0,b1,b2,b3,b4⟩:=hL.box.five
        go_wp2_with fail
        have D:=hL.drew
        have CV:=CS _ D.tk.rs
        have HB : Hid (f'.len ≤ 90000):=(by omega : f'.len ≤ 90000)
        go_region_law (first | (refine step_goE (by rfl) 51 _ _ (by rfl) _ (by simp [Act.eval,Act.put]) enters51 CV ?_;rintro e' wb ⟨k3,t3,n3',p3,a3,c3,ks3,rfl,rfl,hTN,hTk⟩;refine ⟨_,rfl,?_⟩;obtain ⟨-,-,-,-,q4⟩:=(D.took hTk).box.five;obtain ⟨-,-,-,-,q5⟩:=(D.took hTk).box.fiveA) | (refine step_lk1 (by rfl) _ _ (by rfl) D hTk hTN HB.out (by rfl) (by rfl) ?_;intro gg cc wc wF hwF L8 B8;obtain ⟨-,-,-,-,r4⟩:=B8.five;obtain ⟨-,-,-,-,g4⟩:=B8.frozen5))
        all_goals
          have HLen : Hid ((f'.app (one k3 t3 n3' p3 ks3)).len = f'.len + 1):=(by rw [F.len_app];rfl)
          go_wp2_with fail
          go_roundg (s1.l.length + 1)
          case measure=>omega
          case rel=>exact ⟨_,_,_,s1,L8,HN,by have:=HLen.out;omega,by omega⟩
end Go.Proofs.YtlgkfhipobdcfaaGreatDoor
