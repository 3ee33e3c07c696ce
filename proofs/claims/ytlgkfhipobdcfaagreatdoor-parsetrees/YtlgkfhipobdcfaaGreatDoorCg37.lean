import Derived.Test.YtlgkfhipobdcfaaGreatDoorCg36
namespace Go.Proofs.YtlgkfhipobdcfaaGreatDoor
open Go.RowKit
set_option maxRecDepth 20000
theorem enters24 : ∀ args w,(callFunc 24 args).run Tryz.prog w = .ok (.enter 24 args) w:=enters_of Tryz.func24 (by kernel_rfl) rfl
theorem KL.wide {E : TypeId} {P Q : Nat → Prop} {w : World} {v : Value} {f : F} (h : KL E P w v f) (hb : ∀ g,P g → g < w.heap.size → Q g) : KL E Q w v f:=by
  obtain ⟨xs,h1,h2,h3⟩:=h.out
  exact ⟨xs,h1,fun g hg=>hb g (h2 g hg) (h1.lt g hg).2,h3.mono fun g hg hl=>⟨hb g hg.1 hl,hg.2⟩⟩
section
variable {b m : Nat} {T : List Tok} {s s' : Sx} {W : World} {X : Nat} {k : Int} {t : List UInt8} {n p : Int} {v : Value} {a : Option Addr} {c : Nat} {f : F} {w w' : World}
theorem Lv.row (h : Lv b m T s W X #[.int .i64 k,.string ⟨t.toArray⟩,.int .i64 n,.int .i64 p,v] w) (hT : Tt b m T s' w w') (hk : KL 32 (fun g=>w.heap.size ≤ g) w' (.slice a f.len c) f) : Lk b m T s' W X k t n p a c f (w'.setCell ⟨X,4,none⟩ (.slice a f.len c)):=by
  have hlt:=h.lt
  have hX:=h.box.lt
  have h1:=h.took hT
  exact ⟨Tr.new h1.tk (by omega) hlt.2.1 _,h1.res.set (by omega) _,h1.box.put4 _,(hk.wide (Q:=fun g=>W.heap.size < g ∧ g ≠ X) fun g hg _=>⟨by omega,by omega⟩).keep fun g hg _=>Below.heap_setCell _ _ _ g hg.2,h.lt⟩
theorem Lk.num (h : Lk b m T s W X k t n p a c f w) (n' : Int) : Lk b m T s W X k t n' p a c f (w.setCell ⟨X,2,none⟩ (.int .i64 n')):=by
  have hlt:=h.lt
  exact ⟨Tr.new h.tk (by omega) hlt.2.1 _,h.res.set (by omega) _,h.box.put2 _,h.kl.keep fun g hg _=>Below.heap_setCell _ _ _ g hg.2,h.lt⟩
theorem step_lk2 {ops : Array Oper} {o : Oper} {ac : Act} {K : Act → World → Prop} {Q : Exit → Act → World → Prop} {E : Prop} {w1 : World} {ke : Int} {te : List UInt8} {ne pe : Int} {ve : Value} {kse : F} {a' : Option Addr} {c' : Nat} {ks : F} {k' : Int} {t' : List UInt8} {n' p' : Int} (hgd : o.guard = none) (sv x : Operand) (ho : o.op = .call { callee:=.builtin .append,args:=#[sv,x],argTypes:=#[30,30] })
    (h : Lk b m T s W X k t n p a c f w) (he : TN 32 w (fun g=>(W.heap.size < g ∧ g ≠ X) ∧ some g ≠ Value.ownBlock (.slice a f.len c)) ke te ne pe ve kse) (hT : Tt b m T s' w w1) (ht : TN 32 w1 (fun g=>w.heap.size ≤ g) k' t' n' p' (.slice a' ks.len c') ks) (hB : f.len ≤ 90000) (hs : ac.eval sv = .slice a f.len c) (hx : ac.eval x = .slice (some ⟨w1.heap.size,0,none⟩) 2 2)
    (hK : ∀ gg cc w2 wF,w2.setCell ⟨X,4,none⟩ (.slice (some ⟨gg,0,none⟩) (f.app ((one ke te ne pe kse).app (one k' t' n' p' ks))).len cc) = wF → Lk b m T s' W X k t n p (some ⟨gg,0,none⟩) cc (f.app ((one ke te ne pe kse).app (one k' t' n' p' ks))) wF → Bx X 32 #[.int .i64 k,.string ⟨t.toArray⟩,.int .i64 n,.int .i64 p,.slice a f.len c] w2 → K (ac.put o.dst (.slice (some ⟨gg,0,none⟩) (f.app ((one ke te ne pe kse).app (one k' t' n' p' ks))).len cc)) w2) :
    if Region.wanted o (yielded ops ac.tmps) = true then Oper.wp Tryz.prog o ac (w1.alloc (.cells #[.int .i64 ke,.string ⟨te.toArray⟩,.int .i64 ne,.int .i64 pe,ve,.int .i64 k',.string ⟨t'.toArray⟩,.int .i64 n',.int .i64 p',.slice a' ks.len c'] 32)) K Q else E:=by
  have h1:=(h.took hT).alloc (.cells #[.int .i64 ke,.string ⟨te.toArray⟩,.int .i64 ne,.int .i64 pe,ve,.int .i64 k',.string ⟨t'.toArray⟩,.int .i64 n',.int .i64 p',.slice a' ks.len c'] 32)
  have hlt:=h.lt
  have hX:=h.box.lt
  have hX1:=h1.box.lt
  have hsz:=hT.ky.size
  refine step_kl (n:=(one ke te ne pe kse).app (one k' t' n' p' ks)) (ad:=⟨w1.heap.size,0,none⟩) (news:=[.int .i64 ke,.string ⟨te.toArray⟩,.int .i64 ne,.int .i64 pe,ve,.int .i64 k',.string ⟨t'.toArray⟩,.int .i64 n',.int .i64 p',.slice a' ks.len c']) hgd sv x ho h1.kl (fun y hy=>by show W.heap.size < y ∧ y ≠ X;omega) (by show f.len + 2 ≤ _;omega) (by show 0 < 2;omega) ?_ hs hx (World.news_of_block (cs:=#[.int .i64 ke,.string ⟨te.toArray⟩,.int .i64 ne,.int .i64 pe,ve,.int .i64 k',.string ⟨t'.toArray⟩,.int .i64 n',.int .i64 p',.slice a' ks.len c']) (t:=32) (fr:=(0,0)) (Go.heap_alloc_new w1 _)) ?_
  · refine KF.app (xs:=[.int .i64 ke,.string ⟨te.toArray⟩,.int .i64 ne,.int .i64 pe,ve]) ?_ ?_
    · have e1:=(he.kf.mono (Q:=fun g=>((W.heap.size < g ∧ g ≠ X) ∧ some g ≠ Value.ownBlock (.slice a f.len c)) ∧ g < w.heap.size) fun g x y=>⟨x,y⟩).keep (w':=w1) fun g hg _=>hT.ky.block g hg.2 (fun e=>by omega)
      exact (e1.keep (w':=w1.alloc _) fun g hg _=>(World.grownBy_alloc w1 _ none).block g (by omega) (by simp)).mono fun g hg _=>hg.1
    · refine ((ht.kf.mono (Q:=fun g=>w.heap.size ≤ g ∧ g < w1.heap.size) fun g x y=>⟨x,y⟩).keep (w':=w1.alloc _) fun g hg _=>(World.grownBy_alloc w1 _ none).block g hg.2 (by simp)).mono fun g hg _=>⟨⟨by omega,by omega⟩,fun e=>?_⟩
      have:=h.own_lt g e.symm
      omega
  · intro gg cc w2 hkl hky
    obtain ⟨wF,e,h3,h4⟩:=h1.grown hkl hky
    exact hK gg cc w2 wF e h3 h4
end
theorem F.app_assoc' (a b c : F) : (a.app b).app c = a.app (b.app c):=by
  induction a with
  | nil=>rfl
  | cons k t n p ks r _ ih=>show F.cons k t n p ks _ = F.cons k t n p ks _;rw [ih]
def EndI (T : List Tok) (g1 : F) (s2 : Sx) (f' : F) (s' : Sx) : Prop:=(s'.c = 5 ∧ ∃ b2 s4,CR T (.blk false) s'.tl b2 s4 ∧ g1 = f'.app b2 ∧ s2 = s4.needC T 4) ∨ (s'.c ≠ 5 ∧ g1 = f' ∧ s2 = s'.needC T 4)
set_option maxHeartbeats 16000000 in
theorem rstat_any (b m : Nat) (T : List Tok) (hE : Ends T) (p : Int) (s : Sx) (g : F) (s2 : Sx) (hS : Stp T (CR T) (.stat p) s g s2) (W : World) (h : RT b m T s W) : Calls Tryz.prog 51 #[.pointer (some ⟨b,0,none⟩),.int .i64 p] W (RN b m T W s2 g):=by
  have hlt:=RT.lt h
  obtain ⟨hes,hsm⟩:=RT.sm h
  have B0:=Bx.new W 32 #[.int .i64 0,.string ⟨#[]⟩,.int .i64 0,.int .i64 0,.slice none 0 0]
  have T0:=Tr.alloc (RS.tr h) (.cells #[.int .i64 0,.string ⟨#[]⟩,.int .i64 0,.int .i64 0,.slice none 0 0] 32)
  obtain ⟨A,hA⟩ : ∃ A,W.alloc (.cells #[.int .i64 0,.string ⟨#[]⟩,.int .i64 0,.int .i64 0,.slice none 0 0] 32) = A:=⟨_,rfl⟩
  rw [hA] at B0 T0
  have LL:=(Lk.begin T0 B0 hlt 0 [] 0 p).lv
  obtain ⟨X,hX⟩ : ∃ X,A.heap.size = X:=⟨_,rfl⟩
  obtain ⟨V2,hV2⟩ : ∃ V2,A.alloc (.cells #[.int .i64 0,.string ⟨#[]⟩,.int .i64 0,.int .i64 p,.slice none 0 0] 32) = V2:=⟨_,rfl⟩
  have LL : Lv b m T s W X #[.int .i64 0,.string ⟨#[]⟩,.int .i64 0,.int .i64 p,.slice none 0 0] V2:=by rw [← hV2,← hX];exact LL
  have HV2 : Hid (A.alloc (.cells #[.int .i64 0,.string ⟨#[]⟩,.int .i64 0,.int .i64 p,.slice none 0 0] 32) = V2):=hV2
  have hX2 : W.heap.size + 1 = X:=by rw [← hX,← hA];simp
  have HS : Hid (Stp T (CR T) (.stat p) s g s2):=hS
  clear B0 T0 hV2 hS
  go_enter Tryz.func51,Tryz.ntmps51
  go_upto_region 3 with fail
  rw [HV2.out]
  try rw [hX2]
  clear HV2 hX hA
  have hS:=HS.out
  clear HS
  cases hS with
  | @sdo _ _ bb _ hf' hc h1 =>
    have CB : ∀ W,RT b m T s W → Calls Tryz.prog 73 #[.pointer (some ⟨b,0,none⟩)] W (RN b m T W s2 bb):=fun W h=>h1.cl b m W h
    clear h1
    have K7:=fun W h=>see_n b m T s 7 (by decide) (by decide) W h
    rw [show wds 7 = [100,111] from rfl,decide_eq_true hc] at K7
    go_wp2_with fail
    refine (K7 _ LL.tk.rs).mono ?_;rintro e' w7 ⟨rfl,hb7⟩
    have LL:=LL.below hb7
    clear K7 hb7
    obtain ⟨v0,v1,v2,v3,v4⟩:=LL.box.five
    obtain ⟨z0,z1,z2,z3,z4⟩:=LL.box.frozen5
    have L3 : Lv b m T s W X #[.int .i64 28,.string ⟨#[]⟩,.int .i64 0,.int .i64 p,.slice none 0 0] _:=LL.set 0 (.int .i64 28)
    obtain ⟨V3,hV3⟩ : ∃ V3,w7.setCell ⟨X,0,none⟩ (.int .i64 28) = V3:=⟨_,rfl⟩
    rw [hV3] at L3
    clear LL
    go_wp2_with fail
    refine (CB _ L3.tk.rs).mono ?_;rintro e w4 ⟨k4,t4,n4,p4,a4,c4,ks4,rfl,rfl,hTN,hT4⟩
    have hX3:=L3.box.lt
    have hl3:=L3.lt
    have D3:=L3.took hT4
    have L5:=Lv.kid (t:=[]) (q:=1) (cur:=#[.int .i64 k4,.string ⟨t4.toArray⟩,.int .i64 n4,.int .i64 p4,.slice a4 ks4.len c4]) D3 (hTN.kf.mono fun g hg _=>⟨by omega,by omega⟩) rfl (by unfold maxLen;omega)
    obtain ⟨V5,hV5⟩ : ∃ V5,w4.alloc (.cells #[.int .i64 k4,.string ⟨t4.toArray⟩,.int .i64 n4,.int .i64 p4,.slice a4 ks4.len c4] 32) = V5:=⟨_,rfl⟩
    obtain ⟨-,-,-,-,p4'⟩:=D3.box.fiveA
    obtain ⟨-,-,-,-,o4'⟩:=D3.box.frozen5A
    replace p4':=p4' (.cells #[.int .i64 k4,.string ⟨t4.toArray⟩,.int .i64 n4,.int .i64 p4,.slice a4 ks4.len c4] 32)
    replace o4':=o4' (.cells #[.int .i64 k4,.string ⟨t4.toArray⟩,.int .i64 n4,.int .i64 p4,.slice a4 ks4.len c4] 32)
    rw [hV5] at L5 p4' o4'
    obtain ⟨V6,hV6⟩ : ∃ V6,V5.setCell ⟨X,4,none⟩ (.slice (some ⟨w4.heap.size,0,none⟩) 1 1) = V6:=⟨_,rfl⟩
    rw [hV6] at L5
    clear hX3 hTN hT4 L3 D3 CB
    clear v0 v1 v2 v3 v4 z0 z1 z2 z3 z4 hV3
    obtain ⟨x0,x1,x2,x3,x4⟩:=L5.box.five
    obtain ⟨q0,q1,q2,q3,q4⟩:=L5.res.five
    obtain ⟨m0,m1,m2,m3,m4⟩:=L5.res.frozen5
    replace x4 : V6.cell? ⟨X,4,none⟩ = some (.slice (some ⟨w4.heap.size,0,none⟩) 1 1):=x4
    go_wp2_with fail
    obtain ⟨y0,y1,y2,y3,y4⟩:=(L5.res.five_put (.int .i64 28) (.string ⟨#[]⟩) (.int .i64 0) (.int .i64 p) (.slice (some ⟨w4.heap.size,0,none⟩) 1 1)).five
    refine bodyPost_ret (v:=.agg #[.int .i64 28,.string ⟨#[]⟩,.int .i64 0,.int .i64 p,.slice (some ⟨w4.heap.size,0,none⟩) 1 1]) (by simp [results,Tryz.results51,go_sem,y0,y1,y2,y3,y4]) rfl ?_
    exact L5.lr.tell'
  | @swh _ _ ee s1 bb _ hf' hc h1 h2 =>
    have CE : ∀ W,RT b m T s.tl W → Calls Tryz.prog 72 #[.pointer (some ⟨b,0,none⟩),.int .i64 1] W (RN b m T W s1 ee):=fun W h=>h1.cl b m W h
    have CB : ∀ W,RT b m T s1 W → Calls Tryz.prog 73 #[.pointer (some ⟨b,0,none⟩)] W (RN b m T W s2 bb):=fun W h=>h2.cl b m W h
    clear h1 h2
    have K7:=fun W h=>see_n b m T s 7 (by decide) (by decide) W h
    rw [show wds 7 = [100,111] from rfl,decide_eq_false (by rw [hc];decide)] at K7
    have K8:=fun W h=>take_y b m T s 8 (by decide) (by decide) hc W h
    rw [show wds 8 = [119,104,105,108,101] from rfl] at K8
    go_wp2_with fail
    refine (K7 _ LL.tk.rs).mono ?_;rintro e' w7 ⟨rfl,hb7⟩
    have LL:=LL.below hb7
    clear K7 hb7
    go_wp2_with fail
    refine (K8 _ LL.tk.rs).mono ?_;rintro e' w8 ⟨rfl,hT8⟩
    have LL:=LL.took hT8
    clear K8 hT8
    obtain ⟨v0,v1,v2,v3,v4⟩:=LL.box.five
    obtain ⟨z0,z1,z2,z3,z4⟩:=LL.box.frozen5
    have L3 : Lv b m T s.tl W X #[.int .i64 25,.string ⟨#[]⟩,.int .i64 0,.int .i64 p,.slice none 0 0] _:=LL.set 0 (.int .i64 25)
    obtain ⟨V3,hV3⟩ : ∃ V3,w8.setCell ⟨X,0,none⟩ (.int .i64 25) = V3:=⟨_,rfl⟩
    rw [hV3] at L3
    clear LL
    go_wp2_with fail
    refine (CE _ L3.tk.rs).mono ?_;rintro e w4 ⟨k4,t4,n4,p4,a4,c4,ks4,rfl,rfl,hTN,hT4⟩
    have hX3:=L3.box.lt
    have hl3:=L3.lt
    have hX4:=hT4.ky.size
    have D3:=(L3.took hT4).alloc (.cells #[.int .i64 k4,.string ⟨t4.toArray⟩,.int .i64 n4,.int .i64 p4,.slice a4 ks4.len c4] 32)
    have BY:=Bx.new w4 32 #[.int .i64 k4,.string ⟨t4.toArray⟩,.int .i64 n4,.int .i64 p4,.slice a4 ks4.len c4]
    have N4:=(hTN.mono (Q:=fun g=>W.heap.size < g ∧ g ≠ X) fun g hg _=>⟨by omega,by omega⟩).alloc (.cells #[.int .i64 k4,.string ⟨t4.toArray⟩,.int .i64 n4,.int .i64 p4,.slice a4 ks4.len c4] 32)
    have hYb : w4.heap.size ≠ b:=by omega
    obtain ⟨Y,hY⟩ : ∃ Y,w4.heap.size = Y:=⟨_,rfl⟩
    obtain ⟨V4,hV4⟩ : ∃ V4,w4.alloc (.cells #[.int .i64 k4,.string ⟨t4.toArray⟩,.int .i64 n4,.int .i64 p4,.slice a4 ks4.len c4] 32) = V4:=⟨_,rfl⟩
    rw [hV4] at D3 BY N4
    rw [hY] at BY hYb
    have HV4 : Hid (w4.alloc (.cells #[.int .i64 k4,.string ⟨t4.toArray⟩,.int .i64 n4,.int .i64 p4,.slice a4 ks4.len c4] 32) = V4):=hV4
    clear hX3 hX4 hTN hT4 L3 CE hV4
    clear v0 v1 v2 v3 v4 z0 z1 z2 z3 z4 hV3
    go_upto_region 9 with fail
    rw [HV4.out]
    clear HV4
    have D:=D3.drew
    have BY:=BY.drew
    have N:=N4.keep (w':=V4.drew) fun _ _ _=>rfl
    obtain ⟨v0,v1,v2,v3,v4⟩:=BY.five
    clear D3 N4
    go_region_with (go_at_call 73;refine (CB _ D.tk.rs).mono ?_;rintro e' w5 ⟨k5,t5,n5,p5,a5,c5,ks5,rfl,rfl,hTN,hT⟩;have hX3:=D.box.lt;have L5:=D.took hT;have N5:=(hTN.mono (Q:=fun g=>W.heap.size < g ∧ g ≠ X) (fun g hg _=>⟨by omega,by omega⟩));have M5:=N.ky hT.ky (by omega);obtain ⟨u0,u1,u2,u3,u4⟩:=(BY.ky hT.ky hYb).five;obtain ⟨uA0,uA1,uA2,uA3,uA4⟩:=L5.box.fiveA;obtain ⟨uf0,uf1,uf2,uf3,uf4⟩:=L5.box.frozen5A;have L6:=Lv.kid (t:=[]) (q:=2) (cur:=#[.int .i64 k4,.string ⟨t4.toArray⟩,.int .i64 n4,.int .i64 p4,.slice a4 ks4.len c4,.int .i64 k5,.string ⟨t5.toArray⟩,.int .i64 n5,.int .i64 p5,.slice a5 ks5.len c5]) L5 (M5.kf.app N5.kf) rfl (by unfold maxLen;omega);obtain ⟨V6,hV6⟩ : ∃ V6,(w5.alloc (.cells #[.int .i64 k4,.string ⟨t4.toArray⟩,.int .i64 n4,.int .i64 p4,.slice a4 ks4.len c4,.int .i64 k5,.string ⟨t5.toArray⟩,.int .i64 n5,.int .i64 p5,.slice a5 ks5.len c5] 32)).setCell ⟨X,4,none⟩ (.slice (some ⟨w5.heap.size,0,none⟩) 2 2) = V6:=⟨_,rfl⟩;rw [hV6] at L6;clear hX3 N5 M5)
    all_goals
      clear D BY N v0 v1 v2 v3 v4 hTN hT L5
      obtain ⟨x0,x1,x2,x3,x4⟩:=L6.box.five
      obtain ⟨q0,q1,q2,q3,q4⟩:=L6.res.five
      obtain ⟨m0,m1,m2,m3,m4⟩:=L6.res.frozen5
      replace x4 : V6.cell? ⟨X,4,none⟩ = some (.slice (some ⟨w5.heap.size,0,none⟩) 2 2):=x4
      go_wp2_with fail
      obtain ⟨y0,y1,y2,y3,y4⟩:=(L6.res.five_put (.int .i64 25) (.string ⟨#[]⟩) (.int .i64 0) (.int .i64 p) (.slice (some ⟨w5.heap.size,0,none⟩) 2 2)).five
      refine bodyPost_ret (v:=.agg #[.int .i64 25,.string ⟨#[]⟩,.int .i64 0,.int .i64 p,.slice (some ⟨w5.heap.size,0,none⟩) 2 2]) (by simp [results,Tryz.results51,go_sem,y0,y1,y2,y3,y4]) rfl ?_
      exact L6.lr.tell'
  | @sif _ _ g1 _ hf' hc h1 =>
    obtain ⟨e1,l1⟩:=Sx.tl_e hes (by rw [hc];decide)
    have HI : Hid (IfsL T (CR T) .nil s.tl g1 s2):=h1
    clear h1
    have K7:=fun W h=>see_n b m T s 7 (by decide) (by decide) W h
    rw [show wds 7 = [100,111] from rfl,decide_eq_false (by rw [hc];decide)] at K7
    have K8:=fun W h=>take_n b m T s 8 (by decide) (by decide) (by rw [hc];decide) W h
    rw [show wds 8 = [119,104,105,108,101] from rfl] at K8
    have K9:=fun W h=>take_y b m T s 9 (by decide) (by decide) hc W h
    rw [show wds 9 = [105,102] from rfl] at K9
    go_wp2_with fail
    refine (K7 _ LL.tk.rs).mono ?_;rintro e' w7 ⟨rfl,hb7⟩
    have LL:=LL.below hb7
    clear K7 hb7
    go_wp2_with fail
    refine (K8 _ LL.tk.rs).mono ?_;rintro e' w8 ⟨rfl,hT8⟩
    have LL:=LL.took hT8
    clear K8 hT8
    go_wp2_with fail
    refine (K9 _ LL.tk.rs).mono ?_;rintro e' w9 ⟨rfl,hT9⟩
    have LL:=LL.took hT9
    clear K9 hT9
    obtain ⟨v0,v1,v2,v3,v4⟩:=LL.box.five
    obtain ⟨z0,z1,z2,z3,z4⟩:=LL.box.frozen5
    have L3 : Lv b m T s.tl W X #[.int .i64 24,.string ⟨#[]⟩,.int .i64 0,.int .i64 p,.slice none 0 0] _:=LL.set 0 (.int .i64 24)
    obtain ⟨V3,hV3⟩ : ∃ V3,w9.setCell ⟨X,0,none⟩ (.int .i64 24) = V3:=⟨_,rfl⟩
    rw [hV3] at L3
    clear LL
    have L4 : Lk b m T s.tl W X 24 [] 0 p none 0 F.nil V3:=Lv.lk (t:=[]) L3
    clear L3
    go_wp2_with fail
    go_loopg [7] 20010 (fun gf v7 wx=>∃ (f' : F) (s' : Sx) (a' : Option Addr) (c' : Nat),Lk b m T s' W X 24 [] 0 p a' c' f' wx ∧ (v7 = .bool true ∧ Hid (IfsL T (CR T) f' s' g1 s2) ∧ f'.len + 2 * s'.l.length ≤ 40020 ∧ s'.l.length + 1 < gf ∨ v7 = .bool false ∧ Hid (EndI T g1 s2 f' s') ∧ f'.len ≤ 40030 ∧ 0 < gf))
    case atStart=>exact ⟨.nil,s.tl,none,0,L4,.inl ⟨rfl,HI,by show 0 + _ ≤ _;omega,by omega⟩⟩
    case round =>
      clear L4 HI v0 v1 v2 v3 v4 z0 z1 z2 z3 z4 hV3
      obtain ⟨f',s',a',c',hL,hor⟩:=hrel
      rcases hor with ⟨rfl,HN,hfw,hfu⟩ | ⟨rfl,HE,hfw,hfu⟩
      · have hn:=HN.out
        clear HN
        obtain ⟨he',hs'⟩:=RT.sm hL.tk.rs
        obtain ⟨ee,s1,bb,s3,h1,h2,hk⟩ : ∃ ee s1 bb s3,CR T (.exp 1) s' ee s1 ∧ CR T (.blk false) (s1.needC T 13) bb s3 ∧ (s3.c = 6 ∧ IfsL T (CR T) ((f'.app ee).app bb) s3.tl g1 s2 ∨ s3.c ≠ 6 ∧ EndI T g1 s2 ((f'.app ee).app bb) s3):=by
          cases hn with
          | elif h1 h2 h h3=>exact ⟨_,_,_,_,h1,h2,.inl ⟨h,h3⟩⟩
          | els h1 h2 h h3=>exact ⟨_,_,_,_,h1,h2,.inr ⟨by rw [h];decide,.inl ⟨h,_,_,h3,rfl,rfl⟩⟩⟩
          | done h1 h2 h h'=>exact ⟨_,_,_,_,h1,h2,.inr ⟨h,.inr ⟨h',rfl,rfl⟩⟩⟩
        have CE : ∀ W,RT b m T s' W → Calls Tryz.prog 72 #[.pointer (some ⟨b,0,none⟩),.int .i64 1] W (RN b m T W s1 ee):=fun W h=>h1.cl b m W h
        have C13:=fun W h=>need_n b m T s1 13 (by decide) (by decide) W h
        rw [show wds 13 = [116,104,101,110] from rfl] at C13
        have CB : ∀ W,RT b m T (s1.needC T 13) W → Calls Tryz.prog 24 #[.pointer (some ⟨b,0,none⟩),.bool false] W (RN b m T W s3 bb):=fun W h=>h2.cl b m W h
        have l2:=h1.pz.len he'
        obtain ⟨e3,l3⟩:=need_e2 hE (h1.pz.ends he') 13 (by decide)
        have l4:=h2.pz.len e3
        have e4:=h2.pz.ends e3
        have HK : Hid (s3.c = 6 ∧ IfsL T (CR T) ((f'.app ee).app bb) s3.tl g1 s2 ∨ s3.c ≠ 6 ∧ EndI T g1 s2 ((f'.app ee).app bb) s3):=hk
        clear h1 h2 hk hn
        go_wp2_with fail
        refine (CE _ hL.tk.rs).mono ?_;rintro e w4 ⟨k4,t4,n4,p4,a4,c4,ks4,rfl,rfl,hTN,hT4⟩
        have hX3:=hL.box.lt
        have hl3:=hL.lt
        have hX4:=hT4.ky.size
        have hown:=hL.own_lt
        have D3:=(hL.took hT4).alloc (.cells #[.int .i64 k4,.string ⟨t4.toArray⟩,.int .i64 n4,.int .i64 p4,.slice a4 ks4.len c4] 32)
        have BY:=Bx.new w4 32 #[.int .i64 k4,.string ⟨t4.toArray⟩,.int .i64 n4,.int .i64 p4,.slice a4 ks4.len c4]
        have N4:=(hTN.mono (Q:=fun g=>(W.heap.size < g ∧ g ≠ X) ∧ some g ≠ Value.ownBlock (.slice a' f'.len c')) fun g hg _=>⟨⟨by omega,by omega⟩,fun e=>by have:=hown g e.symm;omega⟩).alloc (.cells #[.int .i64 k4,.string ⟨t4.toArray⟩,.int .i64 n4,.int .i64 p4,.slice a4 ks4.len c4] 32)
        have hYb : w4.heap.size ≠ b:=by omega
        obtain ⟨Y,hY⟩ : ∃ Y,w4.heap.size = Y:=⟨_,rfl⟩
        obtain ⟨V4,hV4⟩ : ∃ V4,w4.alloc (.cells #[.int .i64 k4,.string ⟨t4.toArray⟩,.int .i64 n4,.int .i64 p4,.slice a4 ks4.len c4] 32) = V4:=⟨_,rfl⟩
        rw [hV4] at D3 BY N4
        rw [hY] at BY hYb
        have HV4 : Hid (w4.alloc (.cells #[.int .i64 k4,.string ⟨t4.toArray⟩,.int .i64 n4,.int .i64 p4,.slice a4 ks4.len c4] 32) = V4):=hV4
        clear hX3 hX4 hTN hT4 hL CE hV4 hown
        go_wp2_with fail
        rw [HV4.out]
        refine (C13 _ D3.tk.rs).mono ?_;rintro e w5 ⟨rfl,hT5⟩
        have D:=(D3.took hT5).drew
        have BY:=(BY.ky hT5.ky hYb).drew
        have N:=(N4.ky hT5.ky (by omega)).keep (w':=w5.drew) fun _ _ _=>rfl
        obtain ⟨v0,v1,v2,v3,v4⟩:=BY.five
        obtain ⟨b0,b1,b2,b3,b4⟩:=D.box.five
        clear D3 N4 HV4 hT5 C13
        have CV:=CB _ D.tk.rs
        have HB : Hid (f'.len ≤ 90000):=(by omega : f'.len ≤ 90000)
        clear CB
        go_wp2_with fail
        go_region_law (first | (refine step_goE (by rfl) 24 _ _ (by rfl) _ (by simp [Act.eval,Act.put]) enters24 CV ?_;rintro e' wb ⟨k3,t3,n3,p3,a3,c3,ks3,rfl,rfl,hTN,hTk⟩;refine ⟨_,rfl,?_⟩;obtain ⟨-,-,-,-,q4⟩:=(D.took hTk).box.five;obtain ⟨-,-,-,-,q5⟩:=(D.took hTk).box.fiveA;obtain ⟨u0,u1,u2,u3,u4⟩:=(BY.ky hTk.ky hYb).five) | (refine step_lk2 (by rfl) _ _ (by rfl) D N hTk hTN HB.out (by rfl) (by rfl) ?_;intro gg cc wc wF hwF L8 B8;obtain ⟨-,-,-,-,r4⟩:=B8.five;obtain ⟨-,-,-,-,g4⟩:=B8.frozen5))
        all_goals
          have C6:=fun W h=>take_c b m T s3 6 (by decide) (by decide) W h
          rw [show wds 6 = [101,108,115,101,105,102] from rfl] at C6
          have hk:=HK.out
          rw [F.app_assoc'] at hk
          have hlen : (f'.app ((one k4 t4 n4 p4 ks4).app (one k3 t3 n3 p3 ks3))).len = f'.len + 2:=by rw [F.len_app];rfl
          have HLen : Hid ((f'.app ((one k4 t4 n4 p4 ks4).app (one k3 t3 n3 p3 ks3))).len = f'.len + 2):=hlen
          clear hlen
          rcases hk with ⟨h6,hI⟩ | ⟨h6,hI⟩
          · rw [decide_eq_true h6,if_pos h6] at C6
            obtain ⟨e5,l5⟩:=Sx.tl_e e4 (by rw [h6];decide)
            have HI2 : Hid (IfsL T (CR T) (f'.app ((one k4 t4 n4 p4 ks4).app (one k3 t3 n3 p3 ks3))) s3.tl g1 s2):=hI
            clear hI
            go_wp2_with fail
            refine (C6 _ L8.tk.rs).mono ?_;rintro e' w9 ⟨rfl,hT9⟩
            have L9:=L8.took hT9
            go_wp2_with fail
            go_roundg (s3.tl.l.length + 2)
            case measure=>omega
            case rel=>exact ⟨_,_,_,_,L9,.inl ⟨rfl,HI2,by have:=HLen.out;omega,by omega⟩⟩
          · rw [decide_eq_false h6,if_neg h6] at C6
            have HI2:=hI
            clear hI
            go_wp2_with fail
            refine (C6 _ L8.tk.rs).mono ?_;rintro e' w9 ⟨rfl,hT9⟩
            have L9:=L8.took hT9
            go_wp2_with fail
            go_roundg 1
            case measure=>omega
            case rel=>exact ⟨_,_,_,_,L9,.inr ⟨rfl,HI2,by have:=HLen.out;omega,by omega⟩⟩
      · have hend:=HE.out
        clear HE
        rcases hend with ⟨h5,b2,s4,hB,rfl,rfl⟩ | ⟨h5,rfl,rfl⟩
        · have C5:=take_y b m T s' 5 (by decide) (by decide) h5 wr hL.tk.rs
          rw [show wds 5 = [101,108,115,101] from rfl] at C5
          have CB : ∀ W,RT b m T s'.tl W → Calls Tryz.prog 24 #[.pointer (some ⟨b,0,none⟩),.bool false] W (RN b m T W s4 b2):=fun W h=>hB.cl b m W h
          have C4:=fun W h=>need_n b m T s4 4 (by decide) (by decide) W h
          rw [show wds 4 = [101,110,100] from rfl] at C4
          clear hB
          go_wp2_with fail
          refine C5.mono ?_;rintro e' w3 ⟨rfl,hT3⟩
          have L7:=hL.took hT3
          clear hL C5 hT3
          obtain ⟨b0,b1,b2',b3,b4⟩:=L7.box.five
          go_wp2_with fail
          have D:=L7.drew
          have CV:=CB _ D.tk.rs
          have HB : Hid (f'.len ≤ 90000):=(by omega : f'.len ≤ 90000)
          clear hfw CB
          go_region_law (first | (refine step_goE (by rfl) 24 _ _ (by rfl) _ (by simp [Act.eval,Act.put]) enters24 CV ?_;rintro e' wb ⟨k3,t3,n3,p3,a3,c3,ks3,rfl,rfl,hTN,hTk⟩;refine ⟨_,rfl,?_⟩;obtain ⟨-,-,-,-,q4⟩:=(D.took hTk).box.five;obtain ⟨-,-,-,-,q5⟩:=(D.took hTk).box.fiveA) | (refine step_lk1 (by rfl) _ _ (by rfl) D hTk hTN HB.out (by rfl) (by rfl) ?_;intro gg cc wc wF hwF L8 B8;obtain ⟨-,-,-,-,r4⟩:=B8.five;obtain ⟨-,-,-,-,g4⟩:=B8.frozen5))
          all_goals
            go_wp2_with fail
            refine (C4 _ L8.tk.rs).mono ?_;rintro e' w9 ⟨rfl,hT9⟩
            have L9:=L8.took hT9
            obtain ⟨x0,x1,x2,x3,x4⟩:=L9.box.five
            obtain ⟨q0,q1,q2,q3,q4⟩:=L9.res.five
            obtain ⟨m0,m1,m2,m3,m4⟩:=L9.res.frozen5
            go_wp2_with fail
            obtain ⟨y0,y1,y2,y3,y4⟩:=(L9.res.five_put (.int .i64 24) (.string ⟨#[]⟩) (.int .i64 0) (.int .i64 p) ((.slice (some ⟨gg,0,none⟩) (f'.app (one k3 t3 n3 p3 ks3)).len cc))).five
            refine bodyPost_ret (v:=.agg #[.int .i64 24,.string ⟨#[]⟩,.int .i64 0,.int .i64 p,(.slice (some ⟨gg,0,none⟩) (f'.app (one k3 t3 n3 p3 ks3)).len cc)]) (by simp [results,Tryz.results51,go_sem,y0,y1,y2,y3,y4]) rfl ?_
            exact L9.lr.tell'
        · have C5:=take_n b m T s' 5 (by decide) (by decide) h5 wr hL.tk.rs
          rw [show wds 5 = [101,108,115,101] from rfl] at C5
          have C4:=fun W h=>need_n b m T s' 4 (by decide) (by decide) W h
          rw [show wds 4 = [101,110,100] from rfl] at C4
          go_wp2_with fail
          refine C5.mono ?_;rintro e' w3 ⟨rfl,hT3⟩
          have L7:=hL.took hT3
          clear hL C5 hT3
          go_wp2_with fail
          refine (C4 _ L7.tk.rs).mono ?_;rintro e' w9 ⟨rfl,hT9⟩
          have L9:=L7.took hT9
          obtain ⟨x0,x1,x2,x3,x4⟩:=L9.box.five
          obtain ⟨q0,q1,q2,q3,q4⟩:=L9.res.five
          obtain ⟨m0,m1,m2,m3,m4⟩:=L9.res.frozen5
          go_wp2_with fail
          obtain ⟨y0,y1,y2,y3,y4⟩:=(L9.res.five_put (.int .i64 24) (.string ⟨#[]⟩) (.int .i64 0) (.int .i64 p) ((.slice a' g1.len c'))).five
          refine bodyPost_ret (v:=.agg #[.int .i64 24,.string ⟨#[]⟩,.int .i64 0,.int .i64 p,(.slice a' g1.len c')]) (by simp [results,Tryz.results51,go_sem,y0,y1,y2,y3,y4]) rfl ?_
          exact L9.lr.tell'
  | sfo hf' hc h1 =>
    have CL : ∀ W,RT b m T s.tl W → Calls Tryz.prog 74 #[.pointer (some ⟨b,0,none⟩),.int .i64 p] W (RN b m T W s2 g):=fun W h=>h1.cl b m W h
    clear h1
    have K7:=fun W h=>see_n b m T s 7 (by decide) (by decide) W h
    rw [show wds 7 = [100,111] from rfl,decide_eq_false (by rw [hc];decide)] at K7
    have K8:=fun W h=>take_n b m T s 8 (by decide) (by decide) (by rw [hc];decide) W h
    rw [show wds 8 = [119,104,105,108,101] from rfl] at K8
    have K9:=fun W h=>take_n b m T s 9 (by decide) (by decide) (by rw [hc];decide) W h
    rw [show wds 9 = [105,102] from rfl] at K9
    have K10:=fun W h=>take_y b m T s 10 (by decide) (by decide) hc W h
    rw [show wds 10 = [102,111,114] from rfl] at K10
    go_wp2_with fail
    refine (K7 _ LL.tk.rs).mono ?_;rintro e' w7 ⟨rfl,hb7⟩
    have LL:=LL.below hb7
    clear K7 hb7
    go_wp2_with fail
    refine (K8 _ LL.tk.rs).mono ?_;rintro e' w8 ⟨rfl,hT8⟩
    have LL:=LL.took hT8
    clear K8 hT8
    go_wp2_with fail
    refine (K9 _ LL.tk.rs).mono ?_;rintro e' w9 ⟨rfl,hT9⟩
    have LL:=LL.took hT9
    clear K9 hT9
    go_wp2_with fail
    refine (K10 _ LL.tk.rs).mono ?_;rintro e' w10 ⟨rfl,hT10⟩
    have LL:=LL.took hT10
    clear K10 hT10
    go_wp2_with fail
    refine (CL _ LL.tk.rs).mono ?_;rintro e' w9 ⟨k3,t3,n3,p3,a3,c3,ks3,e3,rfl,hTN,hT9⟩
    have D4:=LL.took hT9
    obtain ⟨q0,q1,q2,q3,q4⟩:=D4.res.five
    obtain ⟨m0,m1,m2,m3,m4⟩:=D4.res.frozen5
    have hX9:=LL.res.lt
    go_wp2_with fail
    obtain ⟨y0,y1,y2,y3,y4⟩:=(D4.res.five_put (.int .i64 k3) (.string ⟨t3.toArray⟩) (.int .i64 n3) (.int .i64 p3) (.slice a3 ks3.len c3)).five
    refine bodyPost_ret (v:=(.agg #[.int .i64 (k3),.string ⟨(t3).toArray⟩,.int .i64 (n3),.int .i64 (p3),.slice a3 ks3.len c3])) (by simp [results,Tryz.results51,go_sem,y0,y1,y2,y3,y4]) rfl ?_
    exact ⟨k3,t3,n3,p3,a3,c3,ks3,e3,rfl,(hTN.five (X:=W.heap.size) (by omega) _ _ _ _ _).mono fun g hg _=>by omega,Tr.five D4.tk (Nat.le_refl _) hlt.2 _ _ _ _ _⟩
  | @slo _ _ ns _ hf' hc h1 h2 =>
    have CN : ∀ W,RT b m T s.tl W → Calls Tryz.prog 50 #[.pointer (some ⟨b,0,none⟩)] W (RL b m T W s2 ns):=fun W h=>h1.cl b m W h
    obtain ⟨e1,l1⟩:=Sx.tl_e hes (by rw [hc];decide)
    have l2:=h1.pz.len e1
    obtain ⟨r1,r2⟩:=h1.pz.row e1
    have e2:=h1.pz.ends e1
    have K14:=fun W h=>take_n b m T s2 14 (by decide) (by decide) h2 W h
    rw [show wds 14 = [61] from rfl] at K14
    clear h1
    have K7:=fun W h=>see_n b m T s 7 (by decide) (by decide) W h
    rw [show wds 7 = [100,111] from rfl,decide_eq_false (by rw [hc];decide)] at K7
    have K8:=fun W h=>take_n b m T s 8 (by decide) (by decide) (by rw [hc];decide) W h
    rw [show wds 8 = [119,104,105,108,101] from rfl] at K8
    have K9:=fun W h=>take_n b m T s 9 (by decide) (by decide) (by rw [hc];decide) W h
    rw [show wds 9 = [105,102] from rfl] at K9
    have K10:=fun W h=>take_n b m T s 10 (by decide) (by decide) (by rw [hc];decide) W h
    rw [show wds 10 = [102,111,114] from rfl] at K10
    have K11:=fun W h=>take_y b m T s 11 (by decide) (by decide) hc W h
    rw [show wds 11 = [108,111,99,97,108] from rfl] at K11
    go_wp2_with fail
    refine (K7 _ LL.tk.rs).mono ?_;rintro e' w7 ⟨rfl,hb7⟩
    have LL:=LL.below hb7
    clear K7 hb7
    go_wp2_with fail
    refine (K8 _ LL.tk.rs).mono ?_;rintro e' w8 ⟨rfl,hT8⟩
    have LL:=LL.took hT8
    clear K8 hT8
    go_wp2_with fail
    refine (K9 _ LL.tk.rs).mono ?_;rintro e' w9 ⟨rfl,hT9⟩
    have LL:=LL.took hT9
    clear K9 hT9
    go_wp2_with fail
    refine (K10 _ LL.tk.rs).mono ?_;rintro e' w10 ⟨rfl,hT10⟩
    have LL:=LL.took hT10
    clear K10 hT10
    go_wp2_with fail
    refine (K11 _ LL.tk.rs).mono ?_;rintro e' w11 ⟨rfl,hT11⟩
    have LL:=LL.took hT11
    clear K11 hT11
    obtain ⟨v0,v1,v2,v3,v4⟩:=LL.box.five
    obtain ⟨z0,z1,z2,z3,z4⟩:=LL.box.frozen5
    have L3 : Lv b m T s.tl W X #[.int .i64 21,.string ⟨#[]⟩,.int .i64 0,.int .i64 p,.slice none 0 0] _:=LL.set 0 (.int .i64 21)
    obtain ⟨V3,hV3⟩ : ∃ V3,w11.setCell ⟨X,0,none⟩ (.int .i64 21) = V3:=⟨_,rfl⟩
    rw [hV3] at L3
    clear LL
    go_wp2_with fail
    refine (CN _ L3.tk.rs).mono ?_;rintro e w4 ⟨a4,c4,rfl,hKL,hT4⟩
    have L5:=Lv.row (t:=[]) L3 hT4 hKL
    obtain ⟨-,-,-,-,y4⟩:=(L3.took hT4).box.five
    obtain ⟨-,-,-,-,f4⟩:=(L3.took hT4).box.frozen5
    obtain ⟨V5,hV5⟩ : ∃ V5,w4.setCell ⟨X,4,none⟩ (.slice a4 ns.len c4) = V5:=⟨_,rfl⟩
    rw [hV5] at L5
    obtain ⟨-,-,g2',-,g4'⟩:=L5.box.five
    obtain ⟨-,-,o2,-,-⟩:=L5.box.frozen5
    have L6:=L5.num (ns.len : Int)
    obtain ⟨V6,hV6⟩ : ∃ V6,V5.setCell ⟨X,2,none⟩ (.int .i64 (ns.len : Int)) = V6:=⟨_,rfl⟩
    rw [hV6] at L6
    clear hKL hT4 L3 CN L5
    clear v0 v1 v2 v3 v4 z0 z1 z2 z3 z4 hV3
    go_wp2_with fail
    refine (K14 _ L6.tk.rs).mono ?_;rintro e w7 ⟨rfl,hT7⟩
    have L7:=L6.took hT7
    clear L6 hT7 K14 y4 f4 hV5 g2' g4' o2 hV6
    obtain ⟨x0,x1,x2,x3,x4⟩:=L7.box.five
    obtain ⟨q0,q1,q2,q3,q4⟩:=L7.res.five
    obtain ⟨m0,m1,m2,m3,m4⟩:=L7.res.frozen5
    go_wp2_with fail
    obtain ⟨y0,y1,y2,y3,y4⟩:=(L7.res.five_put (.int .i64 21) (.string ⟨#[]⟩) (.int .i64 ns.len) (.int .i64 p) (.slice a4 ns.len c4)).five
    refine bodyPost_ret (v:=.agg #[.int .i64 21,.string ⟨#[]⟩,.int .i64 ns.len,.int .i64 p,.slice a4 ns.len c4]) (by simp [results,Tryz.results51,go_sem,y0,y1,y2,y3,y4]) rfl ?_
    exact L7.lr.tell'
  | @sle _ _ ns s1 gl _ hf' hc h1 h2 h3 =>
    have CN : ∀ W,RT b m T s.tl W → Calls Tryz.prog 50 #[.pointer (some ⟨b,0,none⟩)] W (RL b m T W s1 ns):=fun W h=>h1.cl b m W h
    obtain ⟨e1,l1⟩:=Sx.tl_e hes (by rw [hc];decide)
    have l2:=h1.pz.len e1
    obtain ⟨r1,r2⟩:=h1.pz.row e1
    have e2:=h1.pz.ends e1
    have K14:=fun W h=>take_y b m T s1 14 (by decide) (by decide) h2 W h
    rw [show wds 14 = [61] from rfl] at K14
    have CL : ∀ W,RT b m T s1.tl W → Calls Tryz.prog 47 #[.pointer (some ⟨b,0,none⟩)] W (RL b m T W s2 gl):=fun W h=>h3.cl b m W h
    obtain ⟨e3,l3⟩:=Sx.tl_e e2 (by rw [h2];decide)
    obtain ⟨r3,r4⟩:=h3.pz.row e3
    clear h1 h3
    have K7:=fun W h=>see_n b m T s 7 (by decide) (by decide) W h
    rw [show wds 7 = [100,111] from rfl,decide_eq_false (by rw [hc];decide)] at K7
    have K8:=fun W h=>take_n b m T s 8 (by decide) (by decide) (by rw [hc];decide) W h
    rw [show wds 8 = [119,104,105,108,101] from rfl] at K8
    have K9:=fun W h=>take_n b m T s 9 (by decide) (by decide) (by rw [hc];decide) W h
    rw [show wds 9 = [105,102] from rfl] at K9
    have K10:=fun W h=>take_n b m T s 10 (by decide) (by decide) (by rw [hc];decide) W h
    rw [show wds 10 = [102,111,114] from rfl] at K10
    have K11:=fun W h=>take_y b m T s 11 (by decide) (by decide) hc W h
    rw [show wds 11 = [108,111,99,97,108] from rfl] at K11
    go_wp2_with fail
    refine (K7 _ LL.tk.rs).mono ?_;rintro e' w7 ⟨rfl,hb7⟩
    have LL:=LL.below hb7
    clear K7 hb7
    go_wp2_with fail
    refine (K8 _ LL.tk.rs).mono ?_;rintro e' w8 ⟨rfl,hT8⟩
    have LL:=LL.took hT8
    clear K8 hT8
    go_wp2_with fail
    refine (K9 _ LL.tk.rs).mono ?_;rintro e' w9 ⟨rfl,hT9⟩
    have LL:=LL.took hT9
    clear K9 hT9
    go_wp2_with fail
    refine (K10 _ LL.tk.rs).mono ?_;rintro e' w10 ⟨rfl,hT10⟩
    have LL:=LL.took hT10
    clear K10 hT10
    go_wp2_with fail
    refine (K11 _ LL.tk.rs).mono ?_;rintro e' w11 ⟨rfl,hT11⟩
    have LL:=LL.took hT11
    clear K11 hT11
    obtain ⟨v0,v1,v2,v3,v4⟩:=LL.box.five
    obtain ⟨z0,z1,z2,z3,z4⟩:=LL.box.frozen5
    have L3 : Lv b m T s.tl W X #[.int .i64 21,.string ⟨#[]⟩,.int .i64 0,.int .i64 p,.slice none 0 0] _:=LL.set 0 (.int .i64 21)
    obtain ⟨V3,hV3⟩ : ∃ V3,w11.setCell ⟨X,0,none⟩ (.int .i64 21) = V3:=⟨_,rfl⟩
    rw [hV3] at L3
    clear LL
    go_wp2_with fail
    refine (CN _ L3.tk.rs).mono ?_;rintro e w4 ⟨a4,c4,rfl,hKL,hT4⟩
    have L5:=Lv.row (t:=[]) L3 hT4 hKL
    obtain ⟨-,-,-,-,y4⟩:=(L3.took hT4).box.five
    obtain ⟨-,-,-,-,f4⟩:=(L3.took hT4).box.frozen5
    obtain ⟨V5,hV5⟩ : ∃ V5,w4.setCell ⟨X,4,none⟩ (.slice a4 ns.len c4) = V5:=⟨_,rfl⟩
    rw [hV5] at L5
    obtain ⟨-,-,g2',-,g4'⟩:=L5.box.five
    obtain ⟨-,-,o2,-,-⟩:=L5.box.frozen5
    have L6:=L5.num (ns.len : Int)
    obtain ⟨V6,hV6⟩ : ∃ V6,V5.setCell ⟨X,2,none⟩ (.int .i64 (ns.len : Int)) = V6:=⟨_,rfl⟩
    rw [hV6] at L6
    clear hKL hT4 L3 CN L5
    clear v0 v1 v2 v3 v4 z0 z1 z2 z3 z4 hV3
    go_wp2_with fail
    refine (K14 _ L6.tk.rs).mono ?_;rintro e w7 ⟨rfl,hT7⟩
    have L7:=L6.took hT7
    clear L6 hT7 K14 y4 f4 hV5 g2' g4' o2 hV6
    obtain ⟨b0,b1,b2,b3,b4⟩:=L7.box.five
    go_wp2_with fail
    have D:=L7.drew
    have CV:=CL _ D.tk.rs
    have HB : Hid (0 < gl.len ∧ ns.len + gl.len ≤ 100000):=⟨by omega,by omega⟩
    clear r1 r2 r3 r4 l1 l2 l3 CL
    go_region_law (first | (refine step_goE (by rfl) 47 _ _ (by rfl) _ (by simp [Act.eval,Act.put]) enters47 CV ?_;rintro e' wb ⟨a2,c2,rfl,hKL,hTk⟩;refine ⟨_,rfl,?_⟩;obtain ⟨-,-,-,-,q4⟩:=(D.took hTk).box.five) | (refine step_lkL (by rfl) _ _ (by rfl) D hTk hKL HB.out.1 HB.out.2 (by rfl) (by rfl) ?_;intro gg cc wc wF hwF L8 B8;obtain ⟨-,-,-,-,r4⟩:=B8.five;obtain ⟨-,-,-,-,g4⟩:=B8.frozen5))
    all_goals
      obtain ⟨x0,x1,x2,x3,x4⟩:=L8.box.five
      obtain ⟨q0,q1,q2,q3,q4⟩:=L8.res.five
      obtain ⟨m0,m1,m2,m3,m4⟩:=L8.res.frozen5
      go_wp2_with fail
      obtain ⟨y0,y1,y2,y3,y4⟩:=(L8.res.five_put (.int .i64 21) (.string ⟨#[]⟩) (.int .i64 ns.len) (.int .i64 p) (.slice (some ⟨gg,0,none⟩) (ns.app gl).len cc)).five
      refine bodyPost_ret (v:=.agg #[.int .i64 21,.string ⟨#[]⟩,.int .i64 ns.len,.int .i64 p,.slice (some ⟨gg,0,none⟩) (ns.app gl).len cc]) (by simp [results,Tryz.results51,go_sem,y0,y1,y2,y3,y4]) rfl ?_
      exact L8.lr.tell'
  | sbr hf' hc =>
    have K7:=fun W h=>see_n b m T s 7 (by decide) (by decide) W h
    rw [show wds 7 = [100,111] from rfl,decide_eq_false (by rw [hc];decide)] at K7
    have K8:=fun W h=>take_n b m T s 8 (by decide) (by decide) (by rw [hc];decide) W h
    rw [show wds 8 = [119,104,105,108,101] from rfl] at K8
    have K9:=fun W h=>take_n b m T s 9 (by decide) (by decide) (by rw [hc];decide) W h
    rw [show wds 9 = [105,102] from rfl] at K9
    have K10:=fun W h=>take_n b m T s 10 (by decide) (by decide) (by rw [hc];decide) W h
    rw [show wds 10 = [102,111,114] from rfl] at K10
    have K11:=fun W h=>take_n b m T s 11 (by decide) (by decide) (by rw [hc];decide) W h
    rw [show wds 11 = [108,111,99,97,108] from rfl] at K11
    have K12:=fun W h=>take_y b m T s 12 (by decide) (by decide) hc W h
    rw [show wds 12 = [98,114,101,97,107] from rfl] at K12
    go_wp2_with fail
    refine (K7 _ LL.tk.rs).mono ?_;rintro e' w7 ⟨rfl,hb7⟩
    have LL:=LL.below hb7
    clear K7 hb7
    go_wp2_with fail
    refine (K8 _ LL.tk.rs).mono ?_;rintro e' w8 ⟨rfl,hT8⟩
    have LL:=LL.took hT8
    clear K8 hT8
    go_wp2_with fail
    refine (K9 _ LL.tk.rs).mono ?_;rintro e' w9 ⟨rfl,hT9⟩
    have LL:=LL.took hT9
    clear K9 hT9
    go_wp2_with fail
    refine (K10 _ LL.tk.rs).mono ?_;rintro e' w10 ⟨rfl,hT10⟩
    have LL:=LL.took hT10
    clear K10 hT10
    go_wp2_with fail
    refine (K11 _ LL.tk.rs).mono ?_;rintro e' w11 ⟨rfl,hT11⟩
    have LL:=LL.took hT11
    clear K11 hT11
    go_wp2_with fail
    refine (K12 _ LL.tk.rs).mono ?_;rintro e' w12 ⟨rfl,hT12⟩
    have LL:=LL.took hT12
    clear K12 hT12
    obtain ⟨v0,v1,v2,v3,v4⟩:=LL.box.five
    obtain ⟨z0,z1,z2,z3,z4⟩:=LL.box.frozen5
    have L3 : Lv b m T s.tl W X #[.int .i64 29,.string ⟨#[]⟩,.int .i64 0,.int .i64 p,.slice none 0 0] _:=LL.set 0 (.int .i64 29)
    obtain ⟨V3,hV3⟩ : ∃ V3,w12.setCell ⟨X,0,none⟩ (.int .i64 29) = V3:=⟨_,rfl⟩
    rw [hV3] at L3
    clear LL
    skip
    obtain ⟨x0,x1,x2,x3,x4⟩:=L3.box.five
    obtain ⟨q0,q1,q2,q3,q4⟩:=L3.res.five
    obtain ⟨m0,m1,m2,m3,m4⟩:=L3.res.frozen5
    go_wp2_with fail
    obtain ⟨y0,y1,y2,y3,y4⟩:=(L3.res.five_put (.int .i64 29) (.string ⟨#[]⟩) (.int .i64 0) (.int .i64 p) (.slice none 0 0)).five
    refine bodyPost_ret (v:=.agg #[.int .i64 29,.string ⟨#[]⟩,.int .i64 0,.int .i64 p,.slice none 0 0]) (by simp [results,Tryz.results51,go_sem,y0,y1,y2,y3,y4]) rfl ?_
    exact (Lv.lk (t:=[]) L3).lr.tell'
  | spl hf' hc h1 =>
    obtain ⟨n7,n8,n9,n10,n11,n12⟩:=hc
    have CL : ∀ W,RT b m T s W → Calls Tryz.prog 75 #[.pointer (some ⟨b,0,none⟩),.int .i64 p] W (RN b m T W s2 g):=fun W h=>h1.cl b m W h
    clear h1
    have K7:=fun W h=>see_n b m T s 7 (by decide) (by decide) W h
    rw [show wds 7 = [100,111] from rfl,decide_eq_false n7] at K7
    have K8:=fun W h=>take_n b m T s 8 (by decide) (by decide) n8 W h
    rw [show wds 8 = [119,104,105,108,101] from rfl] at K8
    have K9:=fun W h=>take_n b m T s 9 (by decide) (by decide) n9 W h
    rw [show wds 9 = [105,102] from rfl] at K9
    have K10:=fun W h=>take_n b m T s 10 (by decide) (by decide) n10 W h
    rw [show wds 10 = [102,111,114] from rfl] at K10
    have K11:=fun W h=>take_n b m T s 11 (by decide) (by decide) n11 W h
    rw [show wds 11 = [108,111,99,97,108] from rfl] at K11
    have K12:=fun W h=>take_n b m T s 12 (by decide) (by decide) n12 W h
    rw [show wds 12 = [98,114,101,97,107] from rfl] at K12
    go_wp2_with fail
    refine (K7 _ LL.tk.rs).mono ?_;rintro e' w7 ⟨rfl,hb7⟩
    have LL:=LL.below hb7
    clear K7 hb7
    go_wp2_with fail
    refine (K8 _ LL.tk.rs).mono ?_;rintro e' w8 ⟨rfl,hT8⟩
    have LL:=LL.took hT8
    clear K8 hT8
    go_wp2_with fail
    refine (K9 _ LL.tk.rs).mono ?_;rintro e' w9 ⟨rfl,hT9⟩
    have LL:=LL.took hT9
    clear K9 hT9
    go_wp2_with fail
    refine (K10 _ LL.tk.rs).mono ?_;rintro e' w10 ⟨rfl,hT10⟩
    have LL:=LL.took hT10
    clear K10 hT10
    go_wp2_with fail
    refine (K11 _ LL.tk.rs).mono ?_;rintro e' w11 ⟨rfl,hT11⟩
    have LL:=LL.took hT11
    clear K11 hT11
    go_wp2_with fail
    refine (K12 _ LL.tk.rs).mono ?_;rintro e' w12 ⟨rfl,hT12⟩
    have LL:=LL.took hT12
    clear K12 hT12
    go_wp2_with fail
    refine (CL _ LL.tk.rs).mono ?_;rintro e' w9 ⟨k3,t3,n3,p3,a3,c3,ks3,e3,rfl,hTN,hT9⟩
    have D4:=LL.took hT9
    obtain ⟨q0,q1,q2,q3,q4⟩:=D4.res.five
    obtain ⟨m0,m1,m2,m3,m4⟩:=D4.res.frozen5
    have hX9:=LL.res.lt
    go_wp2_with fail
    obtain ⟨y0,y1,y2,y3,y4⟩:=(D4.res.five_put (.int .i64 k3) (.string ⟨t3.toArray⟩) (.int .i64 n3) (.int .i64 p3) (.slice a3 ks3.len c3)).five
    refine bodyPost_ret (v:=(.agg #[.int .i64 (k3),.string ⟨(t3).toArray⟩,.int .i64 (n3),.int .i64 (p3),.slice a3 ks3.len c3])) (by simp [results,Tryz.results51,go_sem,y0,y1,y2,y3,y4]) rfl ?_
    exact ⟨k3,t3,n3,p3,a3,c3,ks3,e3,rfl,(hTN.five (X:=W.heap.size) (by omega) _ _ _ _ _).mono fun g hg _=>by omega,Tr.five D4.tk (Nat.le_refl _) hlt.2 _ _ _ _ _⟩
end Go.Proofs.YtlgkfhipobdcfaaGreatDoor
