import Derived.Test.YtkjbgggghigapaaGreatCg25
import Derived.Test.YtkjbgggghigapaaGreatCg29
import Derived.Test.YtkjbgggghigapaaGreatCg07
namespace Go.Proofs.YtkjbgggghigapaaGreat
open Go.RowKit
theorem Lf.begin {b m : Nat} {T l l' : List Tok} {W w1 : World} {k : Int} {t : List UInt8} {n p : Int} {a : Option Addr} {c : Nat} {ks : F} (h : PS b m T l W) (hTk : Tk b m T l' (W.alloc (.cells #[.int .i64 0,.string ⟨#[]⟩,.int .i64 0,.int .i64 0,.slice none 0 0] 54)) w1) (hTN : TN 54 w1 (fun g=>(W.alloc (.cells #[.int .i64 0,.string ⟨#[]⟩,.int .i64 0,.int .i64 0,.slice none 0 0] 54)).heap.size ≤ g) k t n p (.slice a ks.len c) ks) : Lf b m T l' W w1.heap.size k t n p (.slice a ks.len c) ks (w1.alloc (.cells #[.int .i64 (k),.string ⟨(t).toArray⟩,.int .i64 (n),.int .i64 (p),.slice a ks.len c] 54)):=by
  have hlt:=h.lt
  have R1:=(Bx.new W 54 #[.int .i64 0,.string ⟨#[]⟩,.int .i64 0,.int .i64 0,.slice none 0 0]).ky hTk.ky (by omega)
  have hX:=R1.lt
  exact ⟨((h.tk.alloc _).trans hTk).alloc _,R1.alloc _,Bx.new _ _ _,(hTN.mono fun g hg hl=>⟨by simp at hg;omega,by omega⟩).alloc _,by omega⟩
theorem dies {G : Prop} {a : Act} {w : World} (g : G) (_ : wpAny Tryz.prog .any #[] (fun _ _ _=>True) 0 #[] a w) : G:=g
theorem enters130 : ∀ args w,(callFunc 127 args).run Tryz.prog w = .ok (.enter 127 args) w:=enters_of Tryz.func127 (by kernel_rfl) rfl
theorem enters131 : ∀ args w,(callFunc 128 args).run Tryz.prog w = .ok (.enter 128 args) w:=enters_of Tryz.func128 (by kernel_rfl) rfl
section
variable {b m : Nat} {T l : List Tok} {W w5 : World} {X1 : Nat} {k : Int} {tt : List UInt8} {n p : Int} {a1 : Option Addr} {c1 : Nat} {ks : F}
theorem Nw.fst1 (L : Lf b m T l W X1 k tt n p (.slice a1 ks.len c1) ks w5) (few : 1 + l.length ≤ T.length) : Nw b m T l W (w5.heap.size + 1) 22 [] 0 p (some ⟨w5.heap.size,0,none⟩) 1 (one k tt n p ks) ((w5.alloc (.cells #[.int .i64 (k),.string ⟨(tt).toArray⟩,.int .i64 (n),.int .i64 (p),.slice a1 ks.len c1] 54)).alloc (.cells #[.int .i64 (22),.string ⟨#[]⟩,.int .i64 (0),.int .i64 (p),.slice (some ⟨w5.heap.size,0,none⟩) 1 1] 54)):=by
  have hlt:=L.lt
  have hX:=L.box.lt
  have hR:=L.res.lt
  have M:=(L.tn.mono (Q:=fun g=>W.heap.size < g ∧ g < w5.heap.size) fun g hg hl=>⟨hg.1,hl⟩).row1 (Q:=fun g=>W.heap.size < g ∧ g ≠ w5.heap.size + 1) (fun g hg _=>by omega) (by omega)
  have B:=Bx.new (w5.alloc (.cells #[.int .i64 (k),.string ⟨(tt).toArray⟩,.int .i64 (n),.int .i64 (p),.slice a1 ks.len c1] 54)) 54 #[.int .i64 22,.string ⟨#[]⟩,.int .i64 0,.int .i64 p,.slice (some ⟨w5.heap.size,0,none⟩) 1 1]
  have e : (w5.alloc (.cells #[.int .i64 (k),.string ⟨(tt).toArray⟩,.int .i64 (n),.int .i64 (p),.slice a1 ks.len c1] 54)).heap.size = w5.heap.size + 1:=by simp
  rw [e] at B
  exact ⟨(L.tk.alloc _).alloc _,(L.res.alloc _).alloc _,B,M.alloc _,by rw [one_len];exact few,by omega⟩
theorem Nw.fst2 (L : Lf b m T l W X1 k tt n p (.slice a1 ks.len c1) ks w5) (few : 1 + l.length ≤ T.length) : Nw b m T l W w5.heap.size 22 [] 0 p (some ⟨w5.heap.size + 1,0,none⟩) 1 (one k tt n p ks) ((w5.alloc (.cells #[.int .i64 (22),.string ⟨#[]⟩,.int .i64 (0),.int .i64 (p),.slice (some ⟨w5.heap.size + 1,0,none⟩) 1 1] 54)).alloc (.cells #[.int .i64 (k),.string ⟨(tt).toArray⟩,.int .i64 (n),.int .i64 (p),.slice a1 ks.len c1] 54)):=by
  have hlt:=L.lt
  have hX:=L.box.lt
  have hR:=L.res.lt
  have e : (w5.alloc (.cells #[.int .i64 (22),.string ⟨#[]⟩,.int .i64 (0),.int .i64 (p),.slice (some ⟨w5.heap.size + 1,0,none⟩) 1 1] 54)).heap.size = w5.heap.size + 1:=by simp
  have M:=((L.tn.mono (Q:=fun g=>W.heap.size < g ∧ g < w5.heap.size) fun g hg hl=>⟨hg.1,hl⟩).alloc (.cells #[.int .i64 (22),.string ⟨#[]⟩,.int .i64 (0),.int .i64 (p),.slice (some ⟨w5.heap.size + 1,0,none⟩) 1 1] 54)).row1 (Q:=fun g=>W.heap.size < g ∧ g ≠ w5.heap.size) (fun g hg _=>by omega) (by rw [e];omega)
  rw [e] at M
  exact ⟨(L.tk.alloc _).alloc _,(L.res.alloc _).alloc _,(Bx.new _ _ _).alloc _,M,by rw [one_len];exact few,by omega⟩
theorem Nw.fst3 {X : Nat} {z0 z1 z2 z3 z4 : Value} (L : Lf b m T l W X1 k tt n p (.slice a1 ks.len c1) ks w5) (Z : Bx X 54 #[z0,z1,z2,z3,z4] w5) (hX : W.heap.size < X) (M0 : TN 54 w5 (fun g=>W.heap.size < g ∧ g < X) k tt n p (.slice a1 ks.len c1) ks) (few : 1 + l.length ≤ T.length) :
    Nw b m T l W X 22 [] 0 p (some ⟨w5.heap.size,0,none⟩) 1 (one k tt n p ks) ((((((w5.alloc (.cells #[.int .i64 (k),.string ⟨(tt).toArray⟩,.int .i64 (n),.int .i64 (p),.slice a1 ks.len c1] 54)).setCell ⟨X,0,none⟩ (.int .i64 22)).setCell ⟨X,1,none⟩ (.string ⟨#[]⟩)).setCell ⟨X,2,none⟩ (.int .i64 0)).setCell ⟨X,3,none⟩ (.int .i64 p)).setCell ⟨X,4,none⟩ (.slice (some ⟨w5.heap.size,0,none⟩) 1 1)):=by
  have hlt:=L.lt
  have hZ:=Z.lt
  have M:=M0.row1 (Q:=fun g=>W.heap.size < g ∧ g ≠ X) (fun g hg _=>by omega) (by omega)
  have hn : ¬ (W.heap.size < X ∧ X ≠ X):=fun e=>e.2 rfl
  exact ⟨(L.tk.alloc _).five (by omega) hlt.2.1 _ _ _ _ _,(L.res.alloc _).five_set (by omega) _ _ _ _ _,(Z.alloc _).five_put _ _ _ _ _,((((M.set hn _).set hn _).set hn _).set hn _).set hn _,by rw [one_len];exact few,by omega⟩
end
def asgK (N : Nat) (p : Int) (ts : F) (l : List Tok) : PR:=need 14 l fun l1=>(pr N (.lst ts) l1).bind fun g l1=>.ok (one 22 [] ts.len p g) l1
theorem bind_asc (x : PR) (k1 k2 : F → List Tok → PR) : (x.bind k1).bind k2 = x.bind fun f l=>(k1 f l).bind k2:=by cases x <;> rfl
set_option maxRecDepth 20000 in
set_option maxHeartbeats 32000000 in
theorem assign_any (N : Nat) (H : ∀ n,n ≤ N → CC n) (b m : Nat) (T l : List Tok) (W : World) (h : PS b m T l W) (hr : asgP (pr N) l ≠ .out) : Calls Tryz.prog 103 #[.pointer (some ⟨b,0,none⟩)] W (PN b m T W (asgP (pr N) l)):=by
  have hlt:=h.lt
  have hT:=h.len
  obtain ⟨R,hR⟩ : ∃ R,asgP (pr N) l = R:=⟨_,rfl⟩
  rw [hR] at hr ⊢
  unfold asgP at hR
  have CE:=fun W h=>(H N (Nat.le_refl _)).suf b m T l W h
  cases he : pr N .suf l with
  | out=>rw [he] at hR;exact absurd hR.symm hr
  | bad p2 =>
    rw [he] at hR CE
    simp only [PR.bind] at hR
    subst hR
    go_enter Tryz.func103,Tryz.ntmps103
    go_wp2_with (go_at_call 127;refine (CE _ (h.alloc _) (by simp)).mono ?_;rintro e w1 ⟨he,hk⟩;unfold refp at he;subst he)
    exact ⟨rfl,rfl,((Ky.refl (fun k=>k = b) W).alloc _).trans hk⟩
  | ok g l1 =>
    have hlen:=pr_len he
    obtain ⟨t2,l2,rfl⟩:=(pr_ends he h.ends).cons
    rw [he] at hR CE
    simp only [PR.bind] at hR
    simp only [st,List.length_cons] at hlen
    by_cases hc2 : hc (t2 :: l2) = 14 ∨ hc (t2 :: l2) = 15
    · rw [if_pos hc2] at hR
      replace hR : Hid (tgt g ((pr N (.asg g) (t2 :: l2)).bind (asgK N g.at)) = R):=hR
      go_enter Tryz.func103,Tryz.ntmps103
      go_upto_region 2 with (go_at_call 127;refine (CE _ (h.alloc _) (by simp)).mono ?_;rintro e w1 ⟨k,tt,n,p,a1,c1,ks,rfl,rfl,hTN,hTk⟩;have L:=Lf.begin h hTk hTN)
      go_cut [14] from 7 to 14 (fun v wx=>v = .bool false ∧ Lf b m T (t2 :: l2) W w1.heap.size k tt n p (.slice a1 ks.len c1) ks wx)
      case first =>
        rcases hc2 with hc2 | hc2
        · have h14 : cls t2 = 14:=hc2
          have wt214 : rd t2 [61] = true:=cls_rd (c:=14) (by omega) (by decide) (by decide)
          go_wp2_with (go_at_call 64;refine (is_v b m T _ t2 _ _ L.tk.ps (by assumption)).mono ?_;rintro e w2 ⟨rfl,hb2⟩;have L:=L.below hb2;obtain ⟨p0,p1,p2,p3,p4⟩:=L.box.five;obtain ⟨q0,q1,q2,q3,q4⟩:=L.res.fiveA;obtain ⟨f0,f1,f2,f3,f4⟩:=L.res.frozen5A)
          go_meet
          exact ⟨rfl,L⟩
        · have h15 : cls t2 = 15:=hc2
          have wt214 : rd t2 [61] = false:=cls_nrd (c:=14) (by omega) (by decide) (by decide)
          have wt215 : rd t2 [44] = true:=cls_rd (c:=15) (by omega) (by decide) (by decide)
          go_wp2_with (go_at_call 64;refine (is_v b m T _ t2 _ _ L.tk.ps (by assumption)).mono ?_;rintro e w2 ⟨rfl,hb2⟩;have L:=L.below hb2;obtain ⟨p0,p1,p2,p3,p4⟩:=L.box.five;obtain ⟨q0,q1,q2,q3,q4⟩:=L.res.fiveA;obtain ⟨f0,f1,f2,f3,f4⟩:=L.res.frozen5A)
          go_meet
          exact ⟨rfl,L⟩
      case rest =>
        clear L
        obtain ⟨rfl,L⟩:=hcut
        have hR:=hR.out
        unfold tgt at hR
        by_cases hkd : k = 6 ∨ k = 7
        · rw [if_pos (show (one k tt n p ks).kind = 6 ∨ (one k tt n p ks).kind = 7 from hkd)] at hR
          replace hR : Hid ((pr N (.asg (one k tt n p ks)) (t2 :: l2)).bind (asgK N p) = R):=hR
          have hfw : 1 + (t2 :: l2).length ≤ T.length:=by simp only [List.length_cons];omega
          obtain ⟨p0,p1,p2,p3,p4⟩:=L.box.five
          go_wp2_with fail
          have L1:=L.drew
          obtain ⟨j0,j1,j2,j3,j4⟩:=L.box.fiveA
          go_cut [4] from 26 to 31 (fun v wx=>∃ (X : Nat) (a' : Option Addr) (c' : Nat),v = .pointer (some ⟨X,0,none⟩) ∧ Nw b m T (t2 :: l2) W X 22 [] 0 p a' c' (one k tt n p ks) wx)
          case first =>
            go_region_with (go_at_call 128;refine (target_yes k tt n p a1 ks.len c1 _ hkd).mono ?_;rintro e w5 ⟨rfl,hb5⟩;have L5 : Lf b m T (t2 :: l2) W w1.heap.size k tt n p (.slice a1 ks.len c1) ks w5:=(by first | exact L1.below hb5 | exact (L1.alloc _).below hb5);obtain ⟨s0,s1,s2,s3,s4⟩:=L5.box.five;obtain ⟨v0,v1,v2,v3,v4⟩:=L5.box.fiveA;have v33:=(fun o o'=>((L5.alloc o).alloc o').box.c 3 _ rfl);first | (have Z:=(Bx.new wc 54 #[.int .i64 0,.string ⟨#[]⟩,.int .i64 0,.int .i64 0,.slice none 0 0]).drew.below hb5;have M3:=TN.below (w:=(wc.alloc (.cells #[.int .i64 0,.string ⟨#[]⟩,.int .i64 0,.int .i64 0,.slice none 0 0] 54)).drew) (((L.tn.mono (Q:=fun g=>W.heap.size < g ∧ g < wc.heap.size) (fun g hg hl=>⟨hg.1,hl⟩)).alloc (.cells #[.int .i64 0,.string ⟨#[]⟩,.int .i64 0,.int .i64 0,.slice none 0 0] 54)).keep (w':=(wc.alloc (.cells #[.int .i64 0,.string ⟨#[]⟩,.int .i64 0,.int .i64 0,.slice none 0 0] 54)).drew) (fun _ _ _=>rfl)) hb5;obtain ⟨z0,z1,z2,z3,z4⟩:=Z.fiveA;obtain ⟨y0,y1,y2,y3,y4⟩:=Z.frozen5A) | (have Z:=(Bx.new wc.drew 54 #[.int .i64 0,.string ⟨#[]⟩,.int .i64 0,.int .i64 0,.slice none 0 0]).below hb5;obtain ⟨z0,z1,z2,z3,z4⟩:=Z.fiveA;obtain ⟨y0,y1,y2,y3,y4⟩:=Z.frozen5A) | skip)
            all_goals
              go_wp2_with fail
              go_meet
              first | exact ⟨_,_,_,rfl,Nw.fst1 L5 hfw⟩ | exact ⟨_,_,_,rfl,Nw.fst2 L5 hfw⟩ | exact ⟨_,_,_,rfl,Nw.fst3 L5 Z (by have:=L.lt;have:=L.box.lt;omega) M3 hfw⟩
          case rest =>
            clear L L1 p0 p1 p2 p3 p4 j0 j1 j2 j3 j4 hTN hTk CE he hlen hfw
            obtain ⟨X,a0,c0,rfl,D⟩:=hcut
            obtain ⟨P0,hP0⟩ : ∃ P0,p = P0:=⟨_,rfl⟩
            rw [hP0] at hR D
            generalize one k tt n p ks = F0 at hR D
            clear hP0 hkd
            go_wp2_with fail
            go_loopg [] (N + 2) (fun gf wx=>∃ (q : Nat) (a' : Option Addr) (c' : Nat) (f : F) (l' : List Tok),q ≤ N ∧ Nw b m T l' W X 22 [] 0 P0 a' c' f wx ∧ Hid ((pr q (.asg f) l').bind (asgK N P0) = R) ∧ q < gf)
            case atStart=>exact ⟨N,a0,c0,_,_,Nat.le_refl _,D,hR,by omega⟩
            case round =>
              clear D hR
              obtain ⟨q,a3,c3,f,l',hq,D,hR,hfu⟩:=hrel
              obtain ⟨t1,l3,rfl⟩:=D.tk.ps.cons
              cases q with
              | zero=>exact absurd hR.out.symm hr
              | succ q =>
                have hR:=hR.out
                rw [pr_succ] at hR
                simp only [stp',List.tail_cons] at hR
                by_cases h15 : cls t1 = 15
                · have wt115 : rd t1 [44] = true:=cls_rd (c:=15) (by omega) (by decide) (by decide)
                  rw [if_pos (show hc (t1 :: l3) = 15 from h15),bind_asc] at hR
                  have CF:=fun W h=>(H q (by omega)).suf b m T l3 W h
                  cases he2 : pr q .suf l3 with
                  | out=>rw [he2] at hR;exact absurd hR.symm hr
                  | bad p2 =>
                    rw [he2] at hR CF
                    simp only [PR.bind] at hR
                    subst hR
                    go_wp2_with (go_at_call 63;refine (accept_t b m T l3 t1 _ _ D.tk.ps (by assumption)).mono ?_;rintro e w3 ⟨rfl,hT3⟩;have D:=D.took hT3 (by simp);obtain ⟨p0,p1,p2,p3,p4⟩:=D.box.five)
                    have D1:=D.drew
                    go_region_dies
                    all_goals
                      refine (CF _ D1.tk.ps (by simp)).mono ?_
                      rintro e w4 ⟨he,hk⟩
                      unfold refp at he
                      subst he
                      exact ⟨rfl,rfl,D1.tk.ky.trans hk⟩
                  | ok g2 l4 =>
                    have hlen:=pr_len he2
                    have hlen2 : l4.length ≤ l3.length:=by simp only [st] at hlen;omega
                    have hlen3 : l4.length + 1 ≤ l3.length:=by simp only [st] at hlen;omega
                    have hfe:=D.few
                    simp only [List.length_cons] at hfe
                    rw [he2] at hR CF
                    simp only [PR.bind] at hR
                    unfold tgt at hR
                    by_cases hkk : g2.kind = 6 ∨ g2.kind = 7
                    · rw [if_pos hkk] at hR
                      replace hR : Hid ((pr q (.asg (f.app g2)) l4).bind (asgK N P0) = R):=hR
                      go_wp2_with (go_at_call 63;refine (accept_t b m T l3 t1 _ _ D.tk.ps (by assumption)).mono ?_;rintro e w3 ⟨rfl,hT3⟩;have D:=D.took hT3 (by simp);obtain ⟨p0,p1,p2,p3,p4⟩:=D.box.five)
                      have D1:=D.drew
                      go_region_law (first | (refine step_goE (by rfl) 127 _ _ (by rfl) _ (by simp [Act.eval,Act.put]) enters130 (CF _ D1.tk.ps (by simp)) ?_;rintro e w4 ⟨k2,tt2,n2,p2k,a2,c2,ks2,rfl,rfl,hTN,hTk⟩;refine ⟨_,rfl,?_⟩;have hk2 : k2 = 6 ∨ k2 = 7:=hkk;have D2:=D1.took hTk hlen2;obtain ⟨-,-,-,-,u4⟩:=D2.box.five) | (refine step_goE (by rfl) 128 _ _ (by rfl) _ (by simp [Act.eval]) enters131 (target_yes k2 tt2 n2 p2k a2 ks2.len c2 _ hk2) ?_;rintro e w5 ⟨rfl,hb5⟩;refine ⟨_,rfl,?_⟩;have D3:=D2.below hb5;have hTN3:=hTN.below hb5;have hTk3:=hTk.below hb5;obtain ⟨-,-,-,-,v4⟩:=D3.box.five;obtain ⟨-,-,-,-,v5⟩:=D3.box.fiveA) | (refine step_row2 (by rfl) _ _ (by rfl) D1.row hTN3 hTk3 (by omega) (by rfl) (by rfl) ?_;intro gg cc w7 hrow hky;obtain ⟨w10,hw10,D4,B4⟩:=D1.grown hrow.ps hrow.kl hrow.few hky;obtain ⟨-,-,-,-,r4⟩:=B4.five;obtain ⟨-,-,-,-,g4⟩:=B4.frozen5))
                      all_goals
                        go_wp2_with fail
                        go_roundg (q + 1)
                        case measure=>omega
                        case rel=>exact ⟨q,_,_,_,l4,by omega,D4,hR,by omega⟩
                    · rw [if_neg hkk] at hR
                      simp only at hR
                      subst hR
                      go_wp2_with (go_at_call 63;refine (accept_t b m T l3 t1 _ _ D.tk.ps (by assumption)).mono ?_;rintro e w3 ⟨rfl,hT3⟩;have D:=D.took hT3 (by simp);obtain ⟨p0,p1,p2,p3,p4⟩:=D.box.five)
                      have D1:=D.drew
                      go_region_law (first | (refine step_goE (by rfl) 127 _ _ (by rfl) _ (by simp [Act.eval,Act.put]) enters130 (CF _ D1.tk.ps (by simp)) ?_;rintro e w4 ⟨k2,tt2,n2,p2k,a2,c2,ks2,rfl,rfl,hTN,hTk⟩;refine ⟨_,rfl,?_⟩;have h62 : ¬ k2 = 6:=(fun e=>hkk (.inl e));have h72 : ¬ k2 = 7:=(fun e=>hkk (.inr e));have D2:=D1.took hTk hlen2;obtain ⟨-,-,-,-,u4⟩:=D2.box.five) | (refine step_goP (by rfl) 128 _ _ (by rfl) _ (by simp [Act.eval]) enters131 (target_no k2 tt2 n2 p2k a2 ks2.len c2 _ h62 h72) ?_;rintro e w5 ⟨he,hb5⟩;unfold refp at he;subst he;refine .inr ⟨_,rfl,?_⟩;refine dies (a:=⟨#[],[]⟩) (w:=w5) (And.intro rfl (And.intro rfl (D1.tk.ky.trans (hTk.ky.trans (Ky.of_below hb5))))) ?_))
                      all_goals trivial
                · have wt115 : rd t1 [44] = false:=cls_nrd (c:=15) (by omega) (by decide) (by decide)
                  rw [if_neg (show ¬ hc (t1 :: l3) = 15 from h15)] at hR
                  simp only [PR.bind,asgK,need] at hR
                  have hfe:=D.few
                  by_cases h14 : cls t1 = 14
                  · have wt114 : rd t1 [61] = true:=cls_rd (c:=14) (by omega) (by decide) (by decide)
                    rw [if_pos (show hc (t1 :: l3) = 14 from h14)] at hR
                    simp only [List.tail_cons] at hR
                    cases he2 : pr N (.lst f) l3 with
                    | out=>rw [he2] at hR;exact absurd hR.symm hr
                    | bad p2 =>
                      rw [he2] at hR
                      simp only at hR
                      subst hR
                      go_wp2_with (first | (go_at_call 63;refine (accept_f b m T l3 t1 _ _ D.tk.ps (by assumption)).mono ?_;rintro e w3 ⟨rfl,hb3⟩;have D:=D.below hb3;obtain ⟨p0,p1,p2,p3,p4⟩:=D.box.five;obtain ⟨y0,y1,y2,y3,y4⟩:=D.box.frozen5;obtain ⟨w6,hw6,D⟩:=D.num (f.len : Nat)) | (go_at_call 96;refine (expect_t b m T _ t1 _ _ D.tk.ps (by assumption)).mono ?_;rintro e w7 ⟨rfl,hT7⟩;have D:=D.took hT7 (by simp);obtain ⟨-,-,-,-,v4⟩:=D.box.five) | (go_at_call 94;have CL:=(H N (Nat.le_refl _)).lst b m T _ _ _ _ _ _ D.row;rw [he2] at CL;refine (CL (by simp)).mono ?_;rintro e w8 ⟨he,hk8⟩;unfold refp at he;subst he))
                      obtain ⟨xs,hown,hoP,_⟩:=D.kl.out
                      have hEl:=D.lt
                      exact ⟨rfl,rfl,D.tk.ky.onto hk8 fun i hi e=>e.elim id fun e=>by have:=hoP i e.symm;omega⟩
                    | ok f5 l6 =>
                      have hsz2:=sz_all _ _ _ _ _ he2
                      simp only [Sz] at hsz2
                      simp only [List.length_cons] at hfe
                      rw [he2] at hR
                      simp only at hR
                      subst hR
                      go_wp2_with (first | (go_at_call 63;refine (accept_f b m T l3 t1 _ _ D.tk.ps (by assumption)).mono ?_;rintro e w3 ⟨rfl,hb3⟩;have D:=D.below hb3;obtain ⟨p0,p1,p2,p3,p4⟩:=D.box.five;obtain ⟨y0,y1,y2,y3,y4⟩:=D.box.frozen5;obtain ⟨w6,hw6,D⟩:=D.num (f.len : Nat)) | (go_at_call 96;refine (expect_t b m T _ t1 _ _ D.tk.ps (by assumption)).mono ?_;rintro e w7 ⟨rfl,hT7⟩;have D:=D.took hT7 (by simp);obtain ⟨-,-,-,-,v4⟩:=D.box.five) | (go_at_call 94;have CL:=(H N (Nat.le_refl _)).lst b m T _ _ _ _ _ _ D.row;rw [he2] at CL;refine (CL (by simp)).mono ?_;rintro e w8 ⟨a8,c8,rfl,hkl8,hps8,hk8⟩;obtain ⟨w9,hw9,D,B9⟩:=D.grown hps8 hkl8 (by omega) hk8;obtain ⟨-,-,-,-,x9⟩:=B9.five;obtain ⟨-,-,-,-,y9⟩:=B9.frozen5;obtain ⟨z0,z1,z2,z3,z4⟩:=D.box.five;obtain ⟨q0,q1,q2,q3,q4⟩:=D.res.five;obtain ⟨f0,f1,f2,f3,f4⟩:=D.res.frozen5))
                      refine bodyPost_ret (v:=(.agg #[.int .i64 (22),.string ⟨#[]⟩,.int .i64 ((f.len : Nat)),.int .i64 (P0),.slice a8 f5.len c8])) (by simp [results,Tryz.results103,go_sem,q0,q1,q2,q3,q4]) rfl ?_
                      exact D.ret _ _ _ _ _
                  · have wt114 : rd t1 [61] = false:=cls_nrd (c:=14) (by omega) (by decide) (by decide)
                    rw [if_neg (show ¬ hc (t1 :: l3) = 14 from h14)] at hR
                    subst hR
                    go_wp2_with (first | (go_at_call 63;refine (accept_f b m T l3 t1 _ _ D.tk.ps (by assumption)).mono ?_;rintro e w3 ⟨rfl,hb3⟩;have D:=D.below hb3;obtain ⟨p0,p1,p2,p3,p4⟩:=D.box.five;obtain ⟨y0,y1,y2,y3,y4⟩:=D.box.frozen5;obtain ⟨w6,hw6,D⟩:=D.num (f.len : Nat)) | (go_at_call 96;refine (expect_f b m T _ t1 _ _ D.tk.ps (by assumption)).mono ?_;rintro e w7 ⟨he,hb7⟩;unfold refp at he;subst he))
                    exact ⟨rfl,rfl,D.tk.ky.trans (.of_below hb7)⟩
        · rw [if_neg (show ¬ ((one k tt n p ks).kind = 6 ∨ (one k tt n p ks).kind = 7) from hkd)] at hR
          subst hR
          obtain ⟨p0,p1,p2,p3,p4⟩:=L.box.five
          have hk6 : ¬ k = 6:=fun e=>hkd (.inl e)
          have hk7 : ¬ k = 7:=fun e=>hkd (.inr e)
          go_wp2_with fail
          have L1:=L.drew
          obtain ⟨j0,j1,j2,j3,j4⟩:=L.box.fiveA
          go_region_dies
          all_goals
            refine (target_no k tt n p a1 ks.len c1 _ hk6 hk7).mono ?_
            rintro e w5 ⟨he,hb5⟩
            unfold refp at he
            subst he
            first | exact ⟨rfl,rfl,L1.tk.ky.trans (.of_below hb5)⟩ | exact ⟨rfl,rfl,(L1.tk.ky.alloc _).trans (.of_below hb5)⟩
    · rw [if_neg hc2] at hR
      have h14 : cls t2 ≠ 14:=fun e=>hc2 (.inl e)
      have h15 : cls t2 ≠ 15:=fun e=>hc2 (.inr e)
      have wt214 : rd t2 [61] = false:=cls_nrd (c:=14) (by omega) (by decide) (by decide)
      have wt215 : rd t2 [44] = false:=cls_nrd (c:=15) (by omega) (by decide) (by decide)
      by_cases h8 : g.kind = 8
      · rw [if_pos h8] at hR
        subst hR
        go_enter Tryz.func103,Tryz.ntmps103
        go_wp2_with (first | (go_at_call 127;refine (CE _ (h.alloc _) (by simp)).mono ?_;rintro e w1 ⟨k,tt,n,p,a1,c1,ks,rfl,rfl,hTN,hTk⟩;have L:=Lf.begin h hTk hTN;have KB : (k != 8) = false:=(by have e8 : k = 8:=h8;rw [e8];rfl)) | (go_at_call 64;refine (is_v b m T _ t2 _ _ L.tk.ps (by assumption)).mono ?_;rintro e w2 ⟨rfl,hb2⟩;have L:=L.below hb2;obtain ⟨p0,p1,p2,p3,p4⟩:=L.box.five;obtain ⟨q0,q1,q2,q3,q4⟩:=L.res.fiveA;obtain ⟨f0,f1,f2,f3,f4⟩:=L.res.frozen5A))
        have hz:=L.box.lt
        have hl:=L.lt
        refine bodyPost_ret (v:=(.agg #[.int .i64 (23),.string ⟨#[]⟩,.int .i64 (0),.int .i64 (p),.slice (some ⟨w2.heap.size,0,none⟩) 1 1])) (by simp [results,Tryz.results103,go_sem,q0,q1,q2,q3,q4]) rfl ?_
        exact PN.five (TN.made (cur:=#[.int .i64 k,.string ⟨tt.toArray⟩,.int .i64 n,.int .i64 p,.slice a1 ks.len c1]) (c:=1) (Q:=fun g=>W.heap.size < g) (L.tn.kf.mono fun g hg _=>hg.1) (by omega) rfl (by unfold maxLen;omega) 23 [] 0 p) (L.tk.alloc _) (fun _ e=>e) hlt.2
      · rw [if_neg h8] at hR
        subst hR
        go_enter Tryz.func103,Tryz.ntmps103
        go_wp2_with (first | (go_at_call 127;refine (CE _ (h.alloc _) (by simp)).mono ?_;rintro e w1 ⟨k,tt,n,p,a1,c1,ks,rfl,rfl,hTN,hTk⟩;have L:=Lf.begin h hTk hTN;have KB : (k != 8) = true:=(by have e8 : ¬ k = 8:=h8;simpa using e8)) | (go_at_call 64;refine (is_v b m T _ t2 _ _ L.tk.ps (by assumption)).mono ?_;rintro e w2 ⟨rfl,hb2⟩;have L:=L.below hb2;obtain ⟨p0,p1,p2,p3,p4⟩:=L.box.five;obtain ⟨q0,q1,q2,q3,q4⟩:=L.res.fiveA;obtain ⟨f0,f1,f2,f3,f4⟩:=L.res.frozen5A) | (go_at_call 45;refine (at_any b m T l2 t2 _ L.tk.ps).mono ?_;rintro e w3 ⟨rfl,hb3⟩;have L:=L.below hb3) | (go_at_call 44;refine (refuse_p _ _).mono ?_;rintro e w4 ⟨he,hb4⟩;unfold refp at he;subst he))
        exact ⟨rfl,rfl,L.tk.ky.trans (.of_below hb4)⟩
end Go.Proofs.YtkjbgggghigapaaGreat


namespace Go.Proofs.YtkjbgggghigapaaGreat
open Go.RowKit
theorem cc_every (n:Nat):CC n:=cc_all (fun N H b m T l W h hr=>assign_any N H b m T l W h hr) n
theorem hc_every:HC:=fun b m T l W h=>chunk_any cc_every b m T l W h
theorem parse_any (s:ByteArray) (w:World) (hs:s.size≤9223372036854775807):
 Calls Tryz.prog 16 #[.string s] w fun e W'=>∃k t n p a c ks,e= .returned (.tuple #[(.agg #[.int .i64 (k),.string ⟨(t).toArray⟩,.int .i64 (n),.int .i64 (p),.slice a ks.len c]),.agg #[.int .i64 (prT s.data.toList).2.1,.int .i64 (prT s.data.toList).2.2]])∧(prT s.data.toList).1=one k t n p ks∧TN 54 W' (fun g=>w.heap.size≤g) k t n p (.slice a ks.len c) ks∧Below w.heap.size w W':=Parse_any hc_every s w hs
end Go.Proofs.YtkjbgggghigapaaGreat
