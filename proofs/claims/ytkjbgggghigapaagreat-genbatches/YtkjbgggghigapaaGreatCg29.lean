import Derived.Test.YtkjbgggghigapaaGreatCg20
import Derived.Deep.QuietTactic
import Derived.BigQuiet
import Derived.Laws.NewBlocks
import Derived.Test.YtkjbgggghigapaaGreatCg27
import Derived.Test.YtkjbgggghigapaaGreatCg28
namespace Go.Proofs.YtkjbgggghigapaaGreat
open Go.RowKit
theorem wp_class {P : Program} {X : Type} {F : X → World} {id : Nat} {Q : Exit → Act → World → Prop} {a : Act} {w : World} {l : List Oper} (hm : P.follows .mixedOrders = true) (hB : Region.lexB .any l.toArray = true) (hC : ∃ x,w.drew = F x)
    (h : wpQuiet P l.toArray (fun w'=>∃ x,w' = F x) (fun a'=>∀ w',(∃ x,w' = F x) → Q .normal a' w') l a) : (Code.region id l.toArray true).wp P Q a w :=
  wp_region_quiet (C:=fun w'=>∃ x,w' = F x) hm hB hC (by simpa using h)
theorem class_of (W : World) : ∃ (X : Type) (F : X → World),(∀ x,Below W.heap.size W (F x)) ∧ (∀ w',Below W.heap.size W w' → ∃ x,w' = F x) :=
  ⟨{ w' // Below W.heap.size W w' },Subtype.val,fun x=>x.2,fun w' h=>⟨⟨w',h⟩,rfl⟩⟩
structure Fd (b m : Nat) (T l : List Tok) (W : World) (X : Nat) (p : Int) (kc : Array Value) (w : World) : Prop where
  tk : Tk b m T l W w
  res : Bx W.heap.size 54 #[.int .i64 0,.string ⟨#[]⟩,.int .i64 0,.int .i64 0,.slice none 0 0] w
  box : Bx X 54 #[.int .i64 14,.string ⟨#[]⟩,.int .i64 0,.int .i64 p,.slice none 0 0] w
  key : Bx (X + 1) 54 kc w
  lt : b < W.heap.size ∧ m ≤ W.heap.size ∧ W.heap.size < X
section
variable {b m : Nat} {T l l' : List Tok} {W : World} {X : Nat} {p : Int} {kc : Array Value} {w w' : World}
theorem Fd.below (h : Fd b m T l W X p kc w) (hb : Below w.heap.size w w') : Fd b m T l W X p kc w':=⟨h.tk.below hb,h.res.below hb,h.box.below hb,h.key.below hb,h.lt⟩
theorem Fd.alloc (h : Fd b m T l W X p kc w) (o : Obj) : Fd b m T l W X p kc (w.alloc o):=⟨h.tk.alloc o,h.res.alloc o,h.box.alloc o,h.key.alloc o,h.lt⟩
theorem Fd.drew (h : Fd b m T l W X p kc w) : Fd b m T l W X p kc w.drew:=⟨h.tk.drew,h.res.drew,h.box.drew,h.key.drew,h.lt⟩
theorem Fd.took (h : Fd b m T l W X p kc w) (hT : Tk b m T l' w w') : Fd b m T l' W X p kc w':=by
  have hlt:=h.lt
  exact ⟨h.tk.trans hT,h.res.ky hT.ky (by omega),h.box.ky hT.ky (by omega),h.key.ky hT.ky (by omega),h.lt⟩
theorem Fd.put {u0 u1 u2 u3 u4 v0 v1 v2 v3 v4 : Value} (h : Fd b m T l W X p #[v0,v1,v2,v3,v4] w) : Fd b m T l W X p #[u0,u1,u2,u3,u4] (((((w.setCell ⟨X + 1,0,none⟩ u0).setCell ⟨X + 1,1,none⟩ u1).setCell ⟨X + 1,2,none⟩ u2).setCell ⟨X + 1,3,none⟩ u3).setCell ⟨X + 1,4,none⟩ u4):=by
  have hlt:=h.lt
  exact ⟨h.tk.five (by omega) hlt.2.1 _ _ _ _ _,h.res.five_set (by omega) _ _ _ _ _,h.box.five_set (by omega) _ _ _ _ _,h.key.five_put _ _ _ _ _,h.lt⟩
theorem Fd.putN {v0 v1 v2 v3 v4 : Value} (h : Fd b m T l W X p #[v0,v1,v2,v3,v4] w) (u0 u1 u2 u3 u4 : Value) : ∃ wF,((((w.setCell ⟨X + 1,0,none⟩ u0).setCell ⟨X + 1,1,none⟩ u1).setCell ⟨X + 1,2,none⟩ u2).setCell ⟨X + 1,3,none⟩ u3).setCell ⟨X + 1,4,none⟩ u4 = wF ∧ Fd b m T l W X p #[u0,u1,u2,u3,u4] wF:=⟨_,rfl,h.put⟩
theorem Fd.kids (h : Fd b m T l W X p kc w) (v : Value) : ∃ wF,w.setCell ⟨X,4,none⟩ v = wF ∧ Tk b m T l W wF ∧ Bx W.heap.size 54 #[.int .i64 0,.string ⟨#[]⟩,.int .i64 0,.int .i64 0,.slice none 0 0] wF ∧ Bx X 54 #[.int .i64 14,.string ⟨#[]⟩,.int .i64 0,.int .i64 p,v] wF:=by
  have hlt:=h.lt
  exact ⟨_,rfl,h.tk.new (by omega) hlt.2.1 _,h.res.set (by omega) _,h.box.put4 _⟩
theorem Fd.begin {w1 : World} (h : Tk b m T l W w1) (hr : Bx W.heap.size 54 #[.int .i64 0,.string ⟨#[]⟩,.int .i64 0,.int .i64 0,.slice none 0 0] w1) (hlt : b < W.heap.size ∧ m ≤ W.heap.size) (p : Int) : Fd b m T l W w1.heap.size p #[.int .i64 0,.string ⟨#[]⟩,.int .i64 0,.int .i64 0,.slice none 0 0] ((w1.alloc (.cells #[.int .i64 (14),.string ⟨#[]⟩,.int .i64 (0),.int .i64 (p),.slice none 0 0] 54)).alloc (.cells #[.int .i64 0,.string ⟨#[]⟩,.int .i64 0,.int .i64 0,.slice none 0 0] 54)) :=
  ⟨(h.alloc _).alloc _,(hr.alloc _).alloc _,(Bx.new _ _ _).alloc _,by have:=Bx.new (w1.alloc (.cells #[.int .i64 (14),.string ⟨#[]⟩,.int .i64 (0),.int .i64 (p),.slice none 0 0] 54)) 54 #[.int .i64 0,.string ⟨#[]⟩,.int .i64 0,.int .i64 0,.slice none 0 0];simpa using this,⟨hlt.1,hlt.2,hr.lt⟩⟩
end
theorem PS.reads2 {b m : Nat} {T l : List Tok} {t u : Tok} {W : World} (h : PS b m T (t :: u :: l) W) : ∃ g cap i : Nat,W.cell? ⟨b,0,none⟩ = some (.slice (some ⟨g,0,none⟩) T.length cap) ∧ W.cell? ⟨b,1,none⟩ = some (.int .i64 i) ∧ i + 1 < T.length ∧ i + 2 ≤ 20001 ∧
    W.cell? ⟨g,(i + 1) * 4,none⟩ = some (.int .i64 u.k) ∧ W.cell? ⟨g,(i + 1) * 4 + 1,none⟩ = some (.string ⟨u.t.toArray⟩) ∧ W.cell? ⟨g,(i + 1) * 4 + 2,none⟩ = some (.int .i64 u.v) ∧ W.cell? ⟨g,(i + 1) * 4 + 3,none⟩ = some (.int .i64 u.p):=by
  obtain ⟨g,cap,h1,h2,h3,h4⟩:=h.tok
  obtain ⟨i,h5,h6,h7⟩:=h.plc
  have hs:=h.small
  have hi : T[i + 1]? = some u:=by
    have : (T.drop i)[1]? = some u:=by rw [h6];rfl
    simpa using this
  simp at h7
  have hc:=fun j hj=>cellsT_at T (i + 1) j u hi hj
  refine ⟨g,cap,i,h1,h5,by omega,by omega,h4 _ _ (hc 0 (by omega)),h4 _ _ (hc 1 (by omega)),h4 _ _ (hc 2 (by omega)),h4 _ _ (hc 3 (by omega))⟩
set_option maxRecDepth 20000 in
set_option maxHeartbeats 16000000 in
theorem field_any (N : Nat) (H : ∀ n,n ≤ N → CC n) (b m : Nat) (T l : List Tok) (W : World) (h : PS b m T l W) (hr : pr (N + 1) .fld l ≠ .out) : Calls Tryz.prog 164 #[.pointer (some ⟨b,0,none⟩)] W (PN b m T W (pr (N + 1) .fld l)):=by
  have hlt:=h.lt
  have hbW : W.heap.size ≠ b:=by omega
  obtain ⟨t,l1,rfl⟩:=h.cons
  obtain ⟨R,hR⟩ : ∃ R,pr (N + 1) .fld (t :: l1) = R:=⟨_,rfl⟩
  rw [hR] at hr ⊢
  rw [pr_succ] at hR
  simp only [stp',List.tail_cons,show hc (t :: l1) = cls t from rfl,show ha (t :: l1) = t.p from rfl,show ht (t :: l1) = t.t from rfl] at hR
  have CX:=fun l W h=>(H N (Nat.le_refl _)).ex 0 b m T l W h
  by_cases h19 : cls t = 19
  · have wt19 : rd t [91] = true:=cls_rd (c:=19) (by omega) (by decide) (by decide)
    rw [if_pos h19] at hR
    have CY:=fun W h=>CX l1 W h
    cases he : pr N (.ex 0) l1 with
    | out=>rw [he] at hR;exact absurd hR.symm hr
    | bad p =>
      rw [he] at hR CY
      simp only [PR.bind] at hR
      subst hR
      go_enter Tryz.func164,Tryz.ntmps164
      go_wp2_with (first | (go_at_call 45;refine (at_any b m T l1 t _ (h.alloc _)).mono ?_;rintro e w1 ⟨rfl,hb1⟩;have D:=Fd.begin ((h.tk.alloc _).below hb1) ((Bx.new W 54 _).below hb1) (by omega) t.p) | (go_at_call 63;refine (accept_t b m T l1 t _ _ D.tk.ps (by assumption)).mono ?_;rintro e w2 ⟨rfl,hT2⟩;have D:=D.took hT2))
      obtain ⟨X,hX⟩ : ∃ X,w1.heap.size = X:=⟨_,rfl⟩
      rw [hX] at D ⊢
      clear hX
      have hx0:=D.key.lt
      have hl0:=D.lt
      go_wp2_with (go_at_call 124;refine (CY _ D.tk.ps (by simp)).mono ?_;rintro e w3 ⟨he,hk⟩;unfold refp at he;subst he)
      exact ⟨rfl,rfl,D.tk.ky.trans hk⟩
    | ok g l3 =>
      obtain ⟨t3,l4,rfl⟩:=(pr_ends he (h.ends.tail (by omega))).cons
      rw [he] at hR CY
      simp only [PR.bind,need] at hR
      by_cases h20 : cls t3 = 20
      · have wt320 : rd t3 [93] = true:=cls_rd (c:=20) (by omega) (by decide) (by decide)
        rw [if_pos (show hc (t3 :: l4) = 20 from h20)] at hR
        obtain ⟨u,l2,rfl⟩:=tail_cons (pr_ends he (h.ends.tail (by omega))) (by omega)
        by_cases hu : cls u = 14
        · have wu14 : rd u [61] = true:=cls_rd (c:=14) (by omega) (by decide) (by decide)
          rw [if_pos (show hc (List.tail (t3 :: u :: l2)) = 14 from hu)] at hR
          change (pr N (.ex 0) l2).bind (fun v l1=>.ok (one 14 [] 0 t.p (g.app v)) l1) = R at hR
          cases he2 : pr N (.ex 0) l2 with
          | out=>rw [he2] at hR;exact absurd hR.symm hr
          | bad p2 =>
            rw [he2] at hR
            simp only [PR.bind] at hR
            subst hR
            have CE:=fun W h=>CX l2 W h
            rw [he2] at CE
            go_enter Tryz.func164,Tryz.ntmps164
            go_wp2_with (first | (go_at_call 45;refine (at_any b m T l1 t _ (h.alloc _)).mono ?_;rintro e w1 ⟨rfl,hb1⟩;have D:=Fd.begin ((h.tk.alloc _).below hb1) ((Bx.new W 54 _).below hb1) (by omega) t.p) | (go_at_call 63;refine (accept_t b m T l1 t _ _ D.tk.ps (by assumption)).mono ?_;rintro e w2 ⟨rfl,hT2⟩;have D:=D.took hT2))
            obtain ⟨X,hX⟩ : ∃ X,w1.heap.size = X:=⟨_,rfl⟩
            rw [hX] at D ⊢
            clear hX
            have hx0:=D.key.lt
            have hl0:=D.lt
            go_wp2_with (first | (go_at_call 124;refine (CY _ D.tk.ps (by simp)).mono ?_;rintro e w3 ⟨k,tt,n,p,a1,c1,ks,rfl,rfl,hTN,hTk⟩;have D:=D.took hTk;obtain ⟨p0,p1,p2,p3,p4⟩:=D.key.five;obtain ⟨f0,f1,f2,f3,f4⟩:=D.key.frozen5;have KT:=(hTN.mono (Q:=fun g=>X + 1 < g) (fun g hg _=>by omega)).five (X:=X + 1) (by omega) (.int .i64 k) (.string ⟨tt.toArray⟩) (.int .i64 n) (.int .i64 p) (.slice a1 ks.len c1);obtain ⟨wK,hwK,D⟩:=D.putN (.int .i64 k) (.string ⟨tt.toArray⟩) (.int .i64 n) (.int .i64 p) (.slice a1 ks.len c1);rw [hwK] at KT) | (go_at_call 96;refine (expect_t b m T (u :: l2) t3 _ _ D.tk.ps (by assumption)).mono ?_;rintro e w4 ⟨rfl,hT4⟩;have D:=D.took hT4;have KT:=KT.ky hT4.ky (by omega)) | (go_at_call 96;refine (expect_t b m T l2 u _ _ D.tk.ps (by assumption)).mono ?_;rintro e w4 ⟨rfl,hT4⟩;have D:=D.took hT4;have KT:=KT.ky hT4.ky (by omega)))
            have D1:=D.drew
            obtain ⟨p0,p1,p2',p3,p4⟩:=D1.key.five
            go_region_dies
            all_goals
              refine (CE _ D1.tk.ps (by simp)).mono ?_
              rintro e w5 ⟨he,hk⟩
              unfold refp at he
              subst he
              exact ⟨rfl,rfl,D1.tk.ky.trans hk⟩
          | ok g2 l5 =>
            rw [he2] at hR
            simp only [PR.bind] at hR
            subst hR
            have CE:=fun W h=>CX l2 W h
            rw [he2] at CE
            go_enter Tryz.func164,Tryz.ntmps164
            go_wp2_with (first | (go_at_call 45;refine (at_any b m T l1 t _ (h.alloc _)).mono ?_;rintro e w1 ⟨rfl,hb1⟩;have D:=Fd.begin ((h.tk.alloc _).below hb1) ((Bx.new W 54 _).below hb1) (by omega) t.p) | (go_at_call 63;refine (accept_t b m T l1 t _ _ D.tk.ps (by assumption)).mono ?_;rintro e w2 ⟨rfl,hT2⟩;have D:=D.took hT2))
            obtain ⟨X,hX⟩ : ∃ X,w1.heap.size = X:=⟨_,rfl⟩
            rw [hX] at D ⊢
            clear hX
            have hx0:=D.key.lt
            have hl0:=D.lt
            go_wp2_with (first | (go_at_call 124;refine (CY _ D.tk.ps (by simp)).mono ?_;rintro e w3 ⟨k,tt,n,p,a1,c1,ks,rfl,rfl,hTN,hTk⟩;have D:=D.took hTk;obtain ⟨p0,p1,p2,p3,p4⟩:=D.key.five;obtain ⟨f0,f1,f2,f3,f4⟩:=D.key.frozen5;have KT:=(hTN.mono (Q:=fun g=>X + 1 < g) (fun g hg _=>by omega)).five (X:=X + 1) (by omega) (.int .i64 k) (.string ⟨tt.toArray⟩) (.int .i64 n) (.int .i64 p) (.slice a1 ks.len c1);obtain ⟨wK,hwK,D⟩:=D.putN (.int .i64 k) (.string ⟨tt.toArray⟩) (.int .i64 n) (.int .i64 p) (.slice a1 ks.len c1);rw [hwK] at KT) | (go_at_call 96;refine (expect_t b m T (u :: l2) t3 _ _ D.tk.ps (by assumption)).mono ?_;rintro e w4 ⟨rfl,hT4⟩;have D:=D.took hT4;have KT:=KT.ky hT4.ky (by omega)) | (go_at_call 96;refine (expect_t b m T l2 u _ _ D.tk.ps (by assumption)).mono ?_;rintro e w4 ⟨rfl,hT4⟩;have D:=D.took hT4;have KT:=KT.ky hT4.ky (by omega)))
            have D1:=D.drew
            have KT1:=KT.keep (w':=w4.drew) fun _ _ _=>rfl
            obtain ⟨p0,p1,p2',p3,p4⟩:=D1.key.five
            have hx1:=D1.key.lt
            have hl1:=D1.lt
            go_region_with (go_at_call 124;refine (CE _ D1.tk.ps (by simp)).mono ?_;rintro e w5 ⟨k2,tt2,n2,p2,a2,c2,ks2,rfl,rfl,hTN,hTk⟩;have D5:=D1.took hTk;have KT5:=KT1.ky hTk.ky (by omega);obtain ⟨s0,s1,s2,s3,s4⟩:=D5.key.five;obtain ⟨-,-,-,-,v4⟩:=D5.box.fiveA;obtain ⟨-,-,-,-,g4⟩:=D5.box.frozen5A;have hx5:=D5.key.lt;have M5:=TN.made (cur:=#[.int .i64 k,.string ⟨(tt).toArray⟩,.int .i64 n,.int .i64 p,.slice a1 ks.len c1,.int .i64 k2,.string ⟨tt2.toArray⟩,.int .i64 n2,.int .i64 p2,.slice a2 ks2.len c2]) (c:=2) (Q:=fun g=>X + 1 < g) (KT5.kf.app (hTN.kf.mono fun g hg _=>by omega)) (by omega) rfl (by unfold maxLen;omega) 14 [] 0 t.p;obtain ⟨wF,hwF,TF,RF,BF⟩:=(D5.alloc (.cells #[.int .i64 k,.string ⟨(tt).toArray⟩,.int .i64 n,.int .i64 p,.slice a1 ks.len c1,.int .i64 k2,.string ⟨tt2.toArray⟩,.int .i64 n2,.int .i64 p2,.slice a2 ks2.len c2] 54)).kids (.slice (some ⟨w5.heap.size,0,none⟩) 2 2);have MF:=M5.set (X:=X) (o:=4) (by omega) (.slice (some ⟨w5.heap.size,0,none⟩) 2 2);rw [hwF] at MF;obtain ⟨b0,b1,b2,b3,b4⟩:=BF.five;obtain ⟨q0,q1,q2,q3,q4⟩:=RF.five;obtain ⟨f0,f1,f2,f3,f4⟩:=RF.frozen5)
            all_goals
              go_wp2
              refine bodyPost_ret (v:=(.agg #[.int .i64 (14),.string ⟨#[]⟩,.int .i64 (0),.int .i64 (t.p),.slice (some ⟨w5.heap.size,0,none⟩) 2 2])) (by simp [results,Tryz.results164,go_sem,q0,q1,q2,q3,q4]) rfl ?_
              exact PN.five MF TF (fun g hg=>by omega) hlt.2
        · have wu14 : rd u [61] = false:=cls_nrd (c:=14) (by omega) (by decide) (by decide)
          rw [if_neg (show ¬ hc (List.tail (t3 :: u :: l2)) = 14 from hu)] at hR
          subst hR
          go_enter Tryz.func164,Tryz.ntmps164
          go_wp2_with (first | (go_at_call 45;refine (at_any b m T l1 t _ (h.alloc _)).mono ?_;rintro e w1 ⟨rfl,hb1⟩;have D:=Fd.begin ((h.tk.alloc _).below hb1) ((Bx.new W 54 _).below hb1) (by omega) t.p) | (go_at_call 63;refine (accept_t b m T l1 t _ _ D.tk.ps (by assumption)).mono ?_;rintro e w2 ⟨rfl,hT2⟩;have D:=D.took hT2))
          obtain ⟨X,hX⟩ : ∃ X,w1.heap.size = X:=⟨_,rfl⟩
          rw [hX] at D ⊢
          clear hX
          have hx0:=D.key.lt
          have hl0:=D.lt
          go_wp2_with (first | (go_at_call 124;refine (CY _ D.tk.ps (by simp)).mono ?_;rintro e w3 ⟨k,tt,n,p,a1,c1,ks,rfl,rfl,hTN,hTk⟩;have D:=D.took hTk;obtain ⟨p0,p1,p2,p3,p4⟩:=D.key.five;obtain ⟨f0,f1,f2,f3,f4⟩:=D.key.frozen5;have KT:=(hTN.mono (Q:=fun g=>X + 1 < g) (fun g hg _=>by omega)).five (X:=X + 1) (by omega) (.int .i64 k) (.string ⟨tt.toArray⟩) (.int .i64 n) (.int .i64 p) (.slice a1 ks.len c1);obtain ⟨wK,hwK,D⟩:=D.putN (.int .i64 k) (.string ⟨tt.toArray⟩) (.int .i64 n) (.int .i64 p) (.slice a1 ks.len c1);rw [hwK] at KT) | (go_at_call 96;refine (expect_t b m T (u :: l2) t3 _ _ D.tk.ps (by assumption)).mono ?_;rintro e w4 ⟨rfl,hT4⟩;have D:=D.took hT4;have KT:=KT.ky hT4.ky (by omega)) | (go_at_call 96;refine (expect_f b m T l2 u _ _ D.tk.ps (by assumption)).mono ?_;rintro e w4 ⟨he,hb4⟩;unfold refp at he;subst he))
          exact ⟨rfl,rfl,D.tk.ky.trans (.of_below hb4)⟩
      · have wt320 : rd t3 [93] = false:=cls_nrd (c:=20) (by omega) (by decide) (by decide)
        rw [if_neg (show ¬ hc (t3 :: l4) = 20 from h20)] at hR
        subst hR
        go_enter Tryz.func164,Tryz.ntmps164
        go_wp2_with (first | (go_at_call 45;refine (at_any b m T l1 t _ (h.alloc _)).mono ?_;rintro e w1 ⟨rfl,hb1⟩;have D:=Fd.begin ((h.tk.alloc _).below hb1) ((Bx.new W 54 _).below hb1) (by omega) t.p) | (go_at_call 63;refine (accept_t b m T l1 t _ _ D.tk.ps (by assumption)).mono ?_;rintro e w2 ⟨rfl,hT2⟩;have D:=D.took hT2))
        obtain ⟨X,hX⟩ : ∃ X,w1.heap.size = X:=⟨_,rfl⟩
        rw [hX] at D ⊢
        clear hX
        have hx0:=D.key.lt
        have hl0:=D.lt
        go_wp2_with (first | (go_at_call 124;refine (CY _ D.tk.ps (by simp)).mono ?_;rintro e w3 ⟨k,tt,n,p,a1,c1,ks,rfl,rfl,hTN,hTk⟩;have D:=D.took hTk;obtain ⟨p0,p1,p2,p3,p4⟩:=D.key.five;obtain ⟨f0,f1,f2,f3,f4⟩:=D.key.frozen5;have KT:=(hTN.mono (Q:=fun g=>X + 1 < g) (fun g hg _=>by omega)).five (X:=X + 1) (by omega) (.int .i64 k) (.string ⟨tt.toArray⟩) (.int .i64 n) (.int .i64 p) (.slice a1 ks.len c1);obtain ⟨wK,hwK,D⟩:=D.putN (.int .i64 k) (.string ⟨tt.toArray⟩) (.int .i64 n) (.int .i64 p) (.slice a1 ks.len c1);rw [hwK] at KT) | (go_at_call 96;refine (expect_f b m T l4 t3 _ _ D.tk.ps (by assumption)).mono ?_;rintro e w4 ⟨he,hb4⟩;unfold refp at he;subst he))
        exact ⟨rfl,rfl,D.tk.ky.trans (.of_below hb4)⟩
  · have wt19 : rd t [91] = false:=cls_nrd (c:=19) (by omega) (by decide) (by decide)
    rw [if_neg h19] at hR
    by_cases h51 : cls t = 51 ∧ hc l1 = 14
    · obtain ⟨u,l2,rfl⟩:=tail_cons h.ends (by omega)
      rw [if_pos h51] at hR
      have hu : cls u = 14:=h51.2
      have h51t : cls t = 51:=h51.1
      have wu14 : rd u [61] = true:=cls_rd (c:=14) (by omega) (by decide) (by decide)
      simp only [List.tail_cons] at hR
      go_enter Tryz.func164,Tryz.ntmps164
      go_wp2_with (first | (go_at_call 45;refine (at_any b m T (u :: l2) t _ (h.alloc _)).mono ?_;rintro e w1 ⟨rfl,hb1⟩;have D:=Fd.begin ((h.tk.alloc _).below hb1) ((Bx.new W 54 _).below hb1) (by omega) t.p) | (go_at_call 63;refine (accept_f b m T (u :: l2) t _ _ D.tk.ps (by assumption)).mono ?_;rintro e w2 ⟨rfl,hb2⟩;have D:=D.below hb2))
      obtain ⟨X,hX⟩ : ∃ X,w1.heap.size = X:=⟨_,rfl⟩
      rw [hX] at D ⊢
      go_cut [21] from 22 to 39 (fun v wx=>v = .bool true ∧ Fd b m T (t :: u :: l2) W X t.p #[.int .i64 0,.string ⟨#[]⟩,.int .i64 0,.int .i64 0,.slice none 0 0] wx)
      case first =>
        obtain ⟨Y,F,F1,F2⟩:=class_of w2
        have HC : Hid (∃ x,w2.drew = F x):=F2 _ (Below.refl _ _).drew
        have hS : ∀ x,Calls Tryz.prog 43 #[.pointer (some ⟨b,0,none⟩)] (F x) fun e w''=>e = .returned (.agg #[.int .i64 t.k,.string ⟨t.t.toArray⟩,.int .i64 t.v,.int .i64 t.p]) ∧ ∃ y,w'' = F y:=fun x =>
          (token_any b m T (u :: l2) t (F x) (D.tk.ps.below (F1 x))).mono fun e w' ⟨he,hw⟩=>⟨he,F2 w' ((F1 x).trans (hw.mono (F1 x).size))⟩
        have HD : Hid (∀ x,Fd b m T (t :: u :: l2) W X t.p #[.int .i64 0,.string ⟨#[]⟩,.int .i64 0,.int .i64 0,.slice none 0 0] (F x)):=fun x=>D.below (F1 x)
        haveI : Nonempty Y:=HC.out.elim fun x _=>⟨x⟩
        have k1 : (t.k == 1) = true:=by have:=cls_kind t 51 h51.1 (by omega);rw [this];rfl
        have hps : PS b m T (t :: u :: l2) w2:=D.tk.ps
        obtain ⟨g0,cap0,i0,r1,r2,r3,r4,c0,c1,c2,c3⟩:=hps.reads2
        have hb2' : b < w2.heap.size:=by have:=hps.lt;omega
        have hg2 : g0 < w2.heap.size:=World.block_lt_of_cell? w2 ⟨g0,(i0 + 1) * 4,none⟩ c0
        have r1x : ∀ x,(F x).cell? ⟨b,0,none⟩ = some (.slice (some ⟨g0,0,none⟩) T.length cap0):=fun x=>((F1 x).cell hb2').trans r1
        have r2x : ∀ x,(F x).cell? ⟨b,1,none⟩ = some (.int .i64 i0):=fun x=>((F1 x).cell hb2').trans r2
        have c0x : ∀ x,(F x).cell? ⟨g0,(i0 + 1) * 4,none⟩ = some (.int .i64 u.k):=fun x=>((F1 x).cell hg2).trans c0
        have c1x : ∀ x,(F x).cell? ⟨g0,(i0 + 1) * 4 + 1,none⟩ = some (.string ⟨u.t.toArray⟩):=fun x=>((F1 x).cell hg2).trans c1
        have c2x : ∀ x,(F x).cell? ⟨g0,(i0 + 1) * 4 + 2,none⟩ = some (.int .i64 u.v):=fun x=>((F1 x).cell hg2).trans c2
        have c3x : ∀ x,(F x).cell? ⟨g0,(i0 + 1) * 4 + 3,none⟩ = some (.int .i64 u.p):=fun x=>((F1 x).cell hg2).trans c3
        have hM : ∀ x,Calls Tryz.prog 92 #[.agg #[.int .i64 u.k,.string ⟨u.t.toArray⟩,.int .i64 u.v,.int .i64 u.p],.string ⟨#[61]⟩] (F x) fun e w''=>e = .returned (.bool true) ∧ ∃ y,w'' = F y:=fun x =>
          (reads_any u [61] (F x)).mono fun e w' ⟨he,hw⟩=>⟨by rw [he,wu14],F2 w' ((F1 x).trans (hw.mono (F1 x).size))⟩
        clear F1 F2 r1 r2 c0 c1 c2 c3
        refine wp_class (F:=F) (by kernel_rfl) (by kernel_rfl) HC.out ?_
        repeat (go_big_quiet_step (first | exact hS _ | exact hM _))
        refine wpQuiet_nil ?_
        intro _ hw'
        obtain ⟨x,rfl⟩:=hw'
        go_wp2_with fail
        go_meet
        exact ⟨rfl,HD.out x⟩
      case rest =>
        obtain ⟨rfl,D⟩:=hcut
        cases he2 : pr N (.ex 0) l2 with
        | out=>rw [he2] at hR;exact absurd hR.symm hr
        | bad p2 =>
          rw [he2] at hR
          simp only [PR.bind] at hR
          subst hR
          have CE:=fun W h=>CX l2 W h
          rw [he2] at CE
          go_wp2_with (first | (go_at_call 143;refine (nameText_yes b m T (u :: l2) t _ D.tk.ps h51t).mono ?_;rintro e w3 ⟨rfl,hT3⟩;have D:=D.took hT3;obtain ⟨p0,p1,p2,p3,p4⟩:=D.key.five;obtain ⟨f0,f1,f2,f3,f4⟩:=D.key.frozen5;obtain ⟨wK,hwK,D⟩:=D.putN (.int .i64 5) (.string ⟨t.t.toArray⟩) (.int .i64 0) (.int .i64 t.p) (.slice none 0 0)) | (go_at_call 96;refine (expect_t b m T l2 u _ _ D.tk.ps (by assumption)).mono ?_;rintro e w4 ⟨rfl,hT4⟩;have D:=D.took hT4))
          have KT : TN 54 w4 (fun g=>X + 1 < g) 5 t.t 0 t.p (.slice none 0 0) .nil:=TN.leaf _ _ _ _ _ _ _
          have D1:=D.drew
          obtain ⟨p0,p1,p2',p3,p4⟩:=D1.key.five
          go_region_dies
          all_goals
            refine (CE _ D1.tk.ps (by simp)).mono ?_
            rintro e w5 ⟨he,hk⟩
            unfold refp at he
            subst he
            exact ⟨rfl,rfl,D1.tk.ky.trans hk⟩
        | ok g2 l5 =>
          rw [he2] at hR
          simp only [PR.bind] at hR
          subst hR
          have CE:=fun W h=>CX l2 W h
          rw [he2] at CE
          go_wp2_with (first | (go_at_call 143;refine (nameText_yes b m T (u :: l2) t _ D.tk.ps h51t).mono ?_;rintro e w3 ⟨rfl,hT3⟩;have D:=D.took hT3;obtain ⟨p0,p1,p2,p3,p4⟩:=D.key.five;obtain ⟨f0,f1,f2,f3,f4⟩:=D.key.frozen5;obtain ⟨wK,hwK,D⟩:=D.putN (.int .i64 5) (.string ⟨t.t.toArray⟩) (.int .i64 0) (.int .i64 t.p) (.slice none 0 0)) | (go_at_call 96;refine (expect_t b m T l2 u _ _ D.tk.ps (by assumption)).mono ?_;rintro e w4 ⟨rfl,hT4⟩;have D:=D.took hT4))
          have KT : TN 54 w4 (fun g=>X + 1 < g) 5 t.t 0 t.p (.slice none 0 0) .nil:=TN.leaf _ _ _ _ _ _ _
          have D1:=D.drew
          have KT1:=KT.keep (w':=w4.drew) fun _ _ _=>rfl
          obtain ⟨p0,p1,p2',p3,p4⟩:=D1.key.five
          have hx1:=D1.key.lt
          have hl1:=D1.lt
          go_region_with (go_at_call 124;refine (CE _ D1.tk.ps (by simp)).mono ?_;rintro e w5 ⟨k2,tt2,n2,p2,a2,c2,ks2,rfl,rfl,hTN,hTk⟩;have D5:=D1.took hTk;have KT5:=KT1.ky hTk.ky (by omega);obtain ⟨s0,s1,s2,s3,s4⟩:=D5.key.five;obtain ⟨-,-,-,-,v4⟩:=D5.box.fiveA;obtain ⟨-,-,-,-,g4⟩:=D5.box.frozen5A;have hx5:=D5.key.lt;have M5:=TN.made (cur:=#[.int .i64 5,.string ⟨(t.t).toArray⟩,.int .i64 0,.int .i64 t.p,.slice none 0 0,.int .i64 k2,.string ⟨tt2.toArray⟩,.int .i64 n2,.int .i64 p2,.slice a2 ks2.len c2]) (c:=2) (Q:=fun g=>X + 1 < g) (KT5.kf.app (hTN.kf.mono fun g hg _=>by omega)) (by omega) rfl (by unfold maxLen;omega) 14 [] 0 t.p;obtain ⟨wF,hwF,TF,RF,BF⟩:=(D5.alloc (.cells #[.int .i64 5,.string ⟨(t.t).toArray⟩,.int .i64 0,.int .i64 t.p,.slice none 0 0,.int .i64 k2,.string ⟨tt2.toArray⟩,.int .i64 n2,.int .i64 p2,.slice a2 ks2.len c2] 54)).kids (.slice (some ⟨w5.heap.size,0,none⟩) 2 2);have MF:=M5.set (X:=X) (o:=4) (by omega) (.slice (some ⟨w5.heap.size,0,none⟩) 2 2);rw [hwF] at MF;obtain ⟨b0,b1,b2,b3,b4⟩:=BF.five;obtain ⟨q0,q1,q2,q3,q4⟩:=RF.five;obtain ⟨f0,f1,f2,f3,f4⟩:=RF.frozen5)
          all_goals
            go_wp2
            refine bodyPost_ret (v:=(.agg #[.int .i64 (14),.string ⟨#[]⟩,.int .i64 (0),.int .i64 (t.p),.slice (some ⟨w5.heap.size,0,none⟩) 2 2])) (by simp [results,Tryz.results164,go_sem,q0,q1,q2,q3,q4]) rfl ?_
            exact PN.five MF TF (fun g hg=>by omega) hlt.2
    · rw [if_neg h51] at hR
      go_enter Tryz.func164,Tryz.ntmps164
      go_wp2_with (first | (go_at_call 45;refine (at_any b m T l1 t _ (h.alloc _)).mono ?_;rintro e w1 ⟨rfl,hb1⟩;have D:=Fd.begin ((h.tk.alloc _).below hb1) ((Bx.new W 54 _).below hb1) (by omega) t.p) | (go_at_call 63;refine (accept_f b m T l1 t _ _ D.tk.ps (by assumption)).mono ?_;rintro e w2 ⟨rfl,hb2⟩;have D:=D.below hb2))
      obtain ⟨X,hX⟩ : ∃ X,w1.heap.size = X:=⟨_,rfl⟩
      rw [hX] at D ⊢
      go_cut [21] from 22 to 39 (fun v wx=>v = .bool false ∧ Fd b m T (t :: l1) W X t.p #[.int .i64 0,.string ⟨#[]⟩,.int .i64 0,.int .i64 0,.slice none 0 0] wx)
      case first =>
        obtain ⟨Y,F,F1,F2⟩:=class_of w2
        have HC : Hid (∃ x,w2.drew = F x):=F2 _ (Below.refl _ _).drew
        have hS : ∀ x,Calls Tryz.prog 43 #[.pointer (some ⟨b,0,none⟩)] (F x) fun e w''=>e = .returned (.agg #[.int .i64 t.k,.string ⟨t.t.toArray⟩,.int .i64 t.v,.int .i64 t.p]) ∧ ∃ y,w'' = F y:=fun x =>
          (token_any b m T l1 t (F x) (D.tk.ps.below (F1 x))).mono fun e w' ⟨he,hw⟩=>⟨he,F2 w' ((F1 x).trans (hw.mono (F1 x).size))⟩
        have HD : Hid (∀ x,Fd b m T (t :: l1) W X t.p #[.int .i64 0,.string ⟨#[]⟩,.int .i64 0,.int .i64 0,.slice none 0 0] (F x)):=fun x=>D.below (F1 x)
        haveI : Nonempty Y:=HC.out.elim fun x _=>⟨x⟩
        by_cases h51' : cls t = 51
        · obtain ⟨u,l2,hl2⟩:=tail_cons h.ends (by omega)
          have hu : cls u ≠ 14:=fun e=>h51 ⟨h51',by rw [hl2];exact e⟩
          have k1 : (t.k == 1) = true:=by have:=cls_kind t 51 h51' (by omega);rw [this];rfl
          have wu14 : rd u [61] = false:=cls_nrd (c:=14) (by omega) (by decide) (by decide)
          have hps : PS b m T (t :: u :: l2) w2:=by rw [← hl2];exact D.tk.ps
          obtain ⟨g0,cap0,i0,r1,r2,r3,r4,c0,c1,c2,c3⟩:=hps.reads2
          have hb2' : b < w2.heap.size:=by have:=hps.lt;omega
          have hg2 : g0 < w2.heap.size:=World.block_lt_of_cell? w2 ⟨g0,(i0 + 1) * 4,none⟩ c0
          have r1x : ∀ x,(F x).cell? ⟨b,0,none⟩ = some (.slice (some ⟨g0,0,none⟩) T.length cap0):=fun x=>((F1 x).cell hb2').trans r1
          have r2x : ∀ x,(F x).cell? ⟨b,1,none⟩ = some (.int .i64 i0):=fun x=>((F1 x).cell hb2').trans r2
          have c0x : ∀ x,(F x).cell? ⟨g0,(i0 + 1) * 4,none⟩ = some (.int .i64 u.k):=fun x=>((F1 x).cell hg2).trans c0
          have c1x : ∀ x,(F x).cell? ⟨g0,(i0 + 1) * 4 + 1,none⟩ = some (.string ⟨u.t.toArray⟩):=fun x=>((F1 x).cell hg2).trans c1
          have c2x : ∀ x,(F x).cell? ⟨g0,(i0 + 1) * 4 + 2,none⟩ = some (.int .i64 u.v):=fun x=>((F1 x).cell hg2).trans c2
          have c3x : ∀ x,(F x).cell? ⟨g0,(i0 + 1) * 4 + 3,none⟩ = some (.int .i64 u.p):=fun x=>((F1 x).cell hg2).trans c3
          have hM : ∀ x,Calls Tryz.prog 92 #[.agg #[.int .i64 u.k,.string ⟨u.t.toArray⟩,.int .i64 u.v,.int .i64 u.p],.string ⟨#[61]⟩] (F x) fun e w''=>e = .returned (.bool false) ∧ ∃ y,w'' = F y:=fun x =>
            (reads_any u [61] (F x)).mono fun e w' ⟨he,hw⟩=>⟨by rw [he,wu14],F2 w' ((F1 x).trans (hw.mono (F1 x).size))⟩
          clear F1 F2 r1 r2 c0 c1 c2 c3
          refine wp_class (F:=F) (by kernel_rfl) (by kernel_rfl) HC.out ?_
          repeat (go_big_quiet_step (first | exact hS _ | exact hM _))
          refine wpQuiet_nil ?_
          intro _ hw'
          obtain ⟨x,rfl⟩:=hw'
          go_wp2_with fail
          go_meet
          exact ⟨rfl,HD.out x⟩
        · have k1 : (t.k == 1) = false:=by
            cases he : t.k == 1
            · rfl
            · exact absurd (cls_of_kind t 1 (by simpa using he) (by simp)) h51'
          clear F1 F2
          refine wp_class (F:=F) (by kernel_rfl) (by kernel_rfl) HC.out ?_
          repeat (go_big_quiet_step (exact hS _))
          refine wpQuiet_nil ?_
          intro _ hw'
          obtain ⟨x,rfl⟩:=hw'
          go_wp2_with fail
          go_meet
          exact ⟨rfl,HD.out x⟩
      case rest =>
        obtain ⟨rfl,D⟩:=hcut
        have CE:=fun W h=>CX (t :: l1) W h
        cases he : pr N (.ex 0) (t :: l1) with
        | out=>rw [he] at hR;exact absurd hR.symm hr
        | bad p =>
          rw [he] at hR CE
          simp only [PR.bind] at hR
          subst hR
          go_wp2_with fail
          have D1:=D.drew
          obtain ⟨p0,p1,p2,p3,p4⟩:=D1.box.five
          go_region_dies
          all_goals
            refine (CE _ D1.tk.ps (by simp)).mono ?_
            rintro e w5 ⟨he,hk⟩
            unfold refp at he
            subst he
            exact ⟨rfl,rfl,D1.tk.ky.trans hk⟩
        | ok g l3 =>
          rw [he] at hR CE
          simp only [PR.bind] at hR
          subst hR
          go_wp2_with fail
          have D1:=D.drew
          obtain ⟨p0,p1,p2,p3,p4⟩:=D1.box.five
          have hx1:=D1.key.lt
          have hl1:=D1.lt
          go_region_with (go_at_call 124;refine (CE _ D1.tk.ps (by simp)).mono ?_;rintro e w5 ⟨k,tt,n,p,a1,c1,ks,rfl,rfl,hTN,hTk⟩;have D5:=D1.took hTk;obtain ⟨s0,s1,s2,s3,s4⟩:=D5.box.five;obtain ⟨v0,v1,v2,v3,v4⟩:=D5.box.fiveA;obtain ⟨q0,q1,q2,q3,q4⟩:=D5.res.fiveA;obtain ⟨f0,f1,f2,f3,f4⟩:=D5.res.frozen5A)
          all_goals
            go_wp2
            have hx5:=D5.key.lt
            refine bodyPost_ret (v:=(.agg #[.int .i64 (13),.string ⟨#[]⟩,.int .i64 (0),.int .i64 (t.p),.slice (some ⟨w5.heap.size,0,none⟩) 1 1])) (by simp [results,Tryz.results164,go_sem,q0,q1,q2,q3,q4]) rfl ?_
            exact PN.five (TN.made (cur:=#[.int .i64 k,.string ⟨tt.toArray⟩,.int .i64 n,.int .i64 p,.slice a1 ks.len c1]) (c:=1) (Q:=fun g=>W.heap.size < g) (hTN.kf.mono fun g hg _=>by omega) (by omega) rfl (by unfold maxLen;omega) 13 [] 0 t.p) (D5.tk.alloc _) (fun _ e=>e) hlt.2
end Go.Proofs.YtkjbgggghigapaaGreat


namespace Go.Proofs.YtkjbgggghigapaaGreat
open Go.RowKit
theorem cc_zero:CC 0:=⟨fun _ _ _ _ _ _ _ h=>absurd rfl h,fun _ _ _ _ _ _ h=>absurd rfl h,fun _ _ _ _ _ _ _ h=>absurd rfl h,fun _ _ _ _ _ _ h=>absurd rfl h,fun _ _ _ _ _ _ h=>absurd rfl h,fun _ _ _ _ _ _ h=>absurd rfl h,fun _ _ _ _ _ _ _ _ _ _ h=>absurd rfl h,fun _ _ _ _ _ _ _ _ _ _ h=>absurd rfl h⟩
theorem cc_succ (N:Nat) (H:∀n,n≤N→CC n) (A:HA N):CC (N+1):=
 ⟨fun c b m T l W h hr=>block_any N H c b m T l W h hr,fun b m T l W h hr=>statement_any N H A b m T l W h hr,fun a b m T l W h hr=>expr_any N H a b m T l W h hr,fun b m T l W h hr=>operand_any N H b m T l W h hr,fun b m T l W h hr=>suf_any N H b m T l W h hr,fun b m T l W h hr=>field_any N H b m T l W h hr,fun b m T l W P a c f h hr=>list_any N H b m T l W P a c f h hr,fun b m T l W P a c f h hr=>names_p (N+1) b m T l W P a c f h hr⟩
theorem cc_le (A:∀N,(∀n,n≤N→CC n)→HA N):∀N n,n≤N→CC n
 | 0,n,h=>by
   obtain rfl:n=0:=by omega
   exact cc_zero
 | N+1,n,h=>by
   by_cases he:n=N+1
   ·subst he
    exact cc_succ N (cc_le A N) (A N (cc_le A N))
   ·exact cc_le A N n (by omega)
theorem cc_all (A:∀N,(∀n,n≤N→CC n)→HA N) (n:Nat):CC n:=cc_le A n n (Nat.le_refl _)
end Go.Proofs.YtkjbgggghigapaaGreat


namespace Go.Proofs.YtkjbgggghigapaaGreat
open Go.RowKit
set_option maxRecDepth 20000 in
set_option maxHeartbeats 8000000 in
theorem chunk_any (C:∀n,CC n) (b m:Nat) (T l:List Tok) (W:World) (h:PS b m T l W):Calls Tryz.prog 29 #[.pointer (some ⟨b,0,none⟩)] W (PN b m T W (chk l)):=by
 have hlt:=h.lt
 have D:=h.rs
 have hr:=pr_enough (8 * l.length+4) (.blk true) l (by simp only[rk];omega)
 have CE:=fun W h=>(C (8 * l.length+4)).blk true b m T l W h
 unfold chk
 cases he:pr (8 * l.length+4) (.blk true) l with
 | out=>exact absurd he hr
 | bad p=>
   rw[he] at CE
   simp only[PR.bind]
   go_enter Tryz.func29,Tryz.ntmps29
   go_wp2_with (go_at_call 42;refine (CE _ D.tk.ps (by simp)).mono ?_;rintro e w1 ⟨he,hk⟩;unfold refp at he;subst he)
   exact ⟨rfl,rfl,D.tk.ky.trans hk⟩
 | ok g l1=>
   obtain ⟨t2,l2,rfl⟩:=(pr_ends he h.ends).cons
   rw[he] at CE
   simp only[PR.bind]
   by_cases h56:cls t2=56
   ·rw[if_pos (show hc (t2::l2)=56 from h56)]
    have KB:(t2.k !=6)=false:=by have:=cls_kind t2 56 h56 (by omega);rw[this];rfl
    go_enter Tryz.func29,Tryz.ntmps29
    go_wp2_with (first | (go_at_call 42;refine (CE _ D.tk.ps (by simp)).mono ?_;rintro e w1 ⟨k,tt,n,p,a1,c1,ks,rfl,rfl,hTN,hTk⟩;have hz:=D.res.lt;have D:=(D.took hTk).alloc (.cells #[.int .i64 (k),.string ⟨(tt).toArray⟩,.int .i64 (n),.int .i64 (p),.slice a1 ks.len c1] 54);have KT:=(hTN.mono (Q:=fun g=>W.heap.size<g) (fun g hg _=>by omega)).alloc (.cells #[.int .i64 (k),.string ⟨(tt).toArray⟩,.int .i64 (n),.int .i64 (p),.slice a1 ks.len c1] 54);have B:=Bx.new w1 54 #[.int .i64 k,.string ⟨tt.toArray⟩,.int .i64 n,.int .i64 p,.slice a1 ks.len c1]) | (go_at_call 43;refine (token_any b m T l2 t2 _ D.tk.ps).mono ?_;rintro e w2 ⟨rfl,hb2⟩;have D:=D.below hb2;have KT:=KT.below hb2;have B:=B.below hb2;obtain ⟨q0,q1,q2,q3,q4⟩:=D.res.five;obtain ⟨f0,f1,f2,f3,f4⟩:=D.res.frozen5;obtain ⟨p0,p1,p2,p3,p4⟩:=B.five))
    refine bodyPost_ret (v:=(.agg #[.int .i64 (k),.string ⟨(tt).toArray⟩,.int .i64 (n),.int .i64 (p),.slice a1 ks.len c1])) (by simp[results,Tryz.results29,go_sem,q0,q1,q2,q3,q4]) rfl ?_
    exact PN.five KT D.tk (fun _ e=>e) hlt.2
   ·rw[if_neg (show ¬hc (t2::l2)=56 from h56)]
    have KB:(t2.k !=6)=true:=by
     cases hk:t2.k !=6
     ·exact absurd (cls_of_kind t2 6 (by simpa using hk) (by simp)) h56
     ·rfl
    go_enter Tryz.func29,Tryz.ntmps29
    go_wp2_with (first | (go_at_call 42;refine (CE _ D.tk.ps (by simp)).mono ?_;rintro e w1 ⟨k,tt,n,p,a1,c1,ks,rfl,rfl,hTN,hTk⟩;have D:=(D.took hTk).alloc (.cells #[.int .i64 (k),.string ⟨(tt).toArray⟩,.int .i64 (n),.int .i64 (p),.slice a1 ks.len c1] 54)) | (go_at_call 43;refine (token_any b m T l2 t2 _ D.tk.ps).mono ?_;rintro e w2 ⟨rfl,hb2⟩;have D:=D.below hb2) | (go_at_call 45;refine (at_any b m T l2 t2 _ D.tk.ps).mono ?_;rintro e w3 ⟨rfl,hb3⟩;have D:=D.below hb3) | (go_at_call 44;refine (refuse_p _ _).mono ?_;rintro e w4 ⟨he,hb4⟩;unfold refp at he;subst he))
    exact ⟨rfl,rfl,D.tk.ky.trans (.of_below hb4)⟩
end Go.Proofs.YtkjbgggghigapaaGreat
