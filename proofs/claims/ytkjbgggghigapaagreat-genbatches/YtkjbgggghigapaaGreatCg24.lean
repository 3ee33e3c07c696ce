import Derived.Test.YtkjbgggghigapaaGreatCg23
namespace Go.Proofs.YtkjbgggghigapaaGreat
open Go.RowKit
def funK (N : Nat) (tx : List UInt8) (p : Int) (ps : F) (l : List Tok) : PR :=
  need 18 l fun l1=>(pr N (.blk false) l1).bind fun b l1=>need 4 l1 fun l1=>.ok (one 31 tx ps.len p (ps.app b)) l1
set_option maxRecDepth 20000 in
set_option maxHeartbeats 16000000 in
theorem function_any (N : Nat) (H : CC N) (b m : Nat) (T l : List Tok) (t : Tok) (W : World) (h : PS b m T (t :: l) W) (h56 : cls t ≠ 56) (hr : funP (pr N) (t :: l) ≠ .out) : Calls Tryz.prog 66 #[.pointer (some ⟨b,0,none⟩)] W (PN b m T W (funP (pr N) (t :: l))):=by
  have hlt:=h.lt
  have hbW : W.heap.size ≠ b:=by omega
  have hT:=h.len
  obtain ⟨t2,l2,rfl⟩:=tail_cons h.ends h56
  obtain ⟨R,hR⟩ : ∃ R,funP (pr N) (t :: t2 :: l2) = R:=⟨_,rfl⟩
  rw [hR] at hr ⊢
  unfold funP nam need at hR
  simp only [List.tail_cons,show ha (t :: t2 :: l2) = t.p from rfl,show ht (t2 :: l2) = t2.t from rfl,show ha (t2 :: l2) = t2.p from rfl] at hR
  by_cases h51 : cls t2 = 51
  · rw [if_pos (show hc (t2 :: l2) = 51 from h51)] at hR
    obtain ⟨t3,l3,rfl⟩:=tail_cons (h.ends.tail h56) (by omega)
    by_cases h17 : cls t3 = 17
    · have wt317 : rd t3 [40] = true:=cls_rd (c:=17) (by omega) (by decide) (by decide)
      rw [if_pos (show hc (t3 :: l3) = 17 from h17)] at hR
      obtain ⟨t4,l4,rfl⟩:=tail_cons ((h.ends.tail h56).tail (by omega)) (by omega)
      change (parP (pr N) (t4 :: l4)).bind (funK N t2.t t.p) = R at hR
      unfold parP nam at hR
      by_cases h18 : cls t4 = 18
      · have wt418 : rd t4 [41] = true:=cls_rd (c:=18) (by omega) (by decide) (by decide)
        rw [if_pos (show hc (t4 :: l4) = 18 from h18)] at hR
        simp only [PR.bind] at hR
        unfold funK need at hR
        rw [if_pos (show hc (t4 :: l4) = 18 from h18)] at hR
        simp only [List.tail_cons] at hR
        have CB:=fun W h=>H.blk false b m T l4 W h
        cases hb : pr N (.blk false) l4 with
        | out=>rw [hb] at hR;exact absurd hR.symm hr
        | bad p2 =>
          rw [hb] at hR CB
          simp only [PR.bind] at hR
          subst hR
          go_enter Tryz.func66,Tryz.ntmps66
          go_wp2_with (first | (go_at_call 93;refine (take_p b m T _ t _ (h.alloc _) h56).mono ?_;rintro e w1 ⟨rfl,hT1⟩;have D:=Nd.begin ((h.tk.alloc _).trans hT1) ((Bx.new W 54 _).ky hT1.ky hbW) (by omega) 31 [] 0 t.p) | (go_at_call 96;refine (expect_t b m T _ t3 _ _ D.tk.ps (by assumption)).mono ?_;rintro e w4 ⟨rfl,hT4⟩;have D:=D.took hT4 (by simp)) | (go_at_call 64;refine (is_v b m T l4 t4 _ _ D.tk.ps (by assumption)).mono ?_;rintro e w5 ⟨rfl,hb5⟩;have D:=D.below hb5;obtain ⟨-,-,e2,-,e4⟩:=D.box.five;obtain ⟨-,-,e7,-,-⟩:=D.box.frozen5;obtain ⟨w6,hw6,DN⟩:=D.num (F.nil.len : Nat)) | (go_at_call 95;refine (name_yes b m T _ t2 _ D.tk.ps h51).mono ?_;rintro e w2 ⟨rfl,hT2⟩;have D:=D.took hT2 (by simp);obtain ⟨-,e1,-,-,-⟩:=D.box.five;obtain ⟨-,e6,-,-,-⟩:=D.box.frozen5;obtain ⟨w3,hw3,D⟩:=D.txt t2.t) | (go_at_call 96;refine (expect_t b m T l4 t4 _ _ DN.tk.ps (by assumption)).mono ?_;rintro e wa ⟨rfl,hTa⟩;have DN:=DN.took hTa (by simp);obtain ⟨v0,v1,v2,v3,v4⟩:=DN.box.five))
          have D1:=DN.drew
          go_region_dies
          all_goals
            refine (CB _ D1.tk.ps (by simp)).mono ?_
            rintro e wb ⟨he,hk⟩
            unfold refp at he
            subst he
            exact ⟨rfl,rfl,D1.tk.ky.trans hk⟩
        | ok g l7 =>
          have hlenb:=pr_len hb
          obtain ⟨t8,l8,rfl⟩:=(pr_ends hb ((((h.ends.tail h56).tail (by omega)).tail (by omega)).tail (by omega))).cons
          rw [hb] at hR CB
          simp only [PR.bind] at hR
          simp only [st,List.length_cons] at hlenb
          go_enter Tryz.func66,Tryz.ntmps66
          go_wp2_with (first | (go_at_call 93;refine (take_p b m T _ t _ (h.alloc _) h56).mono ?_;rintro e w1 ⟨rfl,hT1⟩;have D:=Nd.begin ((h.tk.alloc _).trans hT1) ((Bx.new W 54 _).ky hT1.ky hbW) (by omega) 31 [] 0 t.p) | (go_at_call 96;refine (expect_t b m T _ t3 _ _ D.tk.ps (by assumption)).mono ?_;rintro e w4 ⟨rfl,hT4⟩;have D:=D.took hT4 (by simp)) | (go_at_call 64;refine (is_v b m T l4 t4 _ _ D.tk.ps (by assumption)).mono ?_;rintro e w5 ⟨rfl,hb5⟩;have D:=D.below hb5;obtain ⟨-,-,e2,-,e4⟩:=D.box.five;obtain ⟨-,-,e7,-,-⟩:=D.box.frozen5;obtain ⟨w6,hw6,DN⟩:=D.num (F.nil.len : Nat)) | (go_at_call 95;refine (name_yes b m T _ t2 _ D.tk.ps h51).mono ?_;rintro e w2 ⟨rfl,hT2⟩;have D:=D.took hT2 (by simp);obtain ⟨-,e1,-,-,-⟩:=D.box.five;obtain ⟨-,e6,-,-,-⟩:=D.box.frozen5;obtain ⟨w3,hw3,D⟩:=D.txt t2.t) | (go_at_call 96;refine (expect_t b m T l4 t4 _ _ DN.tk.ps (by assumption)).mono ?_;rintro e wa ⟨rfl,hTa⟩;have DN:=DN.took hTa (by simp);obtain ⟨v0,v1,v2,v3,v4⟩:=DN.box.five))
          have D1:=DN.drew
          have hfew:=D1.few
          by_cases h8 : cls t8 = 4
          · have wt84 : rd t8 [101,110,100] = true:=cls_rd (c:=4) (by omega) (by decide) (by decide)
            rw [if_pos (show hc (t8 :: l8) = 4 from h8)] at hR
            subst hR
            go_region_law (first | (refine step_goE (by rfl) 42 _ _ (by rfl) _ (by simp [Act.eval,Act.put]) enters32 (CB _ D1.tk.ps (by simp)) ?_;rintro e wb ⟨k,tt,n,p,a1,c1,ks,rfl,rfl,hTN,hTk⟩;refine ⟨_,rfl,?_⟩;obtain ⟨-,-,-,-,q4⟩:=(D1.took hTk (by simp only [List.length_cons];omega)).box.five;obtain ⟨-,-,-,-,q5⟩:=(D1.took hTk (by simp only [List.length_cons];omega)).box.fiveA) | (refine step_row2 (by rfl) _ _ (by rfl) D1.row hTN hTk (by simp only [List.length_cons,F.len] at *;omega) (by rfl) (by rfl) ?_;intro gg cc wc hrow hky;obtain ⟨D4,B4⟩:=D1.grown hrow hky;obtain ⟨-,-,-,-,r4⟩:=B4.five;obtain ⟨-,-,-,-,g4⟩:=B4.frozen5))
            all_goals
              go_wp2_with (go_at_call 96;refine (expect_t b m T l8 t8 _ _ D4.tk.ps (by assumption)).mono ?_;rintro e wd ⟨rfl,hTd⟩;have D8:=D4.took hTd (by simp);obtain ⟨q0,q1,q2,q3,q4⟩:=D8.res.five;obtain ⟨f0,f1,f2,f3,f4⟩:=D8.res.frozen5;obtain ⟨z0,z1,z2,z3,z4⟩:=D8.box.five)
              refine bodyPost_ret (v:=.agg #[.int .i64 31,.string ⟨t2.t.toArray⟩,.int .i64 (F.nil.len : Nat),.int .i64 t.p,.slice (some ⟨gg,0,none⟩) (F.nil.app (one k tt n p ks)).len cc]) (by simp [results,Tryz.results66,go_sem,q0,q1,q2,q3,q4]) rfl ?_
              exact D8.ret _ _ _ _ _
          · have wt84 : rd t8 [101,110,100] = false:=cls_nrd (c:=4) (by omega) (by decide) (by decide)
            rw [if_neg (show ¬ hc (t8 :: l8) = 4 from h8)] at hR
            subst hR
            go_region_law (first | (refine step_goE (by rfl) 42 _ _ (by rfl) _ (by simp [Act.eval,Act.put]) enters32 (CB _ D1.tk.ps (by simp)) ?_;rintro e wb ⟨k,tt,n,p,a1,c1,ks,rfl,rfl,hTN,hTk⟩;refine ⟨_,rfl,?_⟩;obtain ⟨-,-,-,-,q4⟩:=(D1.took hTk (by simp only [List.length_cons];omega)).box.five;obtain ⟨-,-,-,-,q5⟩:=(D1.took hTk (by simp only [List.length_cons];omega)).box.fiveA) | (refine step_row2 (by rfl) _ _ (by rfl) D1.row hTN hTk (by simp only [List.length_cons,F.len] at *;omega) (by rfl) (by rfl) ?_;intro gg cc wc hrow hky;obtain ⟨D4,B4⟩:=D1.grown hrow hky;obtain ⟨-,-,-,-,r4⟩:=B4.five;obtain ⟨-,-,-,-,g4⟩:=B4.frozen5))
            all_goals
              go_wp2_with (go_at_call 96;refine (expect_f b m T l8 t8 _ _ D4.tk.ps (by assumption)).mono ?_;rintro e wd ⟨he,hbd⟩;unfold refp at he;subst he)
              exact ⟨rfl,rfl,D4.tk.ky.trans (.of_below hbd)⟩
      · have wt418 : rd t4 [41] = false:=cls_nrd (c:=18) (by omega) (by decide) (by decide)
        rw [if_neg (show ¬ hc (t4 :: l4) = 18 from h18)] at hR
        by_cases h51b : cls t4 = 51
        · rw [if_pos (show hc (t4 :: l4) = 51 from h51b)] at hR
          change (pr N (.nms (one 6 t4.t 0 t4.p .nil)) l4).bind (funK N t2.t t.p) = R at hR
          cases he : pr N (.nms (one 6 t4.t 0 t4.p .nil)) l4 with
          | out=>rw [he] at hR;exact absurd hR.symm hr
          | bad p2 =>
            rw [he] at hR
            simp only [PR.bind] at hR
            subst hR
            go_enter Tryz.func66,Tryz.ntmps66
            go_wp2_with (first | (go_at_call 93;refine (take_p b m T _ t _ (h.alloc _) h56).mono ?_;rintro e w1 ⟨rfl,hT1⟩;have D:=Nd.begin ((h.tk.alloc _).trans hT1) ((Bx.new W 54 _).ky hT1.ky hbW) (by omega) 31 [] 0 t.p) | (go_at_call 96;refine (expect_t b m T _ t3 _ _ D.tk.ps (by assumption)).mono ?_;rintro e w4 ⟨rfl,hT4⟩;have D:=D.took hT4 (by simp)) | (go_at_call 64;refine (is_v b m T l4 t4 _ _ D.tk.ps (by assumption)).mono ?_;rintro e w5 ⟨rfl,hb5⟩;have D:=D.below hb5;obtain ⟨-,-,e2,-,e4⟩:=D.box.five;obtain ⟨-,-,e7,-,-⟩:=D.box.frozen5;obtain ⟨w6,hw6,DN⟩:=D.num (F.nil.len : Nat)) | (go_at_call 95;refine (name_yes b m T _ t2 _ D.tk.ps h51).mono ?_;rintro e w2 ⟨rfl,hT2⟩;have D:=D.took hT2 (by simp);obtain ⟨-,e1,-,-,-⟩:=D.box.five;obtain ⟨-,e6,-,-,-⟩:=D.box.frozen5;obtain ⟨w3,hw3,D⟩:=D.txt t2.t) | (go_at_call 95;refine (name_yes b m T l4 t4 _ D.tk.ps h51b).mono ?_;rintro e w7 ⟨rfl,hT7⟩;have D:=D.took hT7 (by simp);have hy:=D.box.lt;have RW:=D.name1 t4.t t4.p (by simp only [List.length_cons] at hT;omega)) | (go_at_call 97;have YtkjbgggghigapaaGreat:=names_p N b m T l4 _ _ _ _ _ RW;rw [he] at YtkjbgggghigapaaGreat;refine (YtkjbgggghigapaaGreat (by simp)).mono ?_;rintro e w8 ⟨he,hk⟩;unfold refp at he;subst he))
            have hDl:=D.lt
            exact ⟨rfl,rfl,(D.tk.ky.alloc _).onto hk fun i hi e=>e.elim id fun e=>by simp [Value.ownBlock] at e;omega⟩
          | ok ns l5' =>
            have hsz:=sz_all _ _ _ _ _ he
            simp only [Sz,one_len] at hsz
            obtain ⟨t5,l5,rfl⟩:=(pr_ends he (((h.ends.tail h56).tail (by omega)).tail (by omega) |>.tail (by omega))).cons
            rw [he] at hR
            simp only [PR.bind] at hR
            unfold funK need at hR
            simp only [List.length_cons] at hsz
            by_cases h5 : cls t5 = 18
            · have wt518 : rd t5 [41] = true:=cls_rd (c:=18) (by omega) (by decide) (by decide)
              rw [if_pos (show hc (t5 :: l5) = 18 from h5)] at hR
              simp only [List.tail_cons] at hR
              have CB:=fun W h=>H.blk false b m T l5 W h
              cases hb : pr N (.blk false) l5 with
              | out=>rw [hb] at hR;exact absurd hR.symm hr
              | bad p2 =>
                rw [hb] at hR CB
                simp only [PR.bind] at hR
                subst hR
                go_enter Tryz.func66,Tryz.ntmps66
                go_wp2_with (first | (go_at_call 93;refine (take_p b m T _ t _ (h.alloc _) h56).mono ?_;rintro e w1 ⟨rfl,hT1⟩;have D:=Nd.begin ((h.tk.alloc _).trans hT1) ((Bx.new W 54 _).ky hT1.ky hbW) (by omega) 31 [] 0 t.p) | (go_at_call 96;refine (expect_t b m T _ t3 _ _ D.tk.ps (by assumption)).mono ?_;rintro e w4 ⟨rfl,hT4⟩;have D:=D.took hT4 (by simp)) | (go_at_call 64;refine (is_v b m T l4 t4 _ _ D.tk.ps (by assumption)).mono ?_;rintro e w5 ⟨rfl,hb5⟩;have D:=D.below hb5;obtain ⟨-,-,e2,-,e4⟩:=D.box.five;obtain ⟨-,-,e7,-,-⟩:=D.box.frozen5;obtain ⟨w6,hw6,DN⟩:=D.num (F.nil.len : Nat)) | (go_at_call 96;refine (expect_t b m T l5 t5 _ _ DN.tk.ps (by assumption)).mono ?_;rintro e wa ⟨rfl,hTa⟩;have DN:=DN.took hTa (by simp);obtain ⟨v0,v1,v2,v3,v4⟩:=DN.box.five) | (go_at_call 95;refine (name_yes b m T _ t2 _ D.tk.ps h51).mono ?_;rintro e w2 ⟨rfl,hT2⟩;have D:=D.took hT2 (by simp);obtain ⟨-,e1,-,-,-⟩:=D.box.five;obtain ⟨-,e6,-,-,-⟩:=D.box.frozen5;obtain ⟨w3,hw3,D⟩:=D.txt t2.t) | (go_at_call 95;refine (name_yes b m T l4 t4 _ D.tk.ps h51b).mono ?_;rintro e w7 ⟨rfl,hT7⟩;have D:=D.took hT7 (by simp);have hy:=D.box.lt;have RW:=D.name1 t4.t t4.p (by simp only [List.length_cons] at hT;omega)) | (go_at_call 97;have YtkjbgggghigapaaGreat:=names_p N b m T l4 _ _ _ _ _ RW;rw [he] at YtkjbgggghigapaaGreat;refine (YtkjbgggghigapaaGreat (by simp)).mono ?_;rintro e w8 ⟨a3,c3,rfl,hkl,hps,hk⟩;obtain ⟨w9,hw9,D,B9⟩:=(D.alloc _).call hps hkl (by simp only [List.length_cons] at hT ⊢;omega) hk hy;obtain ⟨-,-,-,-,x4⟩:=B9.five;obtain ⟨-,-,-,-,y4⟩:=B9.frozen5;obtain ⟨-,-,e2,-,e4⟩:=D.box.five;obtain ⟨-,-,e7,-,-⟩:=D.box.frozen5;obtain ⟨w6,hw6,DN⟩:=D.num (ns.len : Nat)))
                have D1:=DN.drew
                go_region_dies
                all_goals
                  refine (CB _ D1.tk.ps (by simp)).mono ?_
                  rintro e wb ⟨he,hk⟩
                  unfold refp at he
                  subst he
                  exact ⟨rfl,rfl,D1.tk.ky.trans hk⟩
              | ok g l7 =>
                have hlenb:=pr_len hb
                obtain ⟨t8,l8,rfl⟩:=(pr_ends hb ((pr_ends he ((((h.ends.tail h56).tail (by omega)).tail (by omega)).tail (by omega))).tail (by omega))).cons
                rw [hb] at hR CB
                simp only [PR.bind] at hR
                simp only [st,List.length_cons] at hlenb
                go_enter Tryz.func66,Tryz.ntmps66
                go_wp2_with (first | (go_at_call 93;refine (take_p b m T _ t _ (h.alloc _) h56).mono ?_;rintro e w1 ⟨rfl,hT1⟩;have D:=Nd.begin ((h.tk.alloc _).trans hT1) ((Bx.new W 54 _).ky hT1.ky hbW) (by omega) 31 [] 0 t.p) | (go_at_call 96;refine (expect_t b m T _ t3 _ _ D.tk.ps (by assumption)).mono ?_;rintro e w4 ⟨rfl,hT4⟩;have D:=D.took hT4 (by simp)) | (go_at_call 64;refine (is_v b m T l4 t4 _ _ D.tk.ps (by assumption)).mono ?_;rintro e w5 ⟨rfl,hb5⟩;have D:=D.below hb5;obtain ⟨-,-,e2,-,e4⟩:=D.box.five;obtain ⟨-,-,e7,-,-⟩:=D.box.frozen5;obtain ⟨w6,hw6,DN⟩:=D.num (F.nil.len : Nat)) | (go_at_call 96;refine (expect_t b m T l5 t5 _ _ DN.tk.ps (by assumption)).mono ?_;rintro e wa ⟨rfl,hTa⟩;have DN:=DN.took hTa (by simp);obtain ⟨v0,v1,v2,v3,v4⟩:=DN.box.five) | (go_at_call 95;refine (name_yes b m T _ t2 _ D.tk.ps h51).mono ?_;rintro e w2 ⟨rfl,hT2⟩;have D:=D.took hT2 (by simp);obtain ⟨-,e1,-,-,-⟩:=D.box.five;obtain ⟨-,e6,-,-,-⟩:=D.box.frozen5;obtain ⟨w3,hw3,D⟩:=D.txt t2.t) | (go_at_call 95;refine (name_yes b m T l4 t4 _ D.tk.ps h51b).mono ?_;rintro e w7 ⟨rfl,hT7⟩;have D:=D.took hT7 (by simp);have hy:=D.box.lt;have RW:=D.name1 t4.t t4.p (by simp only [List.length_cons] at hT;omega)) | (go_at_call 97;have YtkjbgggghigapaaGreat:=names_p N b m T l4 _ _ _ _ _ RW;rw [he] at YtkjbgggghigapaaGreat;refine (YtkjbgggghigapaaGreat (by simp)).mono ?_;rintro e w8 ⟨a3,c3,rfl,hkl,hps,hk⟩;obtain ⟨w9,hw9,D,B9⟩:=(D.alloc _).call hps hkl (by simp only [List.length_cons] at hT ⊢;omega) hk hy;obtain ⟨-,-,-,-,x4⟩:=B9.five;obtain ⟨-,-,-,-,y4⟩:=B9.frozen5;obtain ⟨-,-,e2,-,e4⟩:=D.box.five;obtain ⟨-,-,e7,-,-⟩:=D.box.frozen5;obtain ⟨w6,hw6,DN⟩:=D.num (ns.len : Nat)))
                have D1:=DN.drew
                have hfew:=D1.few
                by_cases h8 : cls t8 = 4
                · have wt84 : rd t8 [101,110,100] = true:=cls_rd (c:=4) (by omega) (by decide) (by decide)
                  rw [if_pos (show hc (t8 :: l8) = 4 from h8)] at hR
                  subst hR
                  go_region_law (first | (refine step_goE (by rfl) 42 _ _ (by rfl) _ (by simp [Act.eval,Act.put]) enters32 (CB _ D1.tk.ps (by simp)) ?_;rintro e wb ⟨k,tt,n,p,a1,c1,ks,rfl,rfl,hTN,hTk⟩;refine ⟨_,rfl,?_⟩;obtain ⟨-,-,-,-,q4⟩:=(D1.took hTk (by simp only [List.length_cons];omega)).box.five;obtain ⟨-,-,-,-,q5⟩:=(D1.took hTk (by simp only [List.length_cons];omega)).box.fiveA) | (refine step_row2 (by rfl) _ _ (by rfl) D1.row hTN hTk (by simp only [List.length_cons,F.len] at *;omega) (by rfl) (by rfl) ?_;intro gg cc wc hrow hky;obtain ⟨D4,B4⟩:=D1.grown hrow hky;obtain ⟨-,-,-,-,r4⟩:=B4.five;obtain ⟨-,-,-,-,g4⟩:=B4.frozen5))
                  all_goals
                    go_wp2_with (go_at_call 96;refine (expect_t b m T l8 t8 _ _ D4.tk.ps (by assumption)).mono ?_;rintro e wd ⟨rfl,hTd⟩;have D8:=D4.took hTd (by simp);obtain ⟨q0,q1,q2,q3,q4⟩:=D8.res.five;obtain ⟨f0,f1,f2,f3,f4⟩:=D8.res.frozen5;obtain ⟨z0,z1,z2,z3,z4⟩:=D8.box.five)
                    refine bodyPost_ret (v:=.agg #[.int .i64 31,.string ⟨t2.t.toArray⟩,.int .i64 (ns.len : Nat),.int .i64 t.p,.slice (some ⟨gg,0,none⟩) (ns.app (one k tt n p ks)).len cc]) (by simp [results,Tryz.results66,go_sem,q0,q1,q2,q3,q4]) rfl ?_
                    exact D8.ret _ _ _ _ _
                · have wt84 : rd t8 [101,110,100] = false:=cls_nrd (c:=4) (by omega) (by decide) (by decide)
                  rw [if_neg (show ¬ hc (t8 :: l8) = 4 from h8)] at hR
                  subst hR
                  go_region_law (first | (refine step_goE (by rfl) 42 _ _ (by rfl) _ (by simp [Act.eval,Act.put]) enters32 (CB _ D1.tk.ps (by simp)) ?_;rintro e wb ⟨k,tt,n,p,a1,c1,ks,rfl,rfl,hTN,hTk⟩;refine ⟨_,rfl,?_⟩;obtain ⟨-,-,-,-,q4⟩:=(D1.took hTk (by simp only [List.length_cons];omega)).box.five;obtain ⟨-,-,-,-,q5⟩:=(D1.took hTk (by simp only [List.length_cons];omega)).box.fiveA) | (refine step_row2 (by rfl) _ _ (by rfl) D1.row hTN hTk (by simp only [List.length_cons,F.len] at *;omega) (by rfl) (by rfl) ?_;intro gg cc wc hrow hky;obtain ⟨D4,B4⟩:=D1.grown hrow hky;obtain ⟨-,-,-,-,r4⟩:=B4.five;obtain ⟨-,-,-,-,g4⟩:=B4.frozen5))
                  all_goals
                    go_wp2_with (go_at_call 96;refine (expect_f b m T l8 t8 _ _ D4.tk.ps (by assumption)).mono ?_;rintro e wd ⟨he,hbd⟩;unfold refp at he;subst he)
                    exact ⟨rfl,rfl,D4.tk.ky.trans (.of_below hbd)⟩
            · have wt518 : rd t5 [41] = false:=cls_nrd (c:=18) (by omega) (by decide) (by decide)
              rw [if_neg (show ¬ hc (t5 :: l5) = 18 from h5)] at hR
              subst hR
              go_enter Tryz.func66,Tryz.ntmps66
              go_wp2_with (first | (go_at_call 93;refine (take_p b m T _ t _ (h.alloc _) h56).mono ?_;rintro e w1 ⟨rfl,hT1⟩;have D:=Nd.begin ((h.tk.alloc _).trans hT1) ((Bx.new W 54 _).ky hT1.ky hbW) (by omega) 31 [] 0 t.p) | (go_at_call 96;refine (expect_t b m T _ t3 _ _ D.tk.ps (by assumption)).mono ?_;rintro e w4 ⟨rfl,hT4⟩;have D:=D.took hT4 (by simp)) | (go_at_call 64;refine (is_v b m T l4 t4 _ _ D.tk.ps (by assumption)).mono ?_;rintro e w5 ⟨rfl,hb5⟩;have D:=D.below hb5;obtain ⟨-,-,e2,-,e4⟩:=D.box.five;obtain ⟨-,-,e7,-,-⟩:=D.box.frozen5;obtain ⟨w6,hw6,DN⟩:=D.num (F.nil.len : Nat)) | (go_at_call 96;refine (expect_f b m T l5 t5 _ _ DN.tk.ps (by assumption)).mono ?_;rintro e wa ⟨he,hba⟩;unfold refp at he;subst he) | (go_at_call 95;refine (name_yes b m T _ t2 _ D.tk.ps h51).mono ?_;rintro e w2 ⟨rfl,hT2⟩;have D:=D.took hT2 (by simp);obtain ⟨-,e1,-,-,-⟩:=D.box.five;obtain ⟨-,e6,-,-,-⟩:=D.box.frozen5;obtain ⟨w3,hw3,D⟩:=D.txt t2.t) | (go_at_call 95;refine (name_yes b m T l4 t4 _ D.tk.ps h51b).mono ?_;rintro e w7 ⟨rfl,hT7⟩;have D:=D.took hT7 (by simp);have hy:=D.box.lt;have RW:=D.name1 t4.t t4.p (by simp only [List.length_cons] at hT;omega)) | (go_at_call 97;have YtkjbgggghigapaaGreat:=names_p N b m T l4 _ _ _ _ _ RW;rw [he] at YtkjbgggghigapaaGreat;refine (YtkjbgggghigapaaGreat (by simp)).mono ?_;rintro e w8 ⟨a3,c3,rfl,hkl,hps,hk⟩;obtain ⟨w9,hw9,D,B9⟩:=(D.alloc _).call hps hkl (by simp only [List.length_cons] at hT ⊢;omega) hk hy;obtain ⟨-,-,-,-,x4⟩:=B9.five;obtain ⟨-,-,-,-,y4⟩:=B9.frozen5;obtain ⟨-,-,e2,-,e4⟩:=D.box.five;obtain ⟨-,-,e7,-,-⟩:=D.box.frozen5;obtain ⟨w6,hw6,DN⟩:=D.num (ns.len : Nat)))
              exact ⟨rfl,rfl,DN.tk.ky.trans (.of_below hba)⟩
        · rw [if_neg (show ¬ hc (t4 :: l4) = 51 from h51b)] at hR
          simp only [PR.bind] at hR
          subst hR
          go_enter Tryz.func66,Tryz.ntmps66
          go_wp2_with (first | (go_at_call 93;refine (take_p b m T _ t _ (h.alloc _) h56).mono ?_;rintro e w1 ⟨rfl,hT1⟩;have D:=Nd.begin ((h.tk.alloc _).trans hT1) ((Bx.new W 54 _).ky hT1.ky hbW) (by omega) 31 [] 0 t.p) | (go_at_call 96;refine (expect_t b m T _ t3 _ _ D.tk.ps (by assumption)).mono ?_;rintro e w4 ⟨rfl,hT4⟩;have D:=D.took hT4 (by simp)) | (go_at_call 64;refine (is_v b m T l4 t4 _ _ D.tk.ps (by assumption)).mono ?_;rintro e w5 ⟨rfl,hb5⟩;have D:=D.below hb5;obtain ⟨-,-,e2,-,e4⟩:=D.box.five;obtain ⟨-,-,e7,-,-⟩:=D.box.frozen5;obtain ⟨w6,hw6,DN⟩:=D.num (F.nil.len : Nat)) | (go_at_call 95;refine (name_yes b m T _ t2 _ D.tk.ps h51).mono ?_;rintro e w2 ⟨rfl,hT2⟩;have D:=D.took hT2 (by simp);obtain ⟨-,e1,-,-,-⟩:=D.box.five;obtain ⟨-,e6,-,-,-⟩:=D.box.frozen5;obtain ⟨w3,hw3,D⟩:=D.txt t2.t) | (go_at_call 95;refine (name_no b m T l4 t4 _ D.tk.ps h51b).mono ?_;rintro e w7 ⟨he,hb7⟩;unfold refp at he;subst he))
          exact ⟨rfl,rfl,D.tk.ky.trans (.of_below hb7)⟩
    · have wt317 : rd t3 [40] = false:=cls_nrd (c:=17) (by omega) (by decide) (by decide)
      rw [if_neg (show ¬ hc (t3 :: l3) = 17 from h17)] at hR
      subst hR
      go_enter Tryz.func66,Tryz.ntmps66
      go_wp2_with (first | (go_at_call 93;refine (take_p b m T _ t _ (h.alloc _) h56).mono ?_;rintro e w1 ⟨rfl,hT1⟩;have D:=Nd.begin ((h.tk.alloc _).trans hT1) ((Bx.new W 54 _).ky hT1.ky hbW) (by omega) 31 [] 0 t.p) | (go_at_call 95;refine (name_yes b m T _ t2 _ D.tk.ps h51).mono ?_;rintro e w2 ⟨rfl,hT2⟩;have D:=D.took hT2 (by simp);obtain ⟨-,e1,-,-,-⟩:=D.box.five;obtain ⟨-,e6,-,-,-⟩:=D.box.frozen5;obtain ⟨w3,hw3,D⟩:=D.txt t2.t) | (go_at_call 96;refine (expect_f b m T l3 t3 _ _ D.tk.ps (by assumption)).mono ?_;rintro e w4 ⟨he,hb4⟩;unfold refp at he;subst he))
      exact ⟨rfl,rfl,D.tk.ky.trans (.of_below hb4)⟩
  · rw [if_neg (show ¬ hc (t2 :: l2) = 51 from h51)] at hR
    subst hR
    go_enter Tryz.func66,Tryz.ntmps66
    go_wp2_with (first | (go_at_call 93;refine (take_p b m T _ t _ (h.alloc _) h56).mono ?_;rintro e w1 ⟨rfl,hT1⟩;have D:=Nd.begin ((h.tk.alloc _).trans hT1) ((Bx.new W 54 _).ky hT1.ky hbW) (by omega) 31 [] 0 t.p) | (go_at_call 95;refine (name_no b m T l2 t2 _ D.tk.ps h51).mono ?_;rintro e w2 ⟨he,hb2⟩;unfold refp at he;subst he))
    exact ⟨rfl,rfl,D.tk.ky.trans (.of_below hb2)⟩
end Go.Proofs.YtkjbgggghigapaaGreat
