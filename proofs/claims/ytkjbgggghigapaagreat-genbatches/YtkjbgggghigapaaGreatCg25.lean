import Derived.Test.YtkjbgggghigapaaGreatCg23
import Derived.Test.YtkjbgggghigapaaGreatCg24
namespace Go.Proofs.YtkjbgggghigapaaGreat
open Go.RowKit
def PQ (b m : Nat) (T : List Tok) (W : World) (P : Nat → Prop) (v : Value) : PR → Ending → World → Prop
  | .ok f l,e,W'=>∃ k t n p a c ks,f = one k t n p ks ∧ e = .returned (.agg #[.int .i64 (k),.string ⟨(t).toArray⟩,.int .i64 (n),.int .i64 (p),.slice a ks.len c]) ∧ TN 54 W' P k t n p (.slice a ks.len c) ks ∧ PS b m T l W' ∧ Ky (fun k=>k = b ∨ some k = v.ownBlock) W W'
  | .bad p,e,W'=>e = refp p ∧ Ky (fun k=>k = b ∨ some k = v.ownBlock) W W'
  | .out,_,_=>False
theorem Row.slot {b m : Nat} {T l : List Tok} {W : World} {P : Nat → Prop} {a : Option Addr} {c : Nat} {f : F} (h : Row b m T l W P a c f) (o : Obj) : Row b m T l (W.alloc o) (fun g=>P g ∧ g ≠ W.heap.size) a c f:=by
  obtain ⟨xs,h1,h2,h3⟩:=h.kl.out
  refine ⟨h.ps.alloc o,?_,fun x hx e=>h.lo x hx e.1,fun x hx=>⟨h.hi x (by simp at hx;omega),by simp at hx;omega⟩,h.few⟩
  have : KL 54 (fun g=>P g ∧ g ≠ W.heap.size) W (.slice a f.len c) f:=⟨xs,h1,fun g hg=>⟨h2 g hg,by have:=(h1.lt g hg).2;omega⟩,h3.mono fun g hg hl=>⟨⟨hg.1,by omega⟩,hg.2⟩⟩
  exact this.alloc o
theorem Row.nslot {b m X : Nat} {T l : List Tok} {w : World} {P : Nat → Prop} {a : Option Addr} {c : Nat} {f : F} (h : Row b m T l w (fun g=>P g ∧ g ≠ X) a c f) (hb : X ≠ b) : ¬ (X = b ∨ some X = Value.ownBlock (.slice a f.len c)):=by
  obtain ⟨xs,h1,h2,h3⟩:=h.kl.out
  exact fun e=>e.elim hb fun e=>(h2 X e.symm).2 rfl
theorem PQ.five {b m : Nat} {T l : List Tok} {W w : World} {P : Nat → Prop} {v : Value} {k : Int} {t : List UInt8} {n p : Int} {a : Option Addr} {c : Nat} {ks : F} {u0 u1 u2 u3 u4 : Value} (ht : TN 54 w (fun g=>P g ∧ g ≠ W.heap.size) k t n p (.slice a ks.len c) ks) (ps : PS b m T l w) (hk : Ky (fun k=>k = b ∨ some k = v.ownBlock) W w) (hm : m ≤ W.heap.size) :
    PQ b m T W P v (.ok (one k t n p ks) l) (.returned (.agg #[.int .i64 (k),.string ⟨(t).toArray⟩,.int .i64 (n),.int .i64 (p),.slice a ks.len c])) (((((w.setCell ⟨W.heap.size,0,none⟩ u0).setCell ⟨W.heap.size,1,none⟩ u1).setCell ⟨W.heap.size,2,none⟩ u2).setCell ⟨W.heap.size,3,none⟩ u3).setCell ⟨W.heap.size,4,none⟩ u4) :=
  ⟨k,t,n,p,a,c,ks,rfl,rfl,(ht.five (fun e=>e.2 rfl) u0 u1 u2 u3 u4).mono fun _ hg _=>hg.1,((((ps.set hm u0).set hm u1).set hm u2).set hm u3).set hm u4,((((hk.new (Nat.le_refl _) u0).new (Nat.le_refl _) u1).new (Nat.le_refl _) u2).new (Nat.le_refl _) u3).new (Nat.le_refl _) u4⟩
set_option maxRecDepth 20000 in
set_option maxHeartbeats 16000000 in
theorem numbers_any (N : Nat) (H : CC N) (at' : Int) (b m : Nat) (T l : List Tok) (W : World) (P : Nat → Prop) (a : Option Addr) (c : Nat) (f : F) (h : Row b m T l W P a c f) (hr : numP (pr N) at' f l ≠ .out) : Calls Tryz.prog 126 #[.pointer (some ⟨b,0,none⟩),.int .i64 at',.slice a f.len c] W (PQ b m T W P (.slice a f.len c) (numP (pr N) at' f l)):=by
  have hlt:=h.ps.lt
  obtain ⟨R,hR⟩ : ∃ R,numP (pr N) at' f l = R:=⟨_,rfl⟩
  rw [hR] at hr ⊢
  unfold numP need at hR
  have hrow:=h.slot (.cells #[.int .i64 0,.string ⟨#[]⟩,.int .i64 0,.int .i64 0,.slice none 0 0] 54)
  have hky : Ky (fun k=>k = b ∨ some k = Value.ownBlock (.slice a f.len c)) W (W.alloc (.cells #[.int .i64 0,.string ⟨#[]⟩,.int .i64 0,.int .i64 0,.slice none 0 0] 54)):=(Ky.refl _ _).alloc _
  have hOB:=OB.refl W a f.len c
  have RS:=Bx.new W 54 #[.int .i64 0,.string ⟨#[]⟩,.int .i64 0,.int .i64 0,.slice none 0 0]
  have hX0 : W.heap.size ≠ b:=by omega
  have C1:=fun W h=>H.ex 0 b m T l W h
  cases he1 : pr N (.ex 0) l with
  | out=>rw [he1] at hR;exact absurd hR.symm hr
  | bad q1 =>
    rw [he1] at hR C1
    simp only [PR.bind] at hR
    subst hR
    go_enter Tryz.func126,Tryz.ntmps126
    go_wp2_with (go_at_call 124;refine (C1 _ hrow.ps (by simp)).mono ?_;rintro e v1 ⟨he,hk⟩;unfold refp at he;subst he)
    exact ⟨rfl,rfl,hky.onto hk fun _ _ e=>.inl e⟩
  | ok g1 l1 =>
    have hl1:=pr_len he1
    obtain ⟨t2,l2,rfl⟩:=(pr_ends he1 h.ps.ends).cons
    rw [he1] at hR C1
    simp only [PR.bind] at hR
    simp only [st,List.length_cons] at hl1
    by_cases h15 : cls t2 = 15
    · have wt215 : rd t2 [44] = true:=cls_rd (c:=15) (by omega) (by decide) (by decide)
      rw [if_pos (show hc (t2 :: l2) = 15 from h15)] at hR
      change ((pr N (.ex 0) l2).bind _) = R at hR
      have C2:=fun W h=>H.ex 0 b m T l2 W h
      cases he2 : pr N (.ex 0) l2 with
      | out=>rw [he2] at hR;exact absurd hR.symm hr
      | bad q2 =>
        rw [he2] at hR C2
        simp only [PR.bind] at hR
        subst hR
        go_enter Tryz.func126,Tryz.ntmps126
        go_wp2_with (first | (go_at_call 124;refine (C2 _ hrow.ps (by simp)).mono ?_;rintro e v2 ⟨he,hk⟩;unfold refp at he;subst he) | (go_at_call 96;refine (expect_t b m T _ t2 _ _ hrow.ps (by assumption)).mono ?_;rintro e y1 ⟨rfl,hT1⟩;have RS:=RS.ky hT1.ky hX0;have hrow:=hrow.took hT1;have hky:=hky.onto hT1.ky (fun _ _ e=>.inl e)) | (go_at_call 124;refine (C1 _ hrow.ps (by simp)).mono ?_;rintro e v1 ⟨k1,tt1,n1,p1,a1,c1,ks1,rfl,rfl,hTN1,hTk1⟩) | (at_builtin;refine app_row2 rfl _ _ rfl hrow hTN1 hTk1 (by have:=hrow.few;(try simp only [List.length_cons] at this);(try simp only [List.length_cons]);omega) rfl rfl ?_;intro gg1 cc1 x1 hrow2 hky2 hat2;have RS:=RS.ky hky2 (hrow.nslot hX0);have hky3:=hOB.ky hky hky2;have hOB:=hOB.app hky.size hat2;have hky:=hky3;have hrow:=hrow2))
        exact ⟨rfl,rfl,hky.onto hk fun _ _ e=>.inl e⟩
      | ok g2 l3 =>
        have hl2:=pr_len he2
        obtain ⟨t4,l4,rfl⟩:=(pr_ends he2 ((pr_ends he1 h.ps.ends).tail (by omega))).cons
        rw [he2] at hR C2
        simp only [PR.bind] at hR
        simp only [st,List.length_cons] at hl2
        by_cases h4 : cls t4 = 15
        · have wt415 : rd t4 [44] = true:=cls_rd (c:=15) (by omega) (by decide) (by decide)
          rw [if_pos (show hc (t4 :: l4) = 15 from h4)] at hR
          change ((pr N (.ex 0) l4).bind _) = R at hR
          have C3:=fun W h=>H.ex 0 b m T l4 W h
          cases he3 : pr N (.ex 0) l4 with
          | out=>rw [he3] at hR;exact absurd hR.symm hr
          | bad q3 =>
            rw [he3] at hR C3
            simp only [PR.bind] at hR
            subst hR
            go_enter Tryz.func126,Tryz.ntmps126
            go_wp2_with (first | (go_at_call 124;refine (C3 _ hrow.ps (by simp)).mono ?_;rintro e v3 ⟨he,hk⟩;unfold refp at he;subst he) | (go_at_call 63;refine (accept_t b m T _ t4 _ _ hrow.ps (by assumption)).mono ?_;rintro e y2 ⟨rfl,hT2⟩;have RS:=RS.ky hT2.ky hX0;have hrow:=hrow.took hT2;have hky:=hky.onto hT2.ky (fun _ _ e=>.inl e)) | (go_at_call 124;refine (C2 _ hrow.ps (by simp)).mono ?_;rintro e v2 ⟨k2,tt2,n2,p2,a2,c2,ks2,rfl,rfl,hTN2,hTk2⟩) | (at_builtin;refine app_row2 rfl _ _ rfl hrow hTN2 hTk2 (by have:=hrow.few;(try simp only [List.length_cons] at this);(try simp only [List.length_cons]);omega) rfl rfl ?_;intro gg2 cc2 x2 hrow2 hky2 hat2;have RS:=RS.ky hky2 (hrow.nslot hX0);have hky3:=hOB.ky hky hky2;have hOB:=hOB.app hky.size hat2;have hky:=hky3;have hrow:=hrow2) | (go_at_call 96;refine (expect_t b m T _ t2 _ _ hrow.ps (by assumption)).mono ?_;rintro e y1 ⟨rfl,hT1⟩;have RS:=RS.ky hT1.ky hX0;have hrow:=hrow.took hT1;have hky:=hky.onto hT1.ky (fun _ _ e=>.inl e)) | (go_at_call 124;refine (C1 _ hrow.ps (by simp)).mono ?_;rintro e v1 ⟨k1,tt1,n1,p1,a1,c1,ks1,rfl,rfl,hTN1,hTk1⟩) | (at_builtin;refine app_row2 rfl _ _ rfl hrow hTN1 hTk1 (by have:=hrow.few;(try simp only [List.length_cons] at this);(try simp only [List.length_cons]);omega) rfl rfl ?_;intro gg1 cc1 x1 hrow2 hky2 hat2;have RS:=RS.ky hky2 (hrow.nslot hX0);have hky3:=hOB.ky hky hky2;have hOB:=hOB.app hky.size hat2;have hky:=hky3;have hrow:=hrow2))
            exact ⟨rfl,rfl,hky.onto hk fun _ _ e=>.inl e⟩
          | ok g3 l5 =>
            have hl3:=pr_len he3
            rw [he3] at hR C3
            simp only [PR.bind] at hR
            simp only [st] at hl3
            rw [bodyP_bind] at hR
            have CB:=fun W h=>body_any N H b m T l5 W h
            cases hb : bodyP (pr N) l5 .ok with
            | out=>rw [hb] at hR;exact absurd hR.symm hr
            | bad q9 =>
              rw [hb] at hR CB
              simp only [PR.bind] at hR
              subst hR
              go_enter Tryz.func126,Tryz.ntmps126
              go_wp2_with (first | (go_at_call 98;refine (CB _ hrow.ps (by simp)).mono ?_;rintro e v9 ⟨he,hk⟩;unfold refp at he;subst he) | (go_at_call 124;refine (C3 _ hrow.ps (by simp)).mono ?_;rintro e v3 ⟨k3,tt3,n3,p3,a3,c3,ks3,rfl,rfl,hTN3,hTk3⟩) | (at_builtin;refine app_row2 rfl _ _ rfl hrow hTN3 hTk3 (by have:=hrow.few;(try simp only [List.length_cons] at this);(try simp only [List.length_cons]);omega) rfl rfl ?_;intro gg3 cc3 x3 hrow2 hky2 hat2;have RS:=RS.ky hky2 (hrow.nslot hX0);have hky3:=hOB.ky hky hky2;have hOB:=hOB.app hky.size hat2;have hky:=hky3;have hrow:=hrow2) | (go_at_call 63;refine (accept_t b m T _ t4 _ _ hrow.ps (by assumption)).mono ?_;rintro e y2 ⟨rfl,hT2⟩;have RS:=RS.ky hT2.ky hX0;have hrow:=hrow.took hT2;have hky:=hky.onto hT2.ky (fun _ _ e=>.inl e)) | (go_at_call 124;refine (C2 _ hrow.ps (by simp)).mono ?_;rintro e v2 ⟨k2,tt2,n2,p2,a2,c2,ks2,rfl,rfl,hTN2,hTk2⟩) | (at_builtin;refine app_row2 rfl _ _ rfl hrow hTN2 hTk2 (by have:=hrow.few;(try simp only [List.length_cons] at this);(try simp only [List.length_cons]);omega) rfl rfl ?_;intro gg2 cc2 x2 hrow2 hky2 hat2;have RS:=RS.ky hky2 (hrow.nslot hX0);have hky3:=hOB.ky hky hky2;have hOB:=hOB.app hky.size hat2;have hky:=hky3;have hrow:=hrow2) | (go_at_call 96;refine (expect_t b m T _ t2 _ _ hrow.ps (by assumption)).mono ?_;rintro e y1 ⟨rfl,hT1⟩;have RS:=RS.ky hT1.ky hX0;have hrow:=hrow.took hT1;have hky:=hky.onto hT1.ky (fun _ _ e=>.inl e)) | (go_at_call 124;refine (C1 _ hrow.ps (by simp)).mono ?_;rintro e v1 ⟨k1,tt1,n1,p1,a1,c1,ks1,rfl,rfl,hTN1,hTk1⟩) | (at_builtin;refine app_row2 rfl _ _ rfl hrow hTN1 hTk1 (by have:=hrow.few;(try simp only [List.length_cons] at this);(try simp only [List.length_cons]);omega) rfl rfl ?_;intro gg1 cc1 x1 hrow2 hky2 hat2;have RS:=RS.ky hky2 (hrow.nslot hX0);have hky3:=hOB.ky hky hky2;have hOB:=hOB.app hky.size hat2;have hky:=hky3;have hrow:=hrow2))
              exact ⟨rfl,rfl,hky.onto hk fun _ _ e=>.inl e⟩
            | ok g9 l9 =>
              obtain ⟨_,hl9⟩:=body_len hb
              rw [hb] at hR CB
              simp only [PR.bind] at hR
              try simp only [List.length_cons] at hl9
              subst hR
              go_enter Tryz.func126,Tryz.ntmps126
              go_wp2_with (first | (go_at_call 98;refine (CB _ hrow.ps (by simp)).mono ?_;rintro e v9 ⟨k9,tt9,n9,p9,a9,c9,ks9,rfl,rfl,hTN9,hTk9⟩) | (at_builtin;refine app_row2 rfl _ _ rfl hrow hTN9 hTk9 (by have:=hrow.few;(try simp only [List.length_cons] at this);(try simp only [List.length_cons]);omega) rfl rfl ?_;intro gg9 cc9 x9 hrow2 hky2 hat2;have RS:=RS.ky hky2 (hrow.nslot hX0);have hky3:=hOB.ky hky hky2;have hOB:=hOB.app hky.size hat2;have hky:=hky3;have hrow:=hrow2;obtain ⟨q0,q1,q2,q3,q4⟩:=RS.five;obtain ⟨f0,f1,f2,f3,f4⟩:=RS.frozen5) | (go_at_call 124;refine (C3 _ hrow.ps (by simp)).mono ?_;rintro e v3 ⟨k3,tt3,n3,p3,a3,c3,ks3,rfl,rfl,hTN3,hTk3⟩) | (at_builtin;refine app_row2 rfl _ _ rfl hrow hTN3 hTk3 (by have:=hrow.few;(try simp only [List.length_cons] at this);(try simp only [List.length_cons]);omega) rfl rfl ?_;intro gg3 cc3 x3 hrow2 hky2 hat2;have RS:=RS.ky hky2 (hrow.nslot hX0);have hky3:=hOB.ky hky hky2;have hOB:=hOB.app hky.size hat2;have hky:=hky3;have hrow:=hrow2) | (go_at_call 63;refine (accept_t b m T _ t4 _ _ hrow.ps (by assumption)).mono ?_;rintro e y2 ⟨rfl,hT2⟩;have RS:=RS.ky hT2.ky hX0;have hrow:=hrow.took hT2;have hky:=hky.onto hT2.ky (fun _ _ e=>.inl e)) | (go_at_call 124;refine (C2 _ hrow.ps (by simp)).mono ?_;rintro e v2 ⟨k2,tt2,n2,p2,a2,c2,ks2,rfl,rfl,hTN2,hTk2⟩) | (at_builtin;refine app_row2 rfl _ _ rfl hrow hTN2 hTk2 (by have:=hrow.few;(try simp only [List.length_cons] at this);(try simp only [List.length_cons]);omega) rfl rfl ?_;intro gg2 cc2 x2 hrow2 hky2 hat2;have RS:=RS.ky hky2 (hrow.nslot hX0);have hky3:=hOB.ky hky hky2;have hOB:=hOB.app hky.size hat2;have hky:=hky3;have hrow:=hrow2) | (go_at_call 96;refine (expect_t b m T _ t2 _ _ hrow.ps (by assumption)).mono ?_;rintro e y1 ⟨rfl,hT1⟩;have RS:=RS.ky hT1.ky hX0;have hrow:=hrow.took hT1;have hky:=hky.onto hT1.ky (fun _ _ e=>.inl e)) | (go_at_call 124;refine (C1 _ hrow.ps (by simp)).mono ?_;rintro e v1 ⟨k1,tt1,n1,p1,a1,c1,ks1,rfl,rfl,hTN1,hTk1⟩) | (at_builtin;refine app_row2 rfl _ _ rfl hrow hTN1 hTk1 (by have:=hrow.few;(try simp only [List.length_cons] at this);(try simp only [List.length_cons]);omega) rfl rfl ?_;intro gg1 cc1 x1 hrow2 hky2 hat2;have RS:=RS.ky hky2 (hrow.nslot hX0);have hky3:=hOB.ky hky hky2;have hOB:=hOB.app hky.size hat2;have hky:=hky3;have hrow:=hrow2))
              refine bodyPost_ret (v:=.agg #[.int .i64 26,.string ⟨#[]⟩,.int .i64 0,.int .i64 at',.slice (some ⟨gg9,0,none⟩) _ cc9]) (by simp [results,Tryz.results126,go_sem,q0,q1,q2,q3,q4];rfl) rfl ?_
              exact PQ.five (hrow.kl.node 26 [] 0 at') hrow.ps hky hlt.2
        · have wt415 : rd t4 [44] = false:=cls_nrd (c:=15) (by omega) (by decide) (by decide)
          rw [if_neg (show ¬ hc (t4 :: l4) = 15 from h4)] at hR
          rw [bodyP_bind] at hR
          have CB:=fun W h=>body_any N H b m T (t4 :: l4) W h
          cases hb : bodyP (pr N) (t4 :: l4) .ok with
          | out=>rw [hb] at hR;exact absurd hR.symm hr
          | bad q9 =>
            rw [hb] at hR CB
            simp only [PR.bind] at hR
            subst hR
            go_enter Tryz.func126,Tryz.ntmps126
            go_wp2_with (first | (go_at_call 98;refine (CB _ hrow.ps (by simp)).mono ?_;rintro e v9 ⟨he,hk⟩;unfold refp at he;subst he) | (go_at_call 63;refine (accept_f b m T _ t4 _ _ hrow.ps (by assumption)).mono ?_;rintro e y2 ⟨rfl,hb2⟩;have RS:=RS.below hb2;have hrow:=hrow.past hb2;have hky:=hky.trans (.of_below hb2)) | (go_at_call 124;refine (C2 _ hrow.ps (by simp)).mono ?_;rintro e v2 ⟨k2,tt2,n2,p2,a2,c2,ks2,rfl,rfl,hTN2,hTk2⟩) | (at_builtin;refine app_row2 rfl _ _ rfl hrow hTN2 hTk2 (by have:=hrow.few;(try simp only [List.length_cons] at this);(try simp only [List.length_cons]);omega) rfl rfl ?_;intro gg2 cc2 x2 hrow2 hky2 hat2;have RS:=RS.ky hky2 (hrow.nslot hX0);have hky3:=hOB.ky hky hky2;have hOB:=hOB.app hky.size hat2;have hky:=hky3;have hrow:=hrow2) | (go_at_call 96;refine (expect_t b m T _ t2 _ _ hrow.ps (by assumption)).mono ?_;rintro e y1 ⟨rfl,hT1⟩;have RS:=RS.ky hT1.ky hX0;have hrow:=hrow.took hT1;have hky:=hky.onto hT1.ky (fun _ _ e=>.inl e)) | (go_at_call 124;refine (C1 _ hrow.ps (by simp)).mono ?_;rintro e v1 ⟨k1,tt1,n1,p1,a1,c1,ks1,rfl,rfl,hTN1,hTk1⟩) | (at_builtin;refine app_row2 rfl _ _ rfl hrow hTN1 hTk1 (by have:=hrow.few;(try simp only [List.length_cons] at this);(try simp only [List.length_cons]);omega) rfl rfl ?_;intro gg1 cc1 x1 hrow2 hky2 hat2;have RS:=RS.ky hky2 (hrow.nslot hX0);have hky3:=hOB.ky hky hky2;have hOB:=hOB.app hky.size hat2;have hky:=hky3;have hrow:=hrow2))
            exact ⟨rfl,rfl,hky.onto hk fun _ _ e=>.inl e⟩
          | ok g9 l9 =>
            obtain ⟨_,hl9⟩:=body_len hb
            rw [hb] at hR CB
            simp only [PR.bind] at hR
            try simp only [List.length_cons] at hl9
            subst hR
            go_enter Tryz.func126,Tryz.ntmps126
            go_wp2_with (first | (go_at_call 98;refine (CB _ hrow.ps (by simp)).mono ?_;rintro e v9 ⟨k9,tt9,n9,p9,a9,c9,ks9,rfl,rfl,hTN9,hTk9⟩) | (at_builtin;refine app_row2 rfl _ _ rfl hrow hTN9 hTk9 (by have:=hrow.few;(try simp only [List.length_cons] at this);(try simp only [List.length_cons]);omega) rfl rfl ?_;intro gg9 cc9 x9 hrow2 hky2 hat2;have RS:=RS.ky hky2 (hrow.nslot hX0);have hky3:=hOB.ky hky hky2;have hOB:=hOB.app hky.size hat2;have hky:=hky3;have hrow:=hrow2;obtain ⟨q0,q1,q2,q3,q4⟩:=RS.five;obtain ⟨f0,f1,f2,f3,f4⟩:=RS.frozen5) | (go_at_call 63;refine (accept_f b m T _ t4 _ _ hrow.ps (by assumption)).mono ?_;rintro e y2 ⟨rfl,hb2⟩;have RS:=RS.below hb2;have hrow:=hrow.past hb2;have hky:=hky.trans (.of_below hb2)) | (go_at_call 124;refine (C2 _ hrow.ps (by simp)).mono ?_;rintro e v2 ⟨k2,tt2,n2,p2,a2,c2,ks2,rfl,rfl,hTN2,hTk2⟩) | (at_builtin;refine app_row2 rfl _ _ rfl hrow hTN2 hTk2 (by have:=hrow.few;(try simp only [List.length_cons] at this);(try simp only [List.length_cons]);omega) rfl rfl ?_;intro gg2 cc2 x2 hrow2 hky2 hat2;have RS:=RS.ky hky2 (hrow.nslot hX0);have hky3:=hOB.ky hky hky2;have hOB:=hOB.app hky.size hat2;have hky:=hky3;have hrow:=hrow2) | (go_at_call 96;refine (expect_t b m T _ t2 _ _ hrow.ps (by assumption)).mono ?_;rintro e y1 ⟨rfl,hT1⟩;have RS:=RS.ky hT1.ky hX0;have hrow:=hrow.took hT1;have hky:=hky.onto hT1.ky (fun _ _ e=>.inl e)) | (go_at_call 124;refine (C1 _ hrow.ps (by simp)).mono ?_;rintro e v1 ⟨k1,tt1,n1,p1,a1,c1,ks1,rfl,rfl,hTN1,hTk1⟩) | (at_builtin;refine app_row2 rfl _ _ rfl hrow hTN1 hTk1 (by have:=hrow.few;(try simp only [List.length_cons] at this);(try simp only [List.length_cons]);omega) rfl rfl ?_;intro gg1 cc1 x1 hrow2 hky2 hat2;have RS:=RS.ky hky2 (hrow.nslot hX0);have hky3:=hOB.ky hky hky2;have hOB:=hOB.app hky.size hat2;have hky:=hky3;have hrow:=hrow2))
            refine bodyPost_ret (v:=.agg #[.int .i64 26,.string ⟨#[]⟩,.int .i64 0,.int .i64 at',.slice (some ⟨gg9,0,none⟩) _ cc9]) (by simp [results,Tryz.results126,go_sem,q0,q1,q2,q3,q4];rfl) rfl ?_
            exact PQ.five (hrow.kl.node 26 [] 0 at') hrow.ps hky hlt.2
    · have wt215 : rd t2 [44] = false:=cls_nrd (c:=15) (by omega) (by decide) (by decide)
      rw [if_neg (show ¬ hc (t2 :: l2) = 15 from h15)] at hR
      subst hR
      go_enter Tryz.func126,Tryz.ntmps126
      go_wp2_with (first | (go_at_call 96;refine (expect_f b m T _ t2 _ _ hrow.ps (by assumption)).mono ?_;rintro e y1 ⟨he,hb⟩;unfold refp at he;subst he) | (go_at_call 124;refine (C1 _ hrow.ps (by simp)).mono ?_;rintro e v1 ⟨k1,tt1,n1,p1,a1,c1,ks1,rfl,rfl,hTN1,hTk1⟩) | (at_builtin;refine app_row2 rfl _ _ rfl hrow hTN1 hTk1 (by have:=hrow.few;(try simp only [List.length_cons] at this);(try simp only [List.length_cons]);omega) rfl rfl ?_;intro gg1 cc1 x1 hrow2 hky2 hat2;have RS:=RS.ky hky2 (hrow.nslot hX0);have hky3:=hOB.ky hky hky2;have hOB:=hOB.app hky.size hat2;have hky:=hky3;have hrow:=hrow2))
      exact ⟨rfl,rfl,hky.trans (.of_below hb)⟩
end Go.Proofs.YtkjbgggghigapaaGreat


namespace Go.Proofs.YtkjbgggghigapaaGreat
open Go.RowKit
structure Nw (b m : Nat) (T l : List Tok) (W : World) (X : Nat) (k : Int) (t : List UInt8) (n p : Int) (a : Option Addr) (c : Nat) (f : F) (w : World) : Prop where
  tk : Tk b m T l W w
  res : Bx W.heap.size 54 #[.int .i64 0,.string ⟨#[]⟩,.int .i64 0,.int .i64 0,.slice none 0 0] w
  box : Bx X 54 #[.int .i64 k,.string ⟨t.toArray⟩,.int .i64 n,.int .i64 p,.slice a f.len c] w
  kl : KL 54 (fun g=>W.heap.size < g ∧ g ≠ X) w (.slice a f.len c) f
  few : f.len + l.length ≤ T.length
  lt : b < W.heap.size ∧ m ≤ W.heap.size ∧ W.heap.size < X
section
variable {b m : Nat} {T l l' : List Tok} {W : World} {X : Nat} {k : Int} {t : List UInt8} {n p : Int} {a : Option Addr} {c : Nat} {f : F} {w w' : World}
theorem Nw.row (h : Nw b m T l W X k t n p a c f w) : Row b m T l w (fun g=>W.heap.size < g ∧ g ≠ X) a c f:=by
  have hlt:=h.lt
  have hX:=h.box.lt
  exact ⟨h.tk.ps,h.kl,fun x hx e=>by omega,fun x hx=>⟨by omega,by omega⟩,h.few⟩
theorem Nw.below (h : Nw b m T l W X k t n p a c f w) (hb : Below w.heap.size w w') : Nw b m T l W X k t n p a c f w':=⟨h.tk.below hb,h.res.below hb,h.box.below hb,h.kl.below hb,h.few,h.lt⟩
theorem Nw.drew (h : Nw b m T l W X k t n p a c f w) : Nw b m T l W X k t n p a c f w.drew:=⟨h.tk.drew,h.res.drew,h.box.drew,h.kl.keep fun _ _ _=>rfl,h.few,h.lt⟩
theorem Nw.took (h : Nw b m T l W X k t n p a c f w) (hT : Tk b m T l' w w') (hl : l'.length ≤ l.length) : Nw b m T l' W X k t n p a c f w':=by
  have hlt:=h.lt
  have:=h.few
  exact ⟨h.tk.trans hT,h.res.ky hT.ky (by omega),h.box.ky hT.ky (by omega),h.kl.ky hT.ky (by omega),by omega,h.lt⟩
theorem Nw.grown {a' : Option Addr} {c' : Nat} {f' : F} (h : Nw b m T l W X k t n p a c f w) (ps : PS b m T l' w') (kl : KL 54 (fun g=>W.heap.size < g ∧ g ≠ X) w' (.slice a' f'.len c') f') (few : f'.len + l'.length ≤ T.length) (hk : Ky (fun k=>k = b ∨ some k = Value.ownBlock (.slice a f.len c)) w w') : ∃ wF,w'.setCell ⟨X,4,none⟩ (.slice a' f'.len c') = wF ∧ Nw b m T l' W X k t n p a' c' f' wF ∧ Bx X 54 #[.int .i64 k,.string ⟨t.toArray⟩,.int .i64 n,.int .i64 p,.slice a f.len c] w':=by
  have hlt:=h.lt
  obtain ⟨xs,hown,hoP,_⟩:=h.kl.out
  have hne : ∀ x,(x = X ∨ x ≤ W.heap.size) → ¬ some x = Value.ownBlock (.slice a f.len c):=fun x hx e=>by have:=hoP x e.symm;omega
  have hS : ∀ x,(x = X ∨ x ≤ W.heap.size) → x ≠ b → ¬ (x = b ∨ some x = Value.ownBlock (.slice a f.len c)):=fun x hx hb e=>e.elim hb (hne x hx)
  have hB:=h.box.ky hk (hS X (.inl rfl) (by omega))
  refine ⟨_,rfl,⟨⟨ps.set (by omega) _,?_⟩,(h.res.ky hk (hS _ (.inr (Nat.le_refl _)) (by omega))).set (by omega) _,hB.put4 _,kl.set (fun e=>e.2 rfl) _,few,h.lt⟩,hB⟩
  refine Ky.new (h.tk.ky.onto hk fun i hi e=>?_) (by omega) _
  rcases e with e | e
  · exact e
  · exact absurd e (hne i (.inr (by omega)))
theorem Nw.ret (h : Nw b m T l W X k t n p a c f w) (u0 u1 u2 u3 u4 : Value) : PN b m T W (.ok (one k t n p f) l) (.returned (.agg #[.int .i64 (k),.string ⟨(t).toArray⟩,.int .i64 (n),.int .i64 (p),.slice a f.len c])) (((((w.setCell ⟨W.heap.size,0,none⟩ u0).setCell ⟨W.heap.size,1,none⟩ u1).setCell ⟨W.heap.size,2,none⟩ u2).setCell ⟨W.heap.size,3,none⟩ u3).setCell ⟨W.heap.size,4,none⟩ u4):=by
  have hlt:=h.lt
  exact PN.five (h.kl.node k t n p) h.tk (fun g hg=>hg.1) hlt.2.1
end
theorem Nw.num {b m : Nat} {T l : List Tok} {W : World} {X : Nat} {k : Int} {t : List UInt8} {n p : Int} {a : Option Addr} {c : Nat} {f : F} {w : World} (h : Nw b m T l W X k t n p a c f w) (n' : Int) : ∃ wF,w.setCell ⟨X,2,none⟩ (.int .i64 n') = wF ∧ Nw b m T l W X k t n' p a c f wF:=by
  have hlt:=h.lt
  exact ⟨_,rfl,h.tk.new (by omega) hlt.2.1 _,h.res.set (by omega) _,h.box.put2 _,h.kl.set (fun e=>e.2 rfl) _,h.few,h.lt⟩
theorem Nw.begin {b m : Nat} {T l : List Tok} {W w : World} {a : Option Addr} {c : Nat} {f : F} (h : Rs b m T l W w) (hkl : KL 54 (fun g=>W.heap.size < g) w (.slice a f.len c) f) (few : f.len + l.length ≤ T.length) (k : Int) (t : List UInt8) (n p : Int) : Nw b m T l W w.heap.size k t n p a c f (w.alloc (.cells #[.int .i64 k,.string ⟨t.toArray⟩,.int .i64 n,.int .i64 p,.slice a f.len c] 54)):=by
  obtain ⟨xs,h1,h2,h3⟩:=hkl.out
  have hk2 : KL 54 (fun g=>W.heap.size < g ∧ g ≠ w.heap.size) w (.slice a f.len c) f:=⟨xs,h1,fun g hg=>⟨h2 g hg,by have:=(h1.lt g hg).2;omega⟩,h3.mono fun g hg hl=>⟨⟨hg.1,by omega⟩,hg.2⟩⟩
  exact ⟨h.tk.alloc _,h.res.alloc _,Bx.new _ _ _,hk2.alloc _,few,h.lt.1,h.lt.2,h.res.lt⟩
theorem Rs.name1 {b m : Nat} {T l : List Tok} {W w : World} (h : Rs b m T l W w) (t' : List UInt8) (p' : Int) (few : 1 + l.length ≤ T.length) : Row b m T l (w.alloc (.cells #[.int .i64 (6),.string ⟨(t').toArray⟩,.int .i64 (0),.int .i64 (p'),.slice none 0 0] 54)) (fun g=>W.heap.size < g) (some ⟨w.heap.size,0,none⟩) 1 (one 6 t' 0 p' .nil):=by
  have hlt:=h.lt
  have hX:=h.res.lt
  exact ⟨h.tk.ps.alloc _,(TN.leaf 54 w (fun g=>W.heap.size < g) 6 t' 0 p').row1 (fun _ e _=>e) hX,fun x hx=>by omega,fun x hx=>by simp at hx;omega,by rw [one_len];exact few⟩
theorem Rs.row4 {b m y : Nat} {T l l' : List Tok} {W w w' : World} (h : Rs b m T l W w) (ps : PS b m T l' w') (hk : Ky (fun k=>k = b ∨ some k = some y) w w') (hy : W.heap.size < y) : Rs b m T l' W w':=by
  have hlt:=h.lt
  exact ⟨⟨ps,h.tk.ky.onto hk fun i hi e=>e.elim id fun e=>by simp at e;omega⟩,h.res.ky hk (fun e=>e.elim (by omega) fun e=>by simp at e;omega),h.lt⟩
theorem enters100 : ∀ args w,(callFunc 98 args).run Tryz.prog w = .ok (.enter 98 args) w:=enters_of Tryz.func98 (by kernel_rfl) rfl
set_option maxRecDepth 20000 in
set_option maxHeartbeats 16000000 in
theorem loop_any (N : Nat) (H : CC N) (b m : Nat) (T l : List Tok) (t : Tok) (W : World) (h : PS b m T (t :: l) W) (h56 : cls t ≠ 56) (hr : forP (pr N) (t :: l) ≠ .out) : Calls Tryz.prog 101 #[.pointer (some ⟨b,0,none⟩)] W (PN b m T W (forP (pr N) (t :: l))):=by
  have hlt:=h.lt
  have hT:=h.len
  have D:=h.rs
  obtain ⟨t2,l2,rfl⟩:=tail_cons h.ends h56
  obtain ⟨R,hR⟩ : ∃ R,forP (pr N) (t :: t2 :: l2) = R:=⟨_,rfl⟩
  rw [hR] at hr ⊢
  unfold forP nam at hR
  simp only [List.tail_cons,show ha (t :: t2 :: l2) = t.p from rfl,show ht (t2 :: l2) = t2.t from rfl,show ha (t2 :: l2) = t2.p from rfl] at hR
  by_cases h51 : cls t2 = 51
  · rw [if_pos (show hc (t2 :: l2) = 51 from h51)] at hR
    obtain ⟨t3,l3,rfl⟩:=tail_cons (h.ends.tail h56) (by omega)
    by_cases h14 : cls t3 = 14
    · have wt314 : rd t3 [61] = true:=cls_rd (c:=14) (by omega) (by decide) (by decide)
      rw [if_pos (show hc (t3 :: l3) = 14 from h14)] at hR
      simp only [List.tail_cons] at hR
      cases he : numP (pr N) t.p (one 6 t2.t 0 t2.p .nil) l3 with
      | out=>rw [he] at hR;exact absurd hR.symm hr
      | bad p2 =>
        rw [he] at hR
        subst hR
        go_enter Tryz.func101,Tryz.ntmps101
        go_wp2_with (first | (go_at_call 93;refine (take_p b m T _ t _ D.tk.ps h56).mono ?_;rintro e w1 ⟨rfl,hT1⟩;have D:=D.took hT1) | (go_at_call 95;refine (name_yes b m T _ t2 _ D.tk.ps h51).mono ?_;rintro e w2 ⟨rfl,hT2⟩;have D:=D.took hT2;have hz:=D.res.lt;have RW:=D.name1 t2.t t2.p (by simp only [List.length_cons] at hT ⊢;omega);have D:=D.alloc (.cells #[.int .i64 (6),.string ⟨(t2.t).toArray⟩,.int .i64 (0),.int .i64 (t2.p),.slice none 0 0] 54)) | (go_at_call 63;refine (accept_t b m T _ t3 _ _ D.tk.ps (by assumption)).mono ?_;rintro e w3 ⟨rfl,hT3⟩;have D:=D.took hT3;have RW:=RW.took hT3) | (go_at_call 126;have CN:=numbers_any N H t.p b m T _ _ _ _ _ _ RW;rw [he] at CN;refine (CN (by simp)).mono ?_;rintro e w4 ⟨he,hk⟩;unfold refp at he;subst he))
        exact ⟨rfl,rfl,D.tk.ky.onto hk fun i hi e=>e.elim id fun e=>by simp [Value.ownBlock] at e;omega⟩
      | ok g l4 =>
        rw [he] at hR
        subst hR
        go_enter Tryz.func101,Tryz.ntmps101
        go_wp2_with (first | (go_at_call 93;refine (take_p b m T _ t _ D.tk.ps h56).mono ?_;rintro e w1 ⟨rfl,hT1⟩;have D:=D.took hT1) | (go_at_call 95;refine (name_yes b m T _ t2 _ D.tk.ps h51).mono ?_;rintro e w2 ⟨rfl,hT2⟩;have D:=D.took hT2;have hz:=D.res.lt;have RW:=D.name1 t2.t t2.p (by simp only [List.length_cons] at hT ⊢;omega);have D:=D.alloc (.cells #[.int .i64 (6),.string ⟨(t2.t).toArray⟩,.int .i64 (0),.int .i64 (t2.p),.slice none 0 0] 54)) | (go_at_call 63;refine (accept_t b m T _ t3 _ _ D.tk.ps (by assumption)).mono ?_;rintro e w3 ⟨rfl,hT3⟩;have D:=D.took hT3;have RW:=RW.took hT3) | (go_at_call 126;have CN:=numbers_any N H t.p b m T _ _ _ _ _ _ RW;rw [he] at CN;refine (CN (by simp)).mono ?_;rintro e w4 ⟨k,tt,n,p,a1,c1,ks,rfl,rfl,hTN,hps,hk⟩;have D:=D.row4 hps hk hz;obtain ⟨q0,q1,q2,q3,q4⟩:=D.res.five;obtain ⟨f0,f1,f2,f3,f4⟩:=D.res.frozen5))
        refine bodyPost_ret (v:=(.agg #[.int .i64 (k),.string ⟨(tt).toArray⟩,.int .i64 (n),.int .i64 (p),.slice a1 ks.len c1])) (by simp [results,Tryz.results101,go_sem,q0,q1,q2,q3,q4]) rfl ?_
        exact PN.five hTN D.tk (fun _ e=>e) hlt.2
    · have wt314 : rd t3 [61] = false:=cls_nrd (c:=14) (by omega) (by decide) (by decide)
      rw [if_neg (show ¬ hc (t3 :: l3) = 14 from h14)] at hR
      cases he : pr N (.nms (one 6 t2.t 0 t2.p .nil)) (t3 :: l3) with
      | out=>rw [he] at hR;exact absurd hR.symm hr
      | bad p2 =>
        rw [he] at hR
        simp only [PR.bind] at hR
        subst hR
        go_enter Tryz.func101,Tryz.ntmps101
        go_wp2_with (first | (go_at_call 93;refine (take_p b m T _ t _ D.tk.ps h56).mono ?_;rintro e w1 ⟨rfl,hT1⟩;have D:=D.took hT1) | (go_at_call 95;refine (name_yes b m T _ t2 _ D.tk.ps h51).mono ?_;rintro e w2 ⟨rfl,hT2⟩;have D:=D.took hT2;have hz:=D.res.lt;have RW:=D.name1 t2.t t2.p (by simp only [List.length_cons] at hT ⊢;omega);have D:=D.alloc (.cells #[.int .i64 (6),.string ⟨(t2.t).toArray⟩,.int .i64 (0),.int .i64 (t2.p),.slice none 0 0] 54)) | (go_at_call 63;refine (accept_f b m T _ t3 _ _ D.tk.ps (by assumption)).mono ?_;rintro e w3 ⟨rfl,hb3⟩;have D:=D.below hb3;have RW:=RW.past hb3) | (go_at_call 97;have YtkjbgggghigapaaGreat:=names_p N b m T _ _ _ _ _ _ RW;rw [he] at YtkjbgggghigapaaGreat;refine (YtkjbgggghigapaaGreat (by simp)).mono ?_;rintro e w4 ⟨he,hk⟩;unfold refp at he;subst he))
        exact ⟨rfl,rfl,D.tk.ky.onto hk fun i hi e=>e.elim id fun e=>by simp [Value.ownBlock] at e;omega⟩
      | ok ns l4 =>
        have hsz:=sz_all _ _ _ _ _ he
        simp only [Sz,one_len] at hsz
        obtain ⟨t5,l5,rfl⟩:=(pr_ends he ((h.ends.tail h56).tail (by omega))).cons
        rw [he] at hR
        simp only [PR.bind,need] at hR
        simp only [List.length_cons] at hsz
        by_cases h16 : cls t5 = 16
        · have wt516 : rd t5 [105,110] = true:=cls_rd (c:=16) (by omega) (by decide) (by decide)
          rw [if_pos (show hc (t5 :: l5) = 16 from h16)] at hR
          change ((pr N (.lst ns) l5).bind _) = R at hR
          cases he2 : pr N (.lst ns) l5 with
          | out=>rw [he2] at hR;exact absurd hR.symm hr
          | bad p2 =>
            rw [he2] at hR
            simp only [PR.bind] at hR
            subst hR
            go_enter Tryz.func101,Tryz.ntmps101
            go_wp2_with (first | (go_at_call 93;refine (take_p b m T _ t _ D.tk.ps h56).mono ?_;rintro e w1 ⟨rfl,hT1⟩;have D:=D.took hT1) | (go_at_call 95;refine (name_yes b m T _ t2 _ D.tk.ps h51).mono ?_;rintro e w2 ⟨rfl,hT2⟩;have D:=D.took hT2;have hz:=D.res.lt;have RW:=D.name1 t2.t t2.p (by simp only [List.length_cons] at hT ⊢;omega);have D:=D.alloc (.cells #[.int .i64 (6),.string ⟨(t2.t).toArray⟩,.int .i64 (0),.int .i64 (t2.p),.slice none 0 0] 54)) | (go_at_call 63;refine (accept_f b m T _ t3 _ _ D.tk.ps (by assumption)).mono ?_;rintro e w3 ⟨rfl,hb3⟩;have D:=D.below hb3;have RW:=RW.past hb3) | (go_at_call 97;have YtkjbgggghigapaaGreat:=names_p N b m T _ _ _ _ _ _ RW;rw [he] at YtkjbgggghigapaaGreat;refine (YtkjbgggghigapaaGreat (by simp)).mono ?_;rintro e w4 ⟨a3,c3,rfl,hkl,hps,hk⟩;have D:=D.row4 hps hk hz;have hz4:=D.res.lt;have E:=Nw.begin D hkl (by simp only [List.length_cons] at hT ⊢;omega) 27 [] 0 t.p;obtain ⟨-,-,e2,-,e4⟩:=E.box.five;obtain ⟨-,-,e6,-,-⟩:=E.box.frozen5;obtain ⟨w6,hw6,E⟩:=E.num (ns.len : Nat)) | (go_at_call 96;refine (expect_t b m T _ t5 _ _ E.tk.ps (by assumption)).mono ?_;rintro e w7 ⟨rfl,hT7⟩;have E:=E.took hT7 (by simp);obtain ⟨-,-,-,-,v4⟩:=E.box.five) | (go_at_call 94;have CL:=H.lst b m T _ _ _ _ _ _ E.row;rw [he2] at CL;refine (CL (by simp)).mono ?_;rintro e w8 ⟨he,hk8⟩;unfold refp at he;subst he))
            obtain ⟨xs,hown,hoP,_⟩:=E.kl.out
            have hEl:=E.lt
            exact ⟨rfl,rfl,E.tk.ky.onto hk8 fun i hi e=>e.elim id fun e=>by have:=hoP i e.symm;omega⟩
          | ok f l6 =>
            have hsz2:=sz_all _ _ _ _ _ he2
            simp only [Sz] at hsz2
            rw [he2] at hR
            simp only [PR.bind] at hR
            rw [bodyP_bind] at hR
            have CB:=fun W h=>body_any N H b m T l6 W h
            cases hb : bodyP (pr N) l6 .ok with
            | out=>rw [hb] at hR;exact absurd hR.symm hr
            | bad p2 =>
              rw [hb] at hR CB
              simp only [PR.bind] at hR
              subst hR
              go_enter Tryz.func101,Tryz.ntmps101
              go_wp2_with (first | (go_at_call 93;refine (take_p b m T _ t _ D.tk.ps h56).mono ?_;rintro e w1 ⟨rfl,hT1⟩;have D:=D.took hT1) | (go_at_call 95;refine (name_yes b m T _ t2 _ D.tk.ps h51).mono ?_;rintro e w2 ⟨rfl,hT2⟩;have D:=D.took hT2;have hz:=D.res.lt;have RW:=D.name1 t2.t t2.p (by simp only [List.length_cons] at hT ⊢;omega);have D:=D.alloc (.cells #[.int .i64 (6),.string ⟨(t2.t).toArray⟩,.int .i64 (0),.int .i64 (t2.p),.slice none 0 0] 54)) | (go_at_call 63;refine (accept_f b m T _ t3 _ _ D.tk.ps (by assumption)).mono ?_;rintro e w3 ⟨rfl,hb3⟩;have D:=D.below hb3;have RW:=RW.past hb3) | (go_at_call 97;have YtkjbgggghigapaaGreat:=names_p N b m T _ _ _ _ _ _ RW;rw [he] at YtkjbgggghigapaaGreat;refine (YtkjbgggghigapaaGreat (by simp)).mono ?_;rintro e w4 ⟨a3,c3,rfl,hkl,hps,hk⟩;have D:=D.row4 hps hk hz;have hz4:=D.res.lt;have E:=Nw.begin D hkl (by simp only [List.length_cons] at hT ⊢;omega) 27 [] 0 t.p;obtain ⟨-,-,e2,-,e4⟩:=E.box.five;obtain ⟨-,-,e6,-,-⟩:=E.box.frozen5;obtain ⟨w6,hw6,E⟩:=E.num (ns.len : Nat)) | (go_at_call 96;refine (expect_t b m T _ t5 _ _ E.tk.ps (by assumption)).mono ?_;rintro e w7 ⟨rfl,hT7⟩;have E:=E.took hT7 (by simp);obtain ⟨-,-,-,-,v4⟩:=E.box.five) | (go_at_call 94;have CL:=H.lst b m T _ _ _ _ _ _ E.row;rw [he2] at CL;refine (CL (by simp)).mono ?_;rintro e w8 ⟨a8,c8,rfl,hkl8,hps8,hk8⟩;have hfe:=E.few;obtain ⟨w9,hw9,E,B9⟩:=E.grown hps8 hkl8 (by omega) hk8;obtain ⟨-,-,-,-,x9⟩:=B9.five;obtain ⟨-,-,-,-,y9⟩:=B9.frozen5;obtain ⟨-,-,-,-,z4⟩:=E.box.five))
              have E1:=E.drew
              go_region_dies
              all_goals
                refine (CB _ E1.tk.ps (by simp)).mono ?_
                rintro e wb ⟨he,hk⟩
                unfold refp at he
                subst he
                exact ⟨rfl,rfl,E1.tk.ky.trans hk⟩
            | ok g9 l9 =>
              obtain ⟨_,hl9⟩:=body_len hb
              rw [hb] at hR CB
              simp only [PR.bind] at hR
              subst hR
              go_enter Tryz.func101,Tryz.ntmps101
              go_wp2_with (first | (go_at_call 93;refine (take_p b m T _ t _ D.tk.ps h56).mono ?_;rintro e w1 ⟨rfl,hT1⟩;have D:=D.took hT1) | (go_at_call 95;refine (name_yes b m T _ t2 _ D.tk.ps h51).mono ?_;rintro e w2 ⟨rfl,hT2⟩;have D:=D.took hT2;have hz:=D.res.lt;have RW:=D.name1 t2.t t2.p (by simp only [List.length_cons] at hT ⊢;omega);have D:=D.alloc (.cells #[.int .i64 (6),.string ⟨(t2.t).toArray⟩,.int .i64 (0),.int .i64 (t2.p),.slice none 0 0] 54)) | (go_at_call 63;refine (accept_f b m T _ t3 _ _ D.tk.ps (by assumption)).mono ?_;rintro e w3 ⟨rfl,hb3⟩;have D:=D.below hb3;have RW:=RW.past hb3) | (go_at_call 97;have YtkjbgggghigapaaGreat:=names_p N b m T _ _ _ _ _ _ RW;rw [he] at YtkjbgggghigapaaGreat;refine (YtkjbgggghigapaaGreat (by simp)).mono ?_;rintro e w4 ⟨a3,c3,rfl,hkl,hps,hk⟩;have D:=D.row4 hps hk hz;have hz4:=D.res.lt;have E:=Nw.begin D hkl (by simp only [List.length_cons] at hT ⊢;omega) 27 [] 0 t.p;obtain ⟨-,-,e2,-,e4⟩:=E.box.five;obtain ⟨-,-,e6,-,-⟩:=E.box.frozen5;obtain ⟨w6,hw6,E⟩:=E.num (ns.len : Nat)) | (go_at_call 96;refine (expect_t b m T _ t5 _ _ E.tk.ps (by assumption)).mono ?_;rintro e w7 ⟨rfl,hT7⟩;have E:=E.took hT7 (by simp);obtain ⟨-,-,-,-,v4⟩:=E.box.five) | (go_at_call 94;have CL:=H.lst b m T _ _ _ _ _ _ E.row;rw [he2] at CL;refine (CL (by simp)).mono ?_;rintro e w8 ⟨a8,c8,rfl,hkl8,hps8,hk8⟩;have hfe:=E.few;obtain ⟨w9,hw9,E,B9⟩:=E.grown hps8 hkl8 (by omega) hk8;obtain ⟨-,-,-,-,x9⟩:=B9.five;obtain ⟨-,-,-,-,y9⟩:=B9.frozen5;obtain ⟨-,-,-,-,z4⟩:=E.box.five))
              have E1:=E.drew
              have hE1:=E1.few
              go_region_law (first | (refine step_goE (by rfl) 98 _ _ (by rfl) _ (by simp [Act.eval,Act.put]) enters100 (CB _ E1.tk.ps (by simp)) ?_;rintro e wb ⟨k,tt,n,p,a1,c1,ks,rfl,rfl,hTN,hTk⟩;refine ⟨_,rfl,?_⟩;obtain ⟨-,-,-,-,q4⟩:=(E1.took hTk (by omega)).box.five;obtain ⟨-,-,-,-,q5⟩:=(E1.took hTk (by omega)).box.fiveA) | (refine step_row2 (by rfl) _ _ (by rfl) E1.row hTN hTk (by omega) (by rfl) (by rfl) ?_;intro gg cc wc hrow hky;obtain ⟨w10,hw10,E4,B4⟩:=E1.grown hrow.ps hrow.kl hrow.few hky;obtain ⟨-,-,-,-,r4⟩:=B4.five;obtain ⟨-,-,-,-,g4⟩:=B4.frozen5;obtain ⟨q0,q1,q2,q3,q4'⟩:=E4.res.five;obtain ⟨f0,f1,f2,f3,f4⟩:=E4.res.frozen5;obtain ⟨p0,p1,p2',p3,p4⟩:=E4.box.five))
              all_goals
                go_wp2_with fail
                refine bodyPost_ret (v:=.agg #[.int .i64 27,.string ⟨#[]⟩,.int .i64 (ns.len : Nat),.int .i64 t.p,.slice (some ⟨gg,0,none⟩) (f.app (one k tt n p ks)).len cc]) (by simp [results,Tryz.results101,go_sem,q0,q1,q2,q3,q4']) rfl ?_
                exact E4.ret _ _ _ _ _
        · have wt516 : rd t5 [105,110] = false:=cls_nrd (c:=16) (by omega) (by decide) (by decide)
          rw [if_neg (show ¬ hc (t5 :: l5) = 16 from h16)] at hR
          subst hR
          go_enter Tryz.func101,Tryz.ntmps101
          go_wp2_with (first | (go_at_call 93;refine (take_p b m T _ t _ D.tk.ps h56).mono ?_;rintro e w1 ⟨rfl,hT1⟩;have D:=D.took hT1) | (go_at_call 95;refine (name_yes b m T _ t2 _ D.tk.ps h51).mono ?_;rintro e w2 ⟨rfl,hT2⟩;have D:=D.took hT2;have hz:=D.res.lt;have RW:=D.name1 t2.t t2.p (by simp only [List.length_cons] at hT ⊢;omega);have D:=D.alloc (.cells #[.int .i64 (6),.string ⟨(t2.t).toArray⟩,.int .i64 (0),.int .i64 (t2.p),.slice none 0 0] 54)) | (go_at_call 63;refine (accept_f b m T _ t3 _ _ D.tk.ps (by assumption)).mono ?_;rintro e w3 ⟨rfl,hb3⟩;have D:=D.below hb3;have RW:=RW.past hb3) | (go_at_call 97;have YtkjbgggghigapaaGreat:=names_p N b m T _ _ _ _ _ _ RW;rw [he] at YtkjbgggghigapaaGreat;refine (YtkjbgggghigapaaGreat (by simp)).mono ?_;rintro e w4 ⟨a3,c3,rfl,hkl,hps,hk⟩;have D:=D.row4 hps hk hz;have hz4:=D.res.lt;have E:=Nw.begin D hkl (by simp only [List.length_cons] at hT ⊢;omega) 27 [] 0 t.p;obtain ⟨-,-,e2,-,e4⟩:=E.box.five;obtain ⟨-,-,e6,-,-⟩:=E.box.frozen5;obtain ⟨w6,hw6,E⟩:=E.num (ns.len : Nat)) | (go_at_call 96;refine (expect_f b m T _ t5 _ _ E.tk.ps (by assumption)).mono ?_;rintro e w7 ⟨he,hb7⟩;unfold refp at he;subst he))
          exact ⟨rfl,rfl,E.tk.ky.trans (.of_below hb7)⟩
  · rw [if_neg (show ¬ hc (t2 :: l2) = 51 from h51)] at hR
    subst hR
    go_enter Tryz.func101,Tryz.ntmps101
    go_wp2_with (first | (go_at_call 93;refine (take_p b m T _ t _ D.tk.ps h56).mono ?_;rintro e w1 ⟨rfl,hT1⟩;have D:=D.took hT1) | (go_at_call 95;refine (name_no b m T _ t2 _ D.tk.ps h51).mono ?_;rintro e w2 ⟨he,hb2⟩;unfold refp at he;subst he))
    exact ⟨rfl,rfl,D.tk.ky.trans (.of_below hb2)⟩
end Go.Proofs.YtkjbgggghigapaaGreat
