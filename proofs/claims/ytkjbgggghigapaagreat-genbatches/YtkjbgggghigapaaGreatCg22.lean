import Derived.Test.YtkjbgggghigapaaGreatCg21
namespace Go.Proofs.YtkjbgggghigapaaGreat
open Go.RowKit
theorem Nd.fill {b m:Nat} {T l:List Tok} {W:World} {X:Nat} {k:Int} {t:List UInt8} {n p:Int} {a a':Option Addr} {c c':Nat} {f f':F} {w:World} (h:Nd b m T l W X k t n p a c f w) (hkl:KL 54 (fun g=>X<g) w (.slice a' f'.len c') f') (hf:f'.len+l.length≤T.length):
 ∃wF,w.setCell ⟨X,4,none⟩ (.slice a' f'.len c')=wF∧Nd b m T l W X k t n p a' c' f' wF:=by
 have hlt:=h.lt
 exact ⟨_,rfl,h.tk.new (by omega) hlt.2.1 _,h.res.set (by omega) _,h.box.put4 _,hkl.set (Nat.lt_irrefl _) _,hf,h.lt⟩
theorem Nd.fillC {b m:Nat} {T l:List Tok} {W:World} {X:Nat} {k:Int} {t:List UInt8} {n p:Int} {a a':Option Addr} {c c' cnt:Nat} {f f':F} {w:World} (h:Nd b m T l W X k t n p a c f w) (hc:f'.len=cnt) (hkl:KL 54 (fun g=>X<g) w (.slice a' cnt c') f') (hf:cnt+l.length≤T.length):
 ∃wF,w.setCell ⟨X,4,none⟩ (.slice a' cnt c')=wF∧Nd b m T l W X k t n p a' c' f' wF:=by
 subst hc
 exact h.fill hkl hf
theorem PS.len {b m:Nat} {T l:List Tok} {W:World} (h:PS b m T l W):l.length≤T.length:=by
 obtain ⟨i,_,_,h7⟩:=h.plc
 omega
theorem body_len {N:Nat} {l l':List Tok} {f:F} (h:bodyP (pr N) l .ok= .ok f l'):f.len=1∧l'.length+2≤l.length:=by
 obtain ⟨b,l1,h1,h2,h3⟩:=sz_body (sz_all N) (fun _ _ _ _=>pr_len) h
 obtain ⟨rfl,rfl⟩:=ok_inj h3
 exact ⟨h1,h2⟩
set_option maxRecDepth 20000 in
set_option maxHeartbeats 8000000 in
theorem while_any (N:Nat) (H:CC N) (b m:Nat) (T l:List Tok) (t:Tok) (W:World) (h:PS b m T (t::l) W) (h56:cls t≠56) (hr:whileP (pr N) (t::l)≠ .out):Calls Tryz.prog 99 #[.pointer (some ⟨b,0,none⟩)] W (PN b m T W (whileP (pr N) (t::l))):=by
 have hlt:=h.lt
 have hbW:W.heap.size≠b:=by omega
 have hT:=h.len
 obtain ⟨R,hR⟩:∃R,whileP (pr N) (t::l)=R:=⟨_,rfl⟩
 rw[hR] at hr⊢
 unfold whileP at hR
 change (pr N (.ex 0) l).bind _=R at hR
 have CE:=fun W h=>H.ex 0 b m T l W h
 cases he:pr N (.ex 0) l with
 | out=>rw[he] at hR;exact absurd hR.symm hr
 | bad p2=>
   rw[he] at hR CE
   simp only[PR.bind] at hR
   subst hR
   go_enter Tryz.func99,Tryz.ntmps99
   go_wp2_with (first | (go_at_call 93;refine (take_p b m T l t _ (h.alloc _) h56).mono ?_;rintro e w1 ⟨rfl,hT1⟩;have D:=Nd.begin ((h.tk.alloc _).trans hT1) ((Bx.new W 54 _).ky hT1.ky hbW) (by omega) 25 [] 0 t.p) | (go_at_call 124;refine (CE _ D.tk.ps (by simp)).mono ?_;rintro e w3 ⟨he,hk⟩;unfold refp at he;subst he))
   exact ⟨rfl,rfl,D.tk.ky.trans hk⟩
 | ok g l2=>
   have hlen:=pr_len he
   rw[he] at hR CE
   simp only[PR.bind] at hR
   rw[bodyP_bind] at hR
   have CB:=fun W h=>body_any N H b m T l2 W h
   have hgl:g.len=1:=sz_all _ _ _ _ _ he
   simp only[st] at hlen
   cases hb:bodyP (pr N) l2 .ok with
   | out=>rw[hb] at hR;exact absurd hR.symm hr
   | bad p2=>
     rw[hb] at hR CB
     simp only[PR.bind] at hR
     subst hR
     go_enter Tryz.func99,Tryz.ntmps99
     go_wp2_with (first | (go_at_call 93;refine (take_p b m T l t _ (h.alloc _) h56).mono ?_;rintro e w1 ⟨rfl,hT1⟩;have D:=Nd.begin ((h.tk.alloc _).trans hT1) ((Bx.new W 54 _).ky hT1.ky hbW) (by omega) 25 [] 0 t.p;have hD:=D.box.lt) | (go_at_call 124;refine (CE _ D.tk.ps (by simp)).mono ?_;rintro e w3 ⟨k,tt,n,p,a1,c1,ks,rfl,rfl,hTN,hTk⟩;have D3:=(D.took hTk (by omega)).alloc (.cells #[.int .i64 (k),.string ⟨(tt).toArray⟩,.int .i64 (n),.int .i64 (p),.slice a1 ks.len c1] 54);have C3:=(hTN.mono (Q:=fun g=>w1.heap.size<g) (fun g hg _=>Nat.lt_of_lt_of_le hD hg)).alloc (.cells #[.int .i64 (k),.string ⟨(tt).toArray⟩,.int .i64 (n),.int .i64 (p),.slice a1 ks.len c1] 54);have Q3:=Bx.new w3 54 #[.int .i64 k,.string ⟨tt.toArray⟩,.int .i64 n,.int .i64 p,.slice a1 ks.len c1];have s3:w3.heap.size≠b:=(by have:=hTk.ps.lt;omega)))
     have D1:=D3.drew
     have Q1:=Q3.drew
     have hDl:=D1.lt
     obtain ⟨p0,p1,p2',p3,p4⟩:=Q1.five
     go_region_dies
     all_goals
      refine (CB _ D1.tk.ps (by simp)).mono ?_
      rintro e w5 ⟨he,hk⟩
      unfold refp at he
      subst he
      exact ⟨rfl,rfl,D1.tk.ky.trans hk⟩
   | ok g3 l3=>
     obtain ⟨hl3,hl3'⟩:=body_len hb
     rw[hb] at hR CB
     simp only[PR.bind] at hR
     subst hR
     go_enter Tryz.func99,Tryz.ntmps99
     go_wp2_with (first | (go_at_call 93;refine (take_p b m T l t _ (h.alloc _) h56).mono ?_;rintro e w1 ⟨rfl,hT1⟩;have D:=Nd.begin ((h.tk.alloc _).trans hT1) ((Bx.new W 54 _).ky hT1.ky hbW) (by omega) 25 [] 0 t.p;have hD:=D.box.lt) | (go_at_call 124;refine (CE _ D.tk.ps (by simp)).mono ?_;rintro e w3 ⟨k,tt,n,p,a1,c1,ks,rfl,rfl,hTN,hTk⟩;have D3:=(D.took hTk (by omega)).alloc (.cells #[.int .i64 (k),.string ⟨(tt).toArray⟩,.int .i64 (n),.int .i64 (p),.slice a1 ks.len c1] 54);have C3:=(hTN.mono (Q:=fun g=>w1.heap.size<g) (fun g hg _=>Nat.lt_of_lt_of_le hD hg)).alloc (.cells #[.int .i64 (k),.string ⟨(tt).toArray⟩,.int .i64 (n),.int .i64 (p),.slice a1 ks.len c1] 54);have Q3:=Bx.new w3 54 #[.int .i64 k,.string ⟨tt.toArray⟩,.int .i64 n,.int .i64 p,.slice a1 ks.len c1];have s3:w3.heap.size≠b:=(by have:=hTk.ps.lt;omega)))
     have D1:=D3.drew
     have Q1:=Q3.drew
     have hDl:=D1.lt
     obtain ⟨p0,p1,p2',p3,p4⟩:=Q1.five
     have C1:=C3.keep (w':=(w3.alloc (.cells #[.int .i64 (k),.string ⟨(tt).toArray⟩,.int .i64 (n),.int .i64 (p),.slice a1 ks.len c1] 54)).drew) fun _ _ _=>rfl
     have hX1:w1.heap.size<(w3.alloc (.cells #[.int .i64 (k),.string ⟨(tt).toArray⟩,.int .i64 (n),.int .i64 (p),.slice a1 ks.len c1] 54)).heap.size:=D1.box.lt
     go_region_with (go_at_call 98;refine (CB _ D1.tk.ps (by simp)).mono ?_;rintro e w5 ⟨k2,tt2,n2,p2,a2,c2,ks2,rfl,rfl,hTN2,hTk2⟩;have D5:=D1.took hTk2 (by omega);have K5:=Q1.ky hTk2.ky s3;have C5:=C1.ky hTk2.ky (by omega);obtain ⟨s0,s1,s2,s3',s4⟩:=K5.five;obtain ⟨-,-,-,-,v4⟩:=D5.box.fiveA;obtain ⟨-,-,-,-,g4⟩:=D5.box.frozen5A;have hx5:=D5.box.lt;have R5:=C5.row2 (Q:=fun g=>w1.heap.size<g) hTN2 (fun _ e _=>e) (fun g hg _=>Nat.lt_of_lt_of_le hX1 hg) hx5;obtain ⟨wF,hwF,DF⟩:=(D5.alloc _).fillC (f':=(one k tt n p ks).app (one k2 tt2 n2 p2 ks2)) (cnt:=2) rfl R5 (by simp only[List.length_cons] at hT;omega);obtain ⟨b0,b1,b2,b3,-⟩:=DF.box.five;have b4:wF.cell? ⟨w1.heap.size,4,none⟩=some (.slice (some ⟨w5.heap.size,0,none⟩) 2 2):=DF.box.c 4 _ rfl;obtain ⟨q0,q1,q2,q3,q4⟩:=DF.res.five;obtain ⟨f0,f1,f2,f3,f4⟩:=DF.res.frozen5)
     all_goals
      go_wp2
      refine bodyPost_ret (v:=(.agg #[.int .i64 (25),.string ⟨#[]⟩,.int .i64 (0),.int .i64 (t.p),.slice (some ⟨w5.heap.size,0,none⟩) 2 2])) (by simp[results,Tryz.results99,go_sem,q0,q1,q2,q3,q4]) rfl ?_
      exact DF.ret _ _ _ _ _
end Go.Proofs.YtkjbgggghigapaaGreat


namespace Go.Proofs.YtkjbgggghigapaaGreat
open Go.RowKit
def ifK (q : Nat) (p : Int) (f : F) (l : List Tok) : PR :=
  (if hc l = 6 then pr q (.ifs f) l.tail
    else if hc l = 5 then (pr q (.blk false) l.tail).bind fun b l=>need 4 l fun l=>.ok (f.app b) l
    else need 4 l fun l=>.ok f l).bind fun f l1=>.ok (one 24 [] 0 p f) l1
theorem bind_assoc (x : PR) (f g : F → List Tok → PR) : (x.bind f).bind g = x.bind fun a l=>(f a l).bind g:=by cases x <;> rfl
theorem ifs_bind (q : Nat) (p : Int) (a : F) (l : List Tok) : (pr (q + 1) (.ifs a) l).bind (fun f l1=>.ok (one 24 [] 0 p f) l1) = (brP (pr q) a l).bind (ifK q p):=by
  rw [pr_succ]
  simp only [stp']
  rw [bind_assoc]
  rfl
theorem Nd.grownN {b m : Nat} {T l l' : List Tok} {W : World} {X : Nat} {k : Int} {t : List UInt8} {n p : Int} {a a' : Option Addr} {c c' : Nat} {f f' : F} {w w' : World} (h : Nd b m T l W X k t n p a c f w) (ps : PS b m T l' w') (kl : KL 54 (fun g=>X < g) w' (.slice a' f'.len c') f') (few : f'.len + l'.length ≤ T.length) (hk : Ky (fun k=>k = b ∨ some k = Value.ownBlock (.slice a f.len c)) w w') :
    ∃ wF,w'.setCell ⟨X,4,none⟩ (.slice a' f'.len c') = wF ∧ Nd b m T l' W X k t n p a' c' f' wF ∧ Bx X 54 #[.int .i64 k,.string ⟨t.toArray⟩,.int .i64 n,.int .i64 p,.slice a f.len c] w':=by
  have hlt:=h.lt
  have hX:=h.box.lt
  have hs:=hk.size
  obtain ⟨h1,h2⟩:=h.grown (l':=l') ⟨ps,kl,fun x hx=>by omega,fun x hx=>by omega,few⟩ hk
  exact ⟨_,rfl,h1,h2⟩
theorem enters32 : ∀ args w,(callFunc 42 args).run Tryz.prog w = .ok (.enter 42 args) w:=enters_of Tryz.func42 (by kernel_rfl) rfl
set_option maxRecDepth 20000 in
set_option maxHeartbeats 16000000 in
theorem choice_any (N : Nat) (H : ∀ n,n ≤ N → CC n) (b m : Nat) (T l : List Tok) (t : Tok) (W : World) (h : PS b m T (t :: l) W) (h56 : cls t ≠ 56) (hr : ifP (pr N) (t :: l) ≠ .out) : Calls Tryz.prog 100 #[.pointer (some ⟨b,0,none⟩)] W (PN b m T W (ifP (pr N) (t :: l))):=by
  have hlt:=h.lt
  have hbW : W.heap.size ≠ b:=by omega
  obtain ⟨R,hR⟩ : ∃ R,ifP (pr N) (t :: l) = R:=⟨_,rfl⟩
  rw [hR] at hr ⊢
  unfold ifP at hR
  change (pr N (.ifs .nil) l).bind (fun f l1=>.ok (one 24 [] 0 t.p f) l1) = R at hR
  cases N with
  | zero=>exact absurd hR.symm hr
  | succ q =>
    rw [ifs_bind] at hR
    cases he : brP (pr q) .nil l with
    | out=>rw [he] at hR;exact absurd hR.symm hr
    | bad p2 =>
      rw [he] at hR
      simp only [PR.bind] at hR
      subst hR
      go_enter Tryz.func100,Tryz.ntmps100
      go_wp2_with (first | (go_at_call 93;refine (take_p b m T l t _ (h.alloc _) h56).mono ?_;rintro e w1 ⟨rfl,hT1⟩;have D:=Nd.begin ((h.tk.alloc _).trans hT1) ((Bx.new W 54 _).ky hT1.ky hbW) (by omega) 24 [] 0 t.p;obtain ⟨b0,b1,b2,b3,b4⟩:=D.box.five) | (go_at_call 125;have BR:=branch_any q (H q (by omega)) b m T l _ _ _ _ _ D.row;rw [he] at BR;refine (BR (by simp)).mono ?_;rintro e w3 ⟨he,hk⟩;unfold refp at he;subst he))
      exact ⟨rfl,rfl,D.tk.ky.onto hk fun i _ e=>e.elim id fun e=>by simp [Value.ownBlock] at e⟩
    | ok f l2 =>
      have hsz : f.len + l2.length ≤ l.length:=by
        have:=sz_br (sz_all q) (fun _ _ _ _=>pr_len) he
        simp only [F.len] at this
        omega
      rw [he] at hR
      simp only [PR.bind] at hR
      replace hR : Hid (ifK q t.p f l2 = R):=hR
      go_enter Tryz.func100,Tryz.ntmps100
      go_wp2_with (first | (go_at_call 93;refine (take_p b m T l t _ (h.alloc _) h56).mono ?_;rintro e w1 ⟨rfl,hT1⟩;have D:=Nd.begin ((h.tk.alloc _).trans hT1) ((Bx.new W 54 _).ky hT1.ky hbW) (by omega) 24 [] 0 t.p;obtain ⟨b0,b1,b2,b3,b4⟩:=D.box.five) | (go_at_call 125;have BR:=branch_any q (H q (by omega)) b m T l _ _ _ _ _ D.row;rw [he] at BR;refine (BR (by simp)).mono ?_;rintro e w3 ⟨a3,c3,rfl,hkl,hps,hk⟩;have hfe:=D.few;obtain ⟨w4,hw4,D4,B4⟩:=D.grownN hps hkl (by simp only [F.len] at hfe;omega) hk;obtain ⟨-,-,-,-,x4⟩:=B4.five;obtain ⟨-,-,-,-,y4⟩:=B4.frozen5))
      obtain ⟨X,hX⟩ : ∃ X,w1.heap.size = X:=⟨_,rfl⟩
      rw [hX] at D4 ⊢
      clear hX D B4 hk hkl hps
      go_loopg [] (q + 2) (fun gf wx=>∃ (q' : Nat) (a' : Option Addr) (c' : Nat) (f : F) (l' : List Tok),q' ≤ q ∧ Nd b m T l' W X 24 [] 0 t.p a' c' f wx ∧ Hid (ifK q' t.p f l' = R) ∧ q' < gf)
      case atStart=>exact ⟨q,a3,c3,f,l2,Nat.le_refl _,D4,hR,by omega⟩
      case round =>
        clear D4 hR
        obtain ⟨q',a1,c1,f,l',hq,D,hR,hfu⟩:=hrel
        obtain ⟨t3,l4,rfl⟩:=D.tk.ps.cons
        have hR:=hR.out
        unfold ifK at hR
        have hfew:=D.few
        simp only [List.length_cons] at hfew
        by_cases h6 : cls t3 = 6
        · have wt36 : rd t3 [101,108,115,101,105,102] = true:=cls_rd (c:=6) (by omega) (by decide) (by decide)
          rw [if_pos (show hc (t3 :: l4) = 6 from h6)] at hR
          cases q' with
          | zero=>exact absurd hR.symm hr
          | succ q1 =>
            rw [ifs_bind] at hR
            simp only [List.tail_cons] at hR
            cases he : brP (pr q1) f l4 with
            | out=>rw [he] at hR;exact absurd hR.symm hr
            | bad p2 =>
              rw [he] at hR
              simp only [PR.bind] at hR
              subst hR
              go_wp2_with (first | (go_at_call 63;refine (accept_t b m T l4 t3 _ _ D.tk.ps (by assumption)).mono ?_;rintro e w5 ⟨rfl,hT5⟩;have D:=D.took hT5 (by simp);obtain ⟨b0,b1,b2,b3,b4⟩:=D.box.five) | (go_at_call 125;have BR:=branch_any q1 (H q1 (by omega)) b m T l4 _ _ _ _ _ D.row;rw [he] at BR;refine (BR (by simp)).mono ?_;rintro e w6 ⟨he,hk⟩;unfold refp at he;subst he))
              obtain ⟨xs,hown,hoP,_⟩:=D.kl.out
              have hDl:=D.lt
              exact ⟨rfl,rfl,D.tk.ky.onto hk fun i hi e=>e.elim id fun e=>by have:=hoP i e.symm;omega⟩
            | ok f2 l5 =>
              have hsz : f2.len + l5.length ≤ f.len + l4.length:=by have:=sz_br (sz_all q1) (fun _ _ _ _=>pr_len) he;omega
              rw [he] at hR
              simp only [PR.bind] at hR
              replace hR : Hid (ifK q1 t.p f2 l5 = R):=hR
              go_wp2_with (first | (go_at_call 63;refine (accept_t b m T l4 t3 _ _ D.tk.ps (by assumption)).mono ?_;rintro e w5 ⟨rfl,hT5⟩;have D:=D.took hT5 (by simp);obtain ⟨b0,b1,b2,b3,b4⟩:=D.box.five) | (go_at_call 125;have BR:=branch_any q1 (H q1 (by omega)) b m T l4 _ _ _ _ _ D.row;rw [he] at BR;refine (BR (by simp)).mono ?_;rintro e w6 ⟨a3,c3,rfl,hkl,hps,hk⟩;obtain ⟨w7,hw7,D4,B4⟩:=D.grownN hps hkl (by omega) hk;obtain ⟨-,-,-,-,x4⟩:=B4.five;obtain ⟨-,-,-,-,y4⟩:=B4.frozen5))
              go_roundg (q1 + 1)
              case measure=>omega
              case rel=>exact ⟨q1,a3,c3,f2,l5,by omega,D4,hR,by omega⟩
        · have wt36 : rd t3 [101,108,115,101,105,102] = false:=cls_nrd (c:=6) (by omega) (by decide) (by decide)
          rw [if_neg (show ¬ hc (t3 :: l4) = 6 from h6)] at hR
          by_cases h5 : cls t3 = 5
          · have wt35 : rd t3 [101,108,115,101] = true:=cls_rd (c:=5) (by omega) (by decide) (by decide)
            rw [if_pos (show hc (t3 :: l4) = 5 from h5)] at hR
            have CB:=fun W h=>(H q' (by omega)).blk false b m T l4 W h
            change ((pr q' (.blk false) l4).bind _).bind _ = R at hR
            cases he : pr q' (.blk false) l4 with
            | out=>rw [he] at hR;exact absurd hR.symm hr
            | bad p2 =>
              rw [he] at hR CB
              simp only [PR.bind] at hR
              subst hR
              go_wp2_with (first | (go_at_call 63;refine (accept_f b m T l4 t3 _ _ D.tk.ps (by assumption)).mono ?_;rintro e w5 ⟨rfl,hb5⟩;have D:=D.below hb5) | (go_at_call 63;refine (accept_t b m T l4 t3 _ _ D.tk.ps (by assumption)).mono ?_;rintro e w5 ⟨rfl,hT5⟩;have D:=D.took hT5 (by simp);obtain ⟨b0,b1,b2,b3,b4⟩:=D.box.five))
              have D1:=D.drew
              go_region_dies
              all_goals
                refine (CB _ D1.tk.ps (by simp)).mono ?_
                rintro e w6 ⟨he,hk⟩
                unfold refp at he
                subst he
                exact ⟨rfl,rfl,D1.tk.ky.trans hk⟩
            | ok g l5 =>
              have hlen:=pr_len he
              obtain ⟨t6,l7,rfl⟩:=(pr_ends he (D.tk.ps.ends.tail (by omega))).cons
              rw [he] at hR CB
              simp only [PR.bind,need] at hR
              simp only [st,List.length_cons] at hlen
              by_cases h4 : cls t6 = 4
              · have wt64 : rd t6 [101,110,100] = true:=cls_rd (c:=4) (by omega) (by decide) (by decide)
                rw [if_pos (show hc (t6 :: l7) = 4 from h4)] at hR
                subst hR
                go_wp2_with (first | (go_at_call 63;refine (accept_f b m T l4 t3 _ _ D.tk.ps (by assumption)).mono ?_;rintro e w5 ⟨rfl,hb5⟩;have D:=D.below hb5) | (go_at_call 63;refine (accept_t b m T l4 t3 _ _ D.tk.ps (by assumption)).mono ?_;rintro e w5 ⟨rfl,hT5⟩;have D:=D.took hT5 (by simp);obtain ⟨b0,b1,b2,b3,b4⟩:=D.box.five))
                have D1:=D.drew
                go_region_law (first | (refine step_goE (by rfl) 42 _ _ (by rfl) _ (by simp [Act.eval,Act.put]) enters32 (CB _ D1.tk.ps (by simp)) ?_;rintro e w6 ⟨k,tt,n,p,a1,c1,ks,rfl,rfl,hTN,hTk⟩;refine ⟨_,rfl,?_⟩;obtain ⟨-,-,-,-,q4⟩:=(D1.took hTk (by simp only [List.length_cons];omega)).box.five;obtain ⟨-,-,-,-,q5⟩:=(D1.took hTk (by simp only [List.length_cons];omega)).box.fiveA) | (refine step_row2 (by rfl) _ _ (by rfl) D1.row hTN hTk (by simp only [List.length_cons];omega) (by rfl) (by rfl) ?_;intro gg cc w7 hrow hky;obtain ⟨D4,B4⟩:=D1.grown hrow hky;obtain ⟨-,-,-,-,r4⟩:=B4.five;obtain ⟨-,-,-,-,g4⟩:=B4.frozen5))
                all_goals
                  go_wp2_with (go_at_call 96;refine (expect_t b m T l7 t6 _ _ D4.tk.ps (by assumption)).mono ?_;rintro e w8 ⟨rfl,hT8⟩;have D8:=D4.took hT8 (by simp);obtain ⟨q0,q1,q2,q3,q4⟩:=D8.res.five;obtain ⟨f0,f1,f2,f3,f4⟩:=D8.res.frozen5;obtain ⟨z0,z1,z2,z3,z4⟩:=D8.box.five)
                  refine bodyPost_ret (v:=.agg #[.int .i64 24,.string ⟨#[]⟩,.int .i64 0,.int .i64 t.p,.slice (some ⟨gg,0,none⟩) (f.app (one k tt n p ks)).len cc]) (by simp [results,Tryz.results100,go_sem,q0,q1,q2,q3,q4]) rfl ?_
                  exact D8.ret _ _ _ _ _
              · have wt64 : rd t6 [101,110,100] = false:=cls_nrd (c:=4) (by omega) (by decide) (by decide)
                rw [if_neg (show ¬ hc (t6 :: l7) = 4 from h4)] at hR
                subst hR
                go_wp2_with (first | (go_at_call 63;refine (accept_f b m T l4 t3 _ _ D.tk.ps (by assumption)).mono ?_;rintro e w5 ⟨rfl,hb5⟩;have D:=D.below hb5) | (go_at_call 63;refine (accept_t b m T l4 t3 _ _ D.tk.ps (by assumption)).mono ?_;rintro e w5 ⟨rfl,hT5⟩;have D:=D.took hT5 (by simp);obtain ⟨b0,b1,b2,b3,b4⟩:=D.box.five))
                have D1:=D.drew
                go_region_law (first | (refine step_goE (by rfl) 42 _ _ (by rfl) _ (by simp [Act.eval,Act.put]) enters32 (CB _ D1.tk.ps (by simp)) ?_;rintro e w6 ⟨k,tt,n,p,a1,c1,ks,rfl,rfl,hTN,hTk⟩;refine ⟨_,rfl,?_⟩;obtain ⟨-,-,-,-,q4⟩:=(D1.took hTk (by simp only [List.length_cons];omega)).box.five;obtain ⟨-,-,-,-,q5⟩:=(D1.took hTk (by simp only [List.length_cons];omega)).box.fiveA) | (refine step_row2 (by rfl) _ _ (by rfl) D1.row hTN hTk (by simp only [List.length_cons];omega) (by rfl) (by rfl) ?_;intro gg cc w7 hrow hky;obtain ⟨D4,B4⟩:=D1.grown hrow hky;obtain ⟨-,-,-,-,r4⟩:=B4.five;obtain ⟨-,-,-,-,g4⟩:=B4.frozen5))
                all_goals
                  go_wp2_with (go_at_call 96;refine (expect_f b m T l7 t6 _ _ D4.tk.ps (by assumption)).mono ?_;rintro e w8 ⟨he,hb8⟩;unfold refp at he;subst he)
                  exact ⟨rfl,rfl,D4.tk.ky.trans (.of_below hb8)⟩
          · have wt35 : rd t3 [101,108,115,101] = false:=cls_nrd (c:=5) (by omega) (by decide) (by decide)
            rw [if_neg (show ¬ hc (t3 :: l4) = 5 from h5)] at hR
            simp only [need] at hR
            by_cases h4 : cls t3 = 4
            · have wt34 : rd t3 [101,110,100] = true:=cls_rd (c:=4) (by omega) (by decide) (by decide)
              rw [if_pos (show hc (t3 :: l4) = 4 from h4)] at hR
              subst hR
              go_wp2_with (first | (go_at_call 63;refine (accept_f b m T l4 t3 _ _ D.tk.ps (by assumption)).mono ?_;rintro e w5 ⟨rfl,hb5⟩;have D:=D.below hb5) | (go_at_call 96;refine (expect_t b m T l4 t3 _ _ D.tk.ps (by assumption)).mono ?_;rintro e w8 ⟨rfl,hT8⟩;have D:=D.took hT8 (by simp);obtain ⟨q0,q1,q2,q3,q4⟩:=D.res.five;obtain ⟨f0,f1,f2,f3,f4⟩:=D.res.frozen5;obtain ⟨z0,z1,z2,z3,z4⟩:=D.box.five))
              refine bodyPost_ret (v:=(.agg #[.int .i64 (24),.string ⟨#[]⟩,.int .i64 (0),.int .i64 (t.p),.slice a1 f.len c1])) (by simp [results,Tryz.results100,go_sem,q0,q1,q2,q3,q4]) rfl ?_
              exact D.ret _ _ _ _ _
            · have wt34 : rd t3 [101,110,100] = false:=cls_nrd (c:=4) (by omega) (by decide) (by decide)
              rw [if_neg (show ¬ hc (t3 :: l4) = 4 from h4)] at hR
              subst hR
              go_wp2_with (first | (go_at_call 63;refine (accept_f b m T l4 t3 _ _ D.tk.ps (by assumption)).mono ?_;rintro e w5 ⟨rfl,hb5⟩;have D:=D.below hb5) | (go_at_call 96;refine (expect_f b m T l4 t3 _ _ D.tk.ps (by assumption)).mono ?_;rintro e w8 ⟨he,hb8⟩;unfold refp at he;subst he))
              exact ⟨rfl,rfl,D.tk.ky.trans (.of_below hb8)⟩
end Go.Proofs.YtkjbgggghigapaaGreat
