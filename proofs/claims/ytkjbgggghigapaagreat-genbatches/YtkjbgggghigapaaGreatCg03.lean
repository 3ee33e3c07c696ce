import Derived.Test.YtkjbgggghigapaaGreatCg02
namespace Go.Proofs.YtkjbgggghigapaaGreat
open Go.RowKit
set_option maxRecDepth 20000 in
set_option maxHeartbeats 4000000 in
theorem names_p (N:Nat) (b m:Nat) (T l:List Tok) (W:World) (P:Nat→Prop) (a:Option Addr) (c:Nat) (f:F) (h:Row b m T l W P a c f) (hr:pr N (.nms f) l≠ .out):Calls Tryz.prog 97 #[.pointer (some ⟨b,0,none⟩),.slice a f.len c] W (PL b m T W P (.slice a f.len c) (pr N (.nms f) l)):=by
 obtain ⟨R,hR⟩:∃R,pr N (.nms f) l=R:=⟨_,rfl⟩
 rw[hR] at hr⊢
 have hR:Hid (pr N (.nms f) l=R):=hR
 go_enter Tryz.func97,Tryz.ntmps97
 go_wp2_with fail
 go_loopg [1] (N+2) (fun gf v1 wx=>∃(q:Nat) (f':F) (l':List Tok) (a':Option Addr) (c':Nat),q≤N∧v1= .slice a' f'.len c'∧Row b m T l' wx P a' c' f'∧Ky (fun k=>k=b∨some k=Value.ownBlock (.slice a f.len c)) W wx∧OB W (.slice a f.len c) a'∧Hid (pr q (.nms f') l'=R)∧q<gf)
 case atStart=>exact ⟨N,f,l,a,c,Nat.le_refl _,rfl,h,Ky.refl _ _,OB.refl _ _ _ _,hR,by omega⟩
 case round=>
  clear h hR
  obtain ⟨q,f',l',a',c',hq,rfl,hrow,hky,hOB,hR,hfu⟩:=hrel
  obtain ⟨t1,l2,rfl⟩:=hrow.ps.cons
  cases q with
  | zero=>exact absurd hR.out.symm hr
  | succ q=>
    have hR:=hR.out
    rw[pr_succ] at hR
    simp only[stp',nam] at hR
    by_cases h15:cls t1=15
    ·have wt115:rd t1 [44]=true:=cls_rd (c:=15) (by omega) (by decide) (by decide)
     rw[if_pos (show hc (t1::l2)=15 from h15)] at hR
     obtain ⟨t2,l3,rfl⟩:∃t2 l3,l2=t2::l3:=by
      have:=hrow.ps.ends.tail (by omega)
      cases l2 with
      | nil=>exact absurd rfl this.ne
      | cons t l=>exact ⟨t,l,rfl⟩
     by_cases h51:cls t2=51
     ·rw[if_pos (show hc (List.tail (t1::t2::l3))=51 from h51)] at hR
      have hR:Hid (pr q (.nms (f'.app (one 6 t2.t 0 t2.p .nil))) l3=R):=hR
      go_wp2_with (first | (go_at_call 63;refine (accept_t b m T (t2::l3) t1 _ _ hrow.ps (by assumption)).mono ?_;rintro e w3 ⟨rfl,hT⟩;have hrow:=hrow.took hT) | (go_at_call 95;refine (name_yes b m T l3 t2 _ hT.ps h51).mono ?_;rintro e w1 ⟨rfl,hTk⟩) | (at_builtin;refine app_row (ks:=.nil) rfl _ _ rfl hrow (TN.leaf _ _ _ _ _ _ _) hTk (by simp) rfl rfl ?_;intro gg cc w2 hrow2 hky2 hat2))
      have hKw:=hky.onto (hT.ky) (fun _ _ e=>.inl e)
      go_roundg (q+1)
      case measure=>omega
      case rel=>exact ⟨q,_,l3,_,_,by omega,rfl,hrow2,hOB.ky hKw hky2,hOB.app hKw.size hat2,hR,by omega⟩
     ·rw[if_neg (show ¬hc (List.tail (t1::t2::l3))=51 from h51)] at hR
      subst hR
      go_wp2_with (first | (go_at_call 63;refine (accept_t b m T (t2::l3) t1 _ _ hrow.ps (by assumption)).mono ?_;rintro e w3 ⟨rfl,hT⟩) | (go_at_call 95;refine (name_no b m T l3 t2 _ hT.ps h51).mono ?_;rintro e w1 ⟨he,hb⟩;unfold refp at he;subst he))
      exact ⟨rfl,rfl,hky.onto (hT.ky.trans (.of_below hb)) fun _ _ e=>.inl e⟩
    ·have wt115:rd t1 [44]=false:=cls_nrd (c:=15) (by omega) (by decide) (by decide)
     rw[if_neg (show ¬hc (t1::l2)=15 from h15)] at hR
     subst hR
     go_wp2_with (go_at_call 63;refine (accept_f b m T l2 t1 _ _ hrow.ps (by assumption)).mono ?_;rintro e w3 ⟨rfl,hb⟩)
     go_ret
     exact ⟨a',c',rfl,hrow.kl.keep fun g hg hl=>hb.block g hl,hrow.ps.below hb,hky.onto (Ky.of_below hb (S:=fun _=>False)) fun _ _ e=>e.elim⟩
end Go.Proofs.YtkjbgggghigapaaGreat


namespace Go.Proofs.YtkjbgggghigapaaGreat
def EN:PR→Prop
 | .ok _ l=>Ends l
 | _=>True
theorem EN.bind {x:PR} {k:F→List Tok→PR} (h:EN x) (hk:∀f l,Ends l→EN (k f l)):EN (x.bind k):=by
 cases x with
 | ok f l=>exact hk f l h
 | bad p=>exact trivial
 | out=>exact trivial
theorem Ends.tl {l:List Tok} (h:Ends l) (hn:hc l≠56):Ends l.tail:=by
 cases l with
 | nil=>exact absurd rfl h.ne
 | cons t l=>exact h.tail hn
theorem EN.need {c:Nat} {l:List Tok} {k:List Tok→PR} (hl:Ends l) (hc':c≠56) (h:Ends l.tail→EN (k l.tail)):EN (need c l k):=by
 unfold Go.Proofs.YtkjbgggghigapaaGreat.need
 split
 ·next e=>exact h (hl.tl (by rw[e];exact hc'))
 ·exact trivial
theorem EN.nam {q:Int} {l:List Tok} {k:F→List Tok→PR} (hl:Ends l) (h:∀f,Ends l.tail→EN (k f l.tail)):EN (nam q l k):=by
 unfold Go.Proofs.YtkjbgggghigapaaGreat.nam
 split
 ·next e=>exact h _ (hl.tl (by rw[e];decide))
 ·exact trivial
section
variable {rec:J→List Tok→PR} (ih:∀j l,Ends l→EN (rec j l))
include ih
theorem en_body {l:List Tok} {k:F→List Tok→PR} (hl:Ends l) (h:∀f l1,Ends l1→EN (k f l1)):EN (bodyP rec l k):=
 .need hl (by decide) fun h1=>.bind (ih _ _ h1) fun f _ h2=>.need h2 (by decide) fun h3=>h f _ h3
theorem en_last {l:List Tok} (h1:Ends l.tail):EN (lastP rec l):=by
 unfold lastP
 split
 ·next e=>exact h1.tl (by rw[e];decide)
 ·split
  ·exact h1
  ·refine .bind (ih _ _ h1) fun f m h2=>?_
   show Ends _
   split
   ·next e=>exact h2.tl (by rw[e];decide)
   ·exact h2
theorem en_fun {l:List Tok} (h1:Ends l.tail):EN (funP rec l):=by
 unfold funP parP
 refine .nam h1 fun m h2=>.need h2 (by decide) fun h3=>.bind ?_ fun ps l1 h4=>.need h4 (by decide) fun h5=>.bind (ih _ _ h5) fun b l2 h6=>.need h6 (by decide) fun h7=>h7
 split
 ·exact h3
 ·exact .nam h3 fun f h4=>ih _ _ h4
theorem en_num {at':Int} {a:F} {l:List Tok} (hl:Ends l):EN (numP rec at' a l):=by
 unfold numP
 refine .bind (ih _ _ hl) fun e1 l1 h1=>.need h1 (by decide) fun h2=>.bind (ih _ _ h2) fun e2 l2 h3=>?_
 split
 ·next e=>exact .bind (ih _ _ (h3.tl (by rw[e];decide))) fun e3 l3 h4=>en_body ih h4 fun _ _ h5=>h5
 ·exact en_body ih h3 fun _ _ h5=>h5
theorem en_for {l:List Tok} (hl:Ends l.tail):EN (forP rec l):=by
 unfold forP
 refine .nam hl fun m h1=>?_
 split
 ·next e=>exact en_num ih (h1.tl (by rw[e];decide))
 ·exact .bind (ih _ _ h1) fun ns l1 h2=>.need h2 (by decide) fun h3=>.bind (ih _ _ h3) fun f l2 h4=>en_body ih h4 fun _ _ h5=>h5
theorem en_loc {l:List Tok} (hl:Ends l.tail):EN (locP rec l):=by
 unfold locP
 refine .nam hl fun m h1=>.bind (ih _ _ h1) fun ns l1 h2=>?_
 split
 ·next e=>exact .bind (ih _ _ (h2.tl (by rw[e];decide))) fun _ _ h3=>h3
 ·exact h2
theorem en_asg {l:List Tok} (hl:Ends l):EN (asgP rec l):=by
 unfold asgP tgt
 refine .bind (ih _ _ hl) fun f l1 h1=>?_
 split
 ·split
  ·exact .bind (ih _ _ h1) fun ts l2 h2=>.need h2 (by decide) fun h3=>.bind (ih _ _ h3) fun _ _ h4=>h4
  ·exact trivial
 ·split
  ·exact h1
  ·exact trivial
theorem en_arg {a:F} {l:List Tok} (hl:Ends l):EN (argP rec a l):=by
 unfold argP
 split
 ·next e=>exact hl.tl (by rw[e];decide)
 ·exact .bind (ih _ _ hl) fun f l1 h1=>.need h1 (by decide) fun h2=>h2
theorem en_stem {l:List Tok} (hl:Ends l):EN (stemP rec l):=by
 unfold stemP
 split
 ·next e=>exact .bind (ih _ _ (hl.tl (by rw[e];decide))) fun f l1 h1=>.need h1 (by decide) fun h2=>h2
 ·exact .nam hl fun f h=>h
theorem en_br {a:F} {l:List Tok} (hl:Ends l):EN (brP rec a l):=by
 unfold brP
 exact .bind (ih _ _ hl) fun e l1 h1=>.need h1 (by decide) fun h2=>.bind (ih _ _ h2) fun b l2 h3=>h3
theorem en_step (j:J) (l:List Tok) (hl:Ends l):EN (stp' rec j l):=by
 have tl:∀c,hc l=c→c≠56→Ends l.tail:=fun c h h2=>hl.tl (by rw[h];exact h2)
 cases j with
 | blk c=>exact .bind (ih _ _ hl) fun _ _ h=>h
 | bk c a=>
   simp only[stp']
   split
   ·next h=>exact ih _ _ (tl _ h (by decide))
   ·split
    ·next h=>exact .bind (en_last ih (tl _ h (by decide))) fun _ _ h=>h
    ·split
     ·next h=>exact .bind (en_fun ih (tl _ h.2 (by decide))) fun _ _ h=>ih _ _ h
     ·split
      ·exact hl
      ·exact .bind (ih _ _ hl) fun _ _ h=>ih _ _ h
 | stat=>
   simp only[stp']
   split
   ·exact en_body ih hl fun _ _ h=>h
   ·split
    ·next h=>exact .bind (ih _ _ (tl _ h (by decide))) fun _ _ h=>en_body ih h fun _ _ h=>h
    ·split
     ·next h=>exact .bind (ih _ _ (tl _ h (by decide))) fun _ _ h=>h
     ·split
      ·next h=>exact en_for ih (tl _ h (by decide))
      ·split
       ·next h=>exact en_loc ih (tl _ h (by decide))
       ·split
        ·next h=>exact tl _ h (by decide)
        ·exact en_asg ih hl
 | lst a=>
   simp only[stp']
   refine .bind (ih _ _ hl) fun f l1 h1=>?_
   split
   ·next e=>exact ih _ _ (h1.tl (by rw[e];decide))
   ·exact h1
 | nms a=>
   simp only[stp']
   split
   ·next h=>exact .nam (tl _ h (by decide)) fun f h=>ih _ _ h
   ·exact hl
 | ifs a=>
   simp only[stp']
   refine .bind (en_br ih hl) fun f l1 h1=>?_
   split
   ·next e=>exact ih _ _ (h1.tl (by rw[e];decide))
   ·split
    ·next e=>exact .bind (ih _ _ (h1.tl (by rw[e];decide))) fun _ _ h=>.need h (by decide) fun h=>h
    ·exact .need h1 (by decide) fun h=>h
 | asg a=>
   simp only[stp',tgt]
   split
   ·next h=>
    refine .bind (ih _ _ (tl _ h (by decide))) fun f l1 h1=>?_
    split
    ·exact ih _ _ h1
    ·exact trivial
   ·exact hl
 | ex a=>exact .bind (ih _ _ hl) fun _ _ h=>ih _ _ h
 | exl a f=>
   simp only[stp']
   split
   ·next h=>exact .bind (ih _ _ (hl.tl (by intro e;rw[e] at h;exact absurd h (by simp[bnd])))) fun _ _ h=>ih _ _ h
   ·exact hl
 | opd=>
   simp only[stp',tabP]
   split
   ·exact ih _ _ hl
   ·split
    ·next h=>exact .bind (ih _ _ (tl _ h (by decide))) fun _ _ h=>.need h (by decide) fun h=>h
    ·split
     ·next h=>exact .bind (ih _ _ (by rcases h with h | h | h<;>exact tl _ h (by decide))) fun _ _ h=>h
     ·split
      ·next h=>exact tl _ h (by decide)
      ·split
       ·next h=>exact tl _ h (by decide)
       ·split
        ·next h=>exact tl _ h (by decide)
        ·split
         ·next h=>exact tl _ h (by decide)
         ·split
          ·next h=>exact tl _ h (by decide)
          ·exact trivial
 | suf=>exact .bind (en_stem ih hl) fun _ _ h=>ih _ _ h
 | sufl f=>
   simp only[stp']
   split
   ·next h=>exact .bind (ih _ _ (tl _ h (by decide))) fun _ _ h=>.need h (by decide) fun h=>ih _ _ h
   ·split
    ·next h=>exact .nam (tl _ h (by decide)) fun _ h=>ih _ _ h
    ·split
     ·next h=>exact .bind (en_arg ih (tl _ h (by decide))) fun _ _ h=>ih _ _ h
     ·exact hl
 | tab a=>
   simp only[stp']
   split
   ·exact hl
   ·refine .bind (ih _ _ hl) fun f l1 h1=>?_
    split
    ·next e=>exact ih _ _ (h1.tl (by rcases e with e | e<;>rw[e]<;>decide))
    ·exact h1
 | fld=>
   simp only[stp']
   split
   ·next h=>exact .bind (ih _ _ (tl _ h (by decide))) fun _ _ h=>.need h (by decide) fun h=>.need h (by decide) fun h=>.bind (ih _ _ h) fun _ _ h=>h
   ·split
    ·next h=>exact .bind (ih _ _ ((tl _ h.1 (by decide)).tl (by rw[h.2];decide))) fun _ _ h=>h
    ·exact .bind (ih _ _ hl) fun _ _ h=>h
end
theorem en_all:∀(n:Nat) (j:J) (l:List Tok),Ends l→EN (pr n j l)
 | 0,_,_,_=>trivial
 | n+1,j,l,h=>en_step (en_all n) j l h
theorem pr_ends {n:Nat} {j:J} {l l':List Tok} {f:F} (h:pr n j l= .ok f l') (hl:Ends l):Ends l':=by
 have:=en_all n j l hl
 rw[h] at this
 exact this
theorem Ends.cons {l:List Tok} (h:Ends l):∃t l',l=t::l':=by
 cases l with
 | nil=>exact absurd rfl h.ne
 | cons t l=>exact ⟨t,l,rfl⟩
end Go.Proofs.YtkjbgggghigapaaGreat


namespace Go.Proofs.YtkjbgggghigapaaGreat
open Go.RowKit
theorem TN.set {E:TypeId} {w:World} {P:Nat→Prop} {k:Int} {t:List UInt8} {n p:Int} {v:Value} {ks:F} {X o:Nat} (h:TN E w P k t n p v ks) (hX:¬P X) (u:Value):TN E (w.setCell ⟨X,o,none⟩ u) P k t n p v ks:=
 h.keep fun g hg _=>Below.heap_setCell w _ u g fun e=>hX ((show g=X from e)▸hg)
theorem TN.alloc {E:TypeId} {w:World} {P:Nat→Prop} {k:Int} {t:List UInt8} {n p:Int} {v:Value} {ks:F} (h:TN E w P k t n p v ks) (o:Obj):TN E (w.alloc o) P k t n p v ks:=
 h.keep fun g _ hl=>(World.grownBy_alloc w o none).block g hl (by simp)
theorem TN.below {E:TypeId} {w w':World} {P:Nat→Prop} {k:Int} {t:List UInt8} {n p:Int} {v:Value} {ks:F} (h:TN E w P k t n p v ks) (hb:Below w.heap.size w w'):TN E w' P k t n p v ks:=
 h.keep fun g _ hl=>hb.block g hl
theorem TN.ky {E:TypeId} {w w':World} {P S:Nat→Prop} {k:Int} {t:List UInt8} {n p:Int} {v:Value} {ks:F} (h:TN E w P k t n p v ks) (hb:Ky S w w') (hS:∀g,P g→¬S g):TN E w' P k t n p v ks:=
 h.keep fun g hg hl=>hb.block g hl (hS g hg)
theorem KL.set {E:TypeId} {P:Nat→Prop} {w:World} {v:Value} {f:F} {X o:Nat} (h:KL E P w v f) (hX:¬P X) (u:Value):KL E P (w.setCell ⟨X,o,none⟩ u) v f:=
 h.keep fun g hg _=>Below.heap_setCell w _ u g fun e=>hX ((show g=X from e)▸hg)
theorem KL.alloc {E:TypeId} {P:Nat→Prop} {w:World} {v:Value} {f:F} (h:KL E P w v f) (o:Obj):KL E P (w.alloc o) v f:=h.keep fun g _ hl=>(World.grownBy_alloc w o none).block g hl (by simp)
theorem KL.ky {E:TypeId} {P:Nat→Prop} {w w':World} {S:Nat→Prop} {v:Value} {f:F} (h:KL E P w v f) (hb:Ky S w w') (hS:∀g,P g→¬S g):KL E P w' v f:=h.keep fun g hg hl=>hb.block g hl (hS g hg)
theorem KL.below {E:TypeId} {P:Nat→Prop} {w w':World} {v:Value} {f:F} (h:KL E P w v f) (hb:Below w.heap.size w w'):KL E P w' v f:=h.keep fun g _ hl=>hb.block g hl
theorem Bx.put {X j:Nat} {e:TypeId} {cur:Array Value} {w:World} (h:Bx X e cur w) (u:Value):Bx X e (cur.setIfInBounds j u) (w.setCell ⟨X,j,none⟩ u):=⟨heap_setCell_same w X j cur e u h.blk⟩
theorem Bx.put4 {X:Nat} {e:TypeId} {a b c d f:Value} {w:World} (h:Bx X e #[a,b,c,d,f] w) (u:Value):Bx X e #[a,b,c,d,u] (w.setCell ⟨X,4,none⟩ u):=h.put (j:=4) u
theorem Bx.put2 {X:Nat} {e:TypeId} {a b c d f:Value} {w:World} (h:Bx X e #[a,b,c,d,f] w) (u:Value):Bx X e #[a,b,u,d,f] (w.setCell ⟨X,2,none⟩ u):=h.put (j:=2) u
theorem Row.past {b m:Nat} {T l:List Tok} {W w:World} {P:Nat→Prop} {a:Option Addr} {c:Nat} {f:F} (h:Row b m T l W P a c f) (hb:Below W.heap.size W w):Row b m T l w P a c f:=
 ⟨h.ps.below hb,h.kl.below hb,h.lo,fun x hx=>h.hi x (Nat.le_trans hb.size hx),h.few⟩
theorem TN.row1 {E:TypeId} {w:World} {P Q:Nat→Prop} {k:Int} {t:List UInt8} {n p:Int} {v:Value} {ks:F} (h:TN E w P k t n p v ks) (hP:∀g,P g→g<w.heap.size→Q g) (hB:Q w.heap.size):KL E Q (w.alloc (.cells #[.int .i64 k,.string ⟨t.toArray⟩,.int .i64 n,.int .i64 p,v] E)) (.slice (some ⟨w.heap.size,0,none⟩) 1 1) (one k t n p ks):=
 KL.made (cur:=#[.int .i64 k,.string ⟨t.toArray⟩,.int .i64 n,.int .i64 p,v]) (h.kf.mono hP) hB rfl (by unfold maxLen;omega)
theorem TN.row2 {E:TypeId} {w:World} {P P' Q:Nat→Prop} {k k':Int} {t t':List UInt8} {n p n' p':Int} {v v':Value} {ks ks':F} (h:TN E w P k t n p v ks) (h':TN E w P' k' t' n' p' v' ks') (hP:∀g,P g→g<w.heap.size→Q g) (hP':∀g,P' g→g<w.heap.size→Q g) (hB:Q w.heap.size):
 KL E Q (w.alloc (.cells #[.int .i64 k,.string ⟨t.toArray⟩,.int .i64 n,.int .i64 p,v,.int .i64 k',.string ⟨t'.toArray⟩,.int .i64 n',.int .i64 p',v'] E)) (.slice (some ⟨w.heap.size,0,none⟩) 2 2) ((one k t n p ks).app (one k' t' n' p' ks')):=
 KL.made (cur:=#[.int .i64 k,.string ⟨t.toArray⟩,.int .i64 n,.int .i64 p,v,.int .i64 k',.string ⟨t'.toArray⟩,.int .i64 n',.int .i64 p',v']) ((h.kf.mono hP).app (h'.kf.mono hP')) hB rfl (by unfold maxLen;omega)
theorem PN.five {b m:Nat} {T l:List Tok} {W w:World} {P:Nat→Prop} {k:Int} {t:List UInt8} {n p:Int} {a:Option Addr} {c:Nat} {ks:F} {u0 u1 u2 u3 u4:Value} (ht:TN 54 w P k t n p (.slice a ks.len c) ks) (hT:Tk b m T l W w) (hP:∀g,P g→W.heap.size<g) (hm:m≤W.heap.size):
 PN b m T W (.ok (one k t n p ks) l) (.returned (.agg #[.int .i64 (k),.string ⟨(t).toArray⟩,.int .i64 (n),.int .i64 (p),.slice a ks.len c])) (((((w.setCell ⟨W.heap.size,0,none⟩ u0).setCell ⟨W.heap.size,1,none⟩ u1).setCell ⟨W.heap.size,2,none⟩ u2).setCell ⟨W.heap.size,3,none⟩ u3).setCell ⟨W.heap.size,4,none⟩ u4):=by
 have hX:¬P W.heap.size:=fun e=>Nat.lt_irrefl _ (hP _ e)
 exact ⟨k,t,n,p,a,c,ks,rfl,rfl,(((((ht.set hX u0).set hX u1).set hX u2).set hX u3).set hX u4).mono fun g hg _=>Nat.le_of_lt (hP g hg),hT.five (Nat.le_refl _) hm _ _ _ _ _⟩
theorem tail_cons {t:Tok} {l:List Tok} (h:Ends (t::l)) (hc:cls t≠56):∃t2 l2,l=t2::l2:=by
 have:=h.tail hc
 cases l with
 | nil=>exact absurd rfl this.ne
 | cons t l=>exact ⟨t,l,rfl⟩
set_option maxRecDepth 20000 in
set_option maxHeartbeats 4000000 in
theorem stem_any (N:Nat) (H:CC N) (b m:Nat) (T l:List Tok) (W:World) (h:PS b m T l W) (hr:stemP (pr N) l≠ .out):Calls Tryz.prog 142 #[.pointer (some ⟨b,0,none⟩)] W (PN b m T W (stemP (pr N) l)):=by
 obtain ⟨t,l1,rfl⟩:=h.cons
 have hlt:=h.lt
 have hbW:W.heap.size≠b:=by omega
 unfold stemP at hr⊢
 by_cases h17:cls t=17
 ·rw[if_pos (show hc (t::l1)=17 from h17)] at hr⊢
  have wt17:rd t [40]=true:=cls_rd (c:=17) (by omega) (by decide) (by decide)
  have h56:cls t≠56:=by omega
  have CE:=fun W h=>H.ex 0 b m T l1 W h
  change ((pr N (.ex 0) l1).bind _)≠_ at hr
  change Calls _ _ _ _ (PN b m T W ((pr N (.ex 0) l1).bind _))
  cases he:pr N (.ex 0) l1 with
  | out=>rw[he] at hr;exact absurd rfl hr
  | bad p=>
    rw[he] at CE
    go_enter Tryz.func142,Tryz.ntmps142
    go_wp2_with (first | (go_at_call 64;refine (is_v b m T l1 t _ _ (h.alloc _) (by assumption)).mono ?_;rintro e w1 ⟨rfl,hb1⟩;have T1:=(h.tk.alloc _).below hb1) | (go_at_call 93;refine (take_p b m T l1 t _ T1.ps h56).mono ?_;rintro e w2 ⟨rfl,hT2⟩;have T2:=(T1.trans hT2).alloc (.cells #[.int .i64 9,.string ⟨#[]⟩,.int .i64 0,.int .i64 t.p,.slice none 0 0] 54)) | (go_at_call 124;refine (CE _ T2.ps (by simp)).mono ?_;rintro e w3 ⟨he,hk⟩;unfold refp at he;subst he))
    exact ⟨rfl,rfl,T2.ky.trans hk⟩
  | ok g l2=>
    obtain ⟨t2,l3,rfl⟩:=(pr_ends he (h.ends.tail h56)).cons
    rw[he] at CE hr
    simp only[PR.bind,need] at hr⊢
    by_cases h18:cls t2=18
    ·rw[if_pos (show hc (t2::l3)=18 from h18)]
     have wt218:rd t2 [41]=true:=cls_rd (c:=18) (by omega) (by decide) (by decide)
     go_enter Tryz.func142,Tryz.ntmps142
     go_wp2_with (first | (go_at_call 64;refine (is_v b m T l1 t _ _ (h.alloc _) (by assumption)).mono ?_;rintro e w1 ⟨rfl,hb1⟩;have T1:=(h.tk.alloc _).below hb1;have R1:=(Bx.new W 54 _).below hb1) | (go_at_call 93;refine (take_p b m T l1 t _ T1.ps h56).mono ?_;rintro e w2 ⟨rfl,hT2⟩;have T2':=T1.trans hT2;have s2:=T2'.ky.size;have T2:=T2'.alloc (.cells #[.int .i64 (9),.string ⟨#[]⟩,.int .i64 (0),.int .i64 (t.p),.slice none 0 0] 54);have R2:=(R1.ky hT2.ky hbW).alloc (.cells #[.int .i64 (9),.string ⟨#[]⟩,.int .i64 (0),.int .i64 (t.p),.slice none 0 0] 54);have L2:=Bx.new w2 54 #[.int .i64 9,.string ⟨#[]⟩,.int .i64 0,.int .i64 t.p,.slice none 0 0];have R2lt:=(R1.ky hT2.ky hbW).lt) | (go_at_call 124;refine (CE _ T2.ps (by simp)).mono ?_;rintro e w3 ⟨k,tt,n,p,a1,c1,ks,rfl,rfl,hTN,hTk⟩;have s3:=hTk.ky.size;have T3:=(T2.trans hTk).alloc (.cells #[.int .i64 (k),.string ⟨(tt).toArray⟩,.int .i64 (n),.int .i64 (p),.slice a1 ks.len c1] 54);have L3:=L2.ky hTk.ky (by omega);have R3:=(R2.ky hTk.ky hbW).alloc (.cells #[.int .i64 (k),.string ⟨(tt).toArray⟩,.int .i64 (n),.int .i64 (p),.slice a1 ks.len c1] 54);obtain ⟨-,-,-,-,l4⟩:=L3.fiveA;obtain ⟨-,-,-,-,lf4⟩:=L3.frozen5A;have K3:=hTN.row1 (Q:=fun g=>w2.heap.size<g) (fun g hg _=>by simp at hg;omega) (by simp at s3;omega);have L4:=(L3.alloc (.cells #[.int .i64 (k),.string ⟨(tt).toArray⟩,.int .i64 (n),.int .i64 (p),.slice a1 ks.len c1] 54)).put4 (.slice (some ⟨w3.heap.size,0,none⟩) 1 1);have K4:=K3.set (X:=w2.heap.size) (o:=4) (Nat.lt_irrefl _) (.slice (some ⟨w3.heap.size,0,none⟩) 1 1);have T4:=T3.new (X:=w2.heap.size) (o:=4) s2 hlt.2 (.slice (some ⟨w3.heap.size,0,none⟩) 1 1);have R4:=R3.set (b:=w2.heap.size) (o:=4) (by omega) (.slice (some ⟨w3.heap.size,0,none⟩) 1 1);obtain ⟨w4,hw4⟩:∃w4,(w3.alloc (.cells #[.int .i64 (k),.string ⟨(tt).toArray⟩,.int .i64 (n),.int .i64 (p),.slice a1 ks.len c1] 54)).setCell ⟨w2.heap.size,4,none⟩ (.slice (some ⟨w3.heap.size,0,none⟩) 1 1)=w4:=⟨_,rfl⟩;rw[hw4] at L4 K4 T4 R4) | (go_at_call 96;refine (expect_t b m T l3 t2 _ _ T4.ps (by assumption)).mono ?_;rintro e w5 ⟨rfl,hT5⟩;have T5:=T4.trans hT5;have R5:=R4.ky hT5.ky hbW;have L5:=L4.ky hT5.ky (by omega);have K5:=K4.ky hT5.ky (by omega);obtain ⟨q0,q1,q2,q3,q4⟩:=R5.five;obtain ⟨f0,f1,f2,f3,f4⟩:=R5.frozen5;obtain ⟨p0,p1,p2,p3,p4⟩:=L5.five))
     refine bodyPost_ret (v:=(.agg #[.int .i64 (9),.string ⟨#[]⟩,.int .i64 (0),.int .i64 (t.p),.slice (some ⟨w3.heap.size,0,none⟩) 1 1])) (by simp[results,Tryz.results142,go_sem,q0,q1,q2,q3,q4]) rfl ?_
     exact PN.five (K5.node 9 [] 0 t.p) T5 (fun g hg=>by omega) hlt.2
    ·rw[if_neg (show ¬hc (t2::l3)=18 from h18)]
     have wt218:rd t2 [41]=false:=cls_nrd (c:=18) (by omega) (by decide) (by decide)
     go_enter Tryz.func142,Tryz.ntmps142
     go_wp2_with (first | (go_at_call 64;refine (is_v b m T l1 t _ _ (h.alloc _) (by assumption)).mono ?_;rintro e w1 ⟨rfl,hb1⟩;have T1:=(h.tk.alloc _).below hb1;have R1:=(Bx.new W 54 _).below hb1) | (go_at_call 93;refine (take_p b m T l1 t _ T1.ps h56).mono ?_;rintro e w2 ⟨rfl,hT2⟩;have T2':=T1.trans hT2;have s2:=T2'.ky.size;have T2:=T2'.alloc (.cells #[.int .i64 (9),.string ⟨#[]⟩,.int .i64 (0),.int .i64 (t.p),.slice none 0 0] 54);have R2:=(R1.ky hT2.ky hbW).alloc (.cells #[.int .i64 (9),.string ⟨#[]⟩,.int .i64 (0),.int .i64 (t.p),.slice none 0 0] 54);have L2:=Bx.new w2 54 #[.int .i64 9,.string ⟨#[]⟩,.int .i64 0,.int .i64 t.p,.slice none 0 0];have R2lt:=(R1.ky hT2.ky hbW).lt) | (go_at_call 124;refine (CE _ T2.ps (by simp)).mono ?_;rintro e w3 ⟨k,tt,n,p,a1,c1,ks,rfl,rfl,hTN,hTk⟩;have s3:=hTk.ky.size;have T3:=(T2.trans hTk).alloc (.cells #[.int .i64 (k),.string ⟨(tt).toArray⟩,.int .i64 (n),.int .i64 (p),.slice a1 ks.len c1] 54);have L3:=L2.ky hTk.ky (by omega);have R3:=(R2.ky hTk.ky hbW).alloc (.cells #[.int .i64 (k),.string ⟨(tt).toArray⟩,.int .i64 (n),.int .i64 (p),.slice a1 ks.len c1] 54);obtain ⟨-,-,-,-,l4⟩:=L3.fiveA;obtain ⟨-,-,-,-,lf4⟩:=L3.frozen5A;have K3:=hTN.row1 (Q:=fun g=>w2.heap.size<g) (fun g hg _=>by simp at hg;omega) (by simp at s3;omega);have L4:=(L3.alloc (.cells #[.int .i64 (k),.string ⟨(tt).toArray⟩,.int .i64 (n),.int .i64 (p),.slice a1 ks.len c1] 54)).put4 (.slice (some ⟨w3.heap.size,0,none⟩) 1 1);have K4:=K3.set (X:=w2.heap.size) (o:=4) (Nat.lt_irrefl _) (.slice (some ⟨w3.heap.size,0,none⟩) 1 1);have T4:=T3.new (X:=w2.heap.size) (o:=4) s2 hlt.2 (.slice (some ⟨w3.heap.size,0,none⟩) 1 1);have R4:=R3.set (b:=w2.heap.size) (o:=4) (by omega) (.slice (some ⟨w3.heap.size,0,none⟩) 1 1);obtain ⟨w4,hw4⟩:∃w4,(w3.alloc (.cells #[.int .i64 (k),.string ⟨(tt).toArray⟩,.int .i64 (n),.int .i64 (p),.slice a1 ks.len c1] 54)).setCell ⟨w2.heap.size,4,none⟩ (.slice (some ⟨w3.heap.size,0,none⟩) 1 1)=w4:=⟨_,rfl⟩;rw[hw4] at L4 K4 T4 R4) | (go_at_call 96;refine (expect_f b m T l3 t2 _ _ T4.ps (by assumption)).mono ?_;rintro e w5 ⟨he,hb5⟩;unfold refp at he;subst he))
     exact ⟨rfl,rfl,T4.ky.trans (.of_below hb5)⟩
 ·rw[if_neg (show ¬hc (t::l1)=17 from h17)] at hr⊢
  have wt17:rd t [40]=false:=cls_nrd (c:=17) (by omega) (by decide) (by decide)
  unfold nam at hr⊢
  by_cases h51:cls t=51
  ·rw[if_pos (show hc (t::l1)=51 from h51)] at hr⊢
   go_enter Tryz.func142,Tryz.ntmps142
   go_wp2_with (first | (go_at_call 64;refine (is_v b m T l1 t _ _ (h.alloc _) (by assumption)).mono ?_;rintro e w1 ⟨rfl,hb1⟩;have T1:=(h.tk.alloc _).below hb1;have R1:=(Bx.new W 54 _).below hb1) | (go_at_call 95;refine (name_yes b m T l1 t _ T1.ps h51).mono ?_;rintro e w2 ⟨rfl,hT2⟩;have T2:=T1.trans hT2;have R2:=R1.ky hT2.ky hbW;obtain ⟨q0,q1,q2,q3,q4⟩:=R2.five;obtain ⟨f0,f1,f2,f3,f4⟩:=R2.frozen5))
   refine bodyPost_ret (v:=(.agg #[.int .i64 (6),.string ⟨(t.t).toArray⟩,.int .i64 (0),.int .i64 (t.p),.slice none 0 0])) (by simp[results,Tryz.results142,go_sem,q0,q1,q2,q3,q4]) rfl ?_
   exact PN.five (ks:=.nil) (TN.leaf _ _ (fun g=>W.heap.size<g) _ _ _ _) T2 (fun _ e=>e) hlt.2
  ·rw[if_neg (show ¬hc (t::l1)=51 from h51)] at hr⊢
   go_enter Tryz.func142,Tryz.ntmps142
   go_wp2_with (first | (go_at_call 64;refine (is_v b m T l1 t _ _ (h.alloc _) (by assumption)).mono ?_;rintro e w1 ⟨rfl,hb1⟩;have T1:=(h.tk.alloc _).below hb1) | (go_at_call 95;refine (name_no b m T l1 t _ T1.ps h51).mono ?_;rintro e w2 ⟨he,hb2⟩;unfold refp at he;subst he))
   exact ⟨rfl,rfl,T1.ky.trans (.of_below hb2)⟩
set_option maxRecDepth 20000 in
set_option maxHeartbeats 4000000 in
theorem args_any (N:Nat) (H:CC N) (b m:Nat) (T l:List Tok) (W:World) (P:Nat→Prop) (a:Option Addr) (c:Nat) (f:F) (h:Row b m T l W P a c f) (hr:argP (pr N) f l≠ .out):Calls Tryz.prog 144 #[.pointer (some ⟨b,0,none⟩),.slice a f.len c] W (PL b m T W P (.slice a f.len c) (argP (pr N) f l)):=by
 obtain ⟨t,l1,rfl⟩:=h.ps.cons
 unfold argP at hr⊢
 by_cases h18:cls t=18
 ·rw[if_pos (show hc (t::l1)=18 from h18)] at hr⊢
  have wt18:rd t [41]=true:=cls_rd (c:=18) (by omega) (by decide) (by decide)
  go_enter Tryz.func144,Tryz.ntmps144
  go_wp2_with (go_at_call 63;refine (accept_t b m T l1 t _ _ h.ps (by assumption)).mono ?_;rintro e w3 ⟨rfl,hT⟩;have hrow:=h.took hT)
  go_ret
  exact ⟨a,c,rfl,hrow.kl,hT.ps,hT.ky.mono fun _ _ e=>.inl e⟩
 ·rw[if_neg (show ¬hc (t::l1)=18 from h18)] at hr⊢
  have wt18:rd t [41]=false:=cls_nrd (c:=18) (by omega) (by decide) (by decide)
  have CL:=fun W h=>H.lst b m T (t::l1) W P a c f h
  cases he:pr N (.lst f) (t::l1) with
  | out=>rw[he] at hr;exact absurd rfl hr
  | bad p=>
    rw[he] at CL
    simp only[PR.bind] at hr⊢
    go_enter Tryz.func144,Tryz.ntmps144
    go_wp2_with (first | (go_at_call 63;refine (accept_f b m T l1 t _ _ h.ps (by assumption)).mono ?_;rintro e w3 ⟨rfl,hb⟩;have hrow:=h.past hb) | (go_at_call 94;refine (CL _ hrow (by simp)).mono ?_;rintro e w4 ⟨he,hk⟩;unfold refp at he;subst he))
    exact ⟨rfl,rfl,(Ky.of_below hb).trans hk⟩
  | ok g l2=>
    obtain ⟨t2,l3,rfl⟩:=(pr_ends he h.ps.ends).cons
    rw[he] at CL hr
    simp only[PR.bind,need] at hr⊢
    by_cases h2:cls t2=18
    ·rw[if_pos (show hc (t2::l3)=18 from h2)]
     have wt218:rd t2 [41]=true:=cls_rd (c:=18) (by omega) (by decide) (by decide)
     go_enter Tryz.func144,Tryz.ntmps144
     go_wp2_with (first | (go_at_call 63;refine (accept_f b m T l1 t _ _ h.ps (by assumption)).mono ?_;rintro e w3 ⟨rfl,hb⟩;have hrow:=h.past hb) | (go_at_call 94;refine (CL _ hrow (by simp)).mono ?_;rintro e w4 ⟨a1,c1,rfl,hkl,hps,hk⟩) | (go_at_call 96;refine (expect_t b m T l3 t2 _ _ hps (by assumption)).mono ?_;rintro e w5 ⟨rfl,hT5⟩))
     go_ret
     have hlt:=h.ps.lt
     exact ⟨a1,c1,rfl,hkl.ky hT5.ky (fun g hg e=>h.lo g (by omega) hg),hT5.ps,((Ky.of_below hb).trans hk).trans (hT5.ky.mono fun _ _ e=>.inl e)⟩
    ·rw[if_neg (show ¬hc (t2::l3)=18 from h2)]
     have wt218:rd t2 [41]=false:=cls_nrd (c:=18) (by omega) (by decide) (by decide)
     go_enter Tryz.func144,Tryz.ntmps144
     go_wp2_with (first | (go_at_call 63;refine (accept_f b m T l1 t _ _ h.ps (by assumption)).mono ?_;rintro e w3 ⟨rfl,hb⟩;have hrow:=h.past hb) | (go_at_call 94;refine (CL _ hrow (by simp)).mono ?_;rintro e w4 ⟨a1,c1,rfl,hkl,hps,hk⟩) | (go_at_call 96;refine (expect_f b m T l3 t2 _ _ hps (by assumption)).mono ?_;rintro e w5 ⟨he,hb5⟩;unfold refp at he;subst he))
     exact ⟨rfl,rfl,((Ky.of_below hb).trans hk).trans (.of_below hb5)⟩
end Go.Proofs.YtkjbgggghigapaaGreat


namespace Go.Proofs.YtkjbgggghigapaaGreat
open Go.RowKit
theorem TN.made {E:TypeId} {w:World} {Q:Nat→Prop} {cur:Array Value} {f:F} {c:Nat} (h:KF E w Q cur.toList f) (hQ:Q w.heap.size) (hc:f.len=c) (hl:c≤maxLen) (k:Int) (t:List UInt8) (n p:Int):TN E (w.alloc (.cells cur E)) Q k t n p (.slice (some ⟨w.heap.size,0,none⟩) c c) f:=by
 subst hc
 have hs:cur.size=f.len * 5:=by rw[←h.len];simp
 refine ⟨.cons ⟨by simpa using hs,.inr ⟨w.heap.size,f.len,cur,rfl,Nat.zero_le _,Go.heap_alloc_new w _,Nat.le_refl _,hl,hs,by rw[←hs];exact List.take_of_length_le (by simp)⟩⟩ (fun g hg=>?_) (h.keep fun g _ hl=>(World.grownBy_alloc w _ none).block g hl (by simp)) .nil⟩
 have e2:w.heap.size=g:=by simpa [Value.ownBlock] using hg
 rw[←e2];exact hQ
theorem TN.five {E:TypeId} {w:World} {P:Nat→Prop} {k:Int} {t:List UInt8} {n p:Int} {v:Value} {ks:F} {X:Nat} (h:TN E w P k t n p v ks) (hX:¬P X) (u0 u1 u2 u3 u4:Value):TN E (((((w.setCell ⟨X,0,none⟩ u0).setCell ⟨X,1,none⟩ u1).setCell ⟨X,2,none⟩ u2).setCell ⟨X,3,none⟩ u3).setCell ⟨X,4,none⟩ u4) P k t n p v ks:=
 ((((h.set hX u0).set hX u1).set hX u2).set hX u3).set hX u4
theorem Bx.five_put {X:Nat} {e:TypeId} {a b c d f:Value} {w:World} (h:Bx X e #[a,b,c,d,f] w) (u0 u1 u2 u3 u4:Value):Bx X e #[u0,u1,u2,u3,u4] (((((w.setCell ⟨X,0,none⟩ u0).setCell ⟨X,1,none⟩ u1).setCell ⟨X,2,none⟩ u2).setCell ⟨X,3,none⟩ u3).setCell ⟨X,4,none⟩ u4):=
 ((((h.put (j:=0) u0).put (j:=1) u1).put (j:=2) u2).put (j:=3) u3).put (j:=4) u4
theorem Bx.five_set {X Y:Nat} {e:TypeId} {cur:Array Value} {w:World} (h:Bx X e cur w) (hX:X≠Y) (u0 u1 u2 u3 u4:Value):Bx X e cur (((((w.setCell ⟨Y,0,none⟩ u0).setCell ⟨Y,1,none⟩ u1).setCell ⟨Y,2,none⟩ u2).setCell ⟨Y,3,none⟩ u3).setCell ⟨Y,4,none⟩ u4):=
 ((((h.set hX u0).set hX u1).set hX u2).set hX u3).set hX u4
structure Lf (b m:Nat) (T l:List Tok) (W:World) (X:Nat) (k:Int) (t:List UInt8) (n p:Int) (v:Value) (ks:F) (w:World):Prop where
 tk:Tk b m T l W w
 res:Bx W.heap.size 54 #[.int .i64 0,.string ⟨#[]⟩,.int .i64 0,.int .i64 0,.slice none 0 0] w
 box:Bx X 54 #[.int .i64 k,.string ⟨t.toArray⟩,.int .i64 n,.int .i64 p,v] w
 tn:TN 54 w (fun g=>W.heap.size<g∧g≠X) k t n p v ks
 lt:b<W.heap.size∧m≤W.heap.size∧W.heap.size<X
section
variable {b m:Nat} {T l:List Tok} {W:World} {X:Nat} {k:Int} {t:List UInt8} {n p:Int} {v:Value} {ks:F} {w w':World}
theorem Lf.below (h:Lf b m T l W X k t n p v ks w) (hb:Below w.heap.size w w'):Lf b m T l W X k t n p v ks w':=⟨h.tk.below hb,h.res.below hb,h.box.below hb,h.tn.below hb,h.lt⟩
theorem Lf.alloc (h:Lf b m T l W X k t n p v ks w) (o:Obj):Lf b m T l W X k t n p v ks (w.alloc o):=⟨h.tk.alloc o,h.res.alloc o,h.box.alloc o,h.tn.alloc o,h.lt⟩
theorem Lf.took {l':List Tok} (h:Lf b m T l W X k t n p v ks w) (hT:Tk b m T l' w w'):Lf b m T l' W X k t n p v ks w':=by
 have hlt:=h.lt
 exact ⟨h.tk.trans hT,h.res.ky hT.ky (by omega),h.box.ky hT.ky (by omega),h.tn.ky hT.ky (by omega),h.lt⟩
theorem Lf.put {k':Int} {t':List UInt8} {n' p':Int} {v':Value} {ks':F} (h:Lf b m T l W X k t n p v ks w) (ht:TN 54 w (fun g=>W.heap.size<g∧g≠X) k' t' n' p' v' ks'):
 Lf b m T l W X k' t' n' p' v' ks' (((((w.setCell ⟨X,0,none⟩ (.int .i64 k')).setCell ⟨X,1,none⟩ (.string ⟨t'.toArray⟩)).setCell ⟨X,2,none⟩ (.int .i64 n')).setCell ⟨X,3,none⟩ (.int .i64 p')).setCell ⟨X,4,none⟩ v'):=by
 have hlt:=h.lt
 exact ⟨h.tk.five (by omega) hlt.2.1 _ _ _ _ _,h.res.five_set (by omega) _ _ _ _ _,h.box.five_put _ _ _ _ _,ht.five (by omega) _ _ _ _ _,h.lt⟩
end
set_option maxRecDepth 20000 in
set_option maxHeartbeats 8000000 in
theorem expr_any (N:Nat) (H:∀n,n≤N→CC n) (a:Nat) (b m:Nat) (T l:List Tok) (W:World) (h:PS b m T l W) (hr:pr (N+1) (.ex a) l≠ .out):Calls Tryz.prog 124 #[.pointer (some ⟨b,0,none⟩),.int .i64 a] W (PN b m T W (pr (N+1) (.ex a) l)):=by
 have hlt:=h.lt
 have hbW:W.heap.size≠b:=by omega
 obtain ⟨R,hR⟩:∃R,pr (N+1) (.ex a) l=R:=⟨_,rfl⟩
 rw[hR] at hr⊢
 rw[pr_succ] at hR
 simp only[stp'] at hR
 have CE:=fun W h=>(H N (Nat.le_refl _)).opd b m T l W h
 cases he:pr N .opd l with
 | out=>rw[he] at hR;exact absurd hR.symm hr
 | bad p=>
   rw[he] at hR CE
   simp only[PR.bind] at hR
   subst hR
   go_enter Tryz.func124,Tryz.ntmps124
   go_wp2_with (go_at_call 140;refine (CE _ (h.alloc _) (by simp)).mono ?_;rintro e w1 ⟨he,hk⟩;unfold refp at he;subst he)
   exact ⟨rfl,rfl,((Ky.refl (fun k=>k=b) W).alloc _).trans hk⟩
 | ok g l1=>
   rw[he] at hR CE
   simp only[PR.bind] at hR
   go_enter Tryz.func124,Tryz.ntmps124
   go_wp2_with (go_at_call 140;refine (CE _ (h.alloc _) (by simp)).mono ?_;rintro e w1 ⟨k,tt,n,p,a1,c1,ks,rfl,rfl,hTN,hTk⟩;have R1:=(Bx.new W 54 _).ky hTk.ky hbW;have T1:=(h.tk.alloc _).trans hTk)
   have hX1:W.heap.size<w1.heap.size:=R1.lt
   replace hR:Hid (pr N (.exl a (one k tt n p ks)) l1=R):=hR
   have hL:Lf b m T l1 W w1.heap.size k tt n p (.slice a1 ks.len c1) ks (w1.alloc (.cells #[.int .i64 (k),.string ⟨(tt).toArray⟩,.int .i64 (n),.int .i64 (p),.slice a1 ks.len c1] 54)):=⟨T1.alloc _,R1.alloc _,Bx.new _ _ _,(hTN.mono fun g hg hl=>⟨by simp at hg;omega,by omega⟩).alloc _,by omega⟩
   obtain ⟨X,hX⟩:∃X,w1.heap.size=X:=⟨_,rfl⟩
   obtain ⟨wS,hwS⟩:∃wS,w1.alloc (.cells #[.int .i64 (k),.string ⟨(tt).toArray⟩,.int .i64 (n),.int .i64 (p),.slice a1 ks.len c1] 54)=wS:=⟨_,rfl⟩
   rw[hX] at hX1 hL⊢
   rw[hwS] at hL⊢
   clear hwS hTN hTk R1 T1 CE he
   go_loopg [] (N+2) (fun gf wx=>∃(q:Nat) (k:Int) (tt:List UInt8) (n p:Int) (a':Option Addr) (c':Nat) (ks:F) (l':List Tok),q≤N∧Lf b m T l' W X k tt n p (.slice a' ks.len c') ks wx∧Hid (pr q (.exl a (one k tt n p ks)) l'=R)∧q<gf)
   case atStart=>exact ⟨N,k,tt,n,p,a1,c1,ks,l1,Nat.le_refl _,hL,hR,by omega⟩
   case round=>
    clear hL hR hX
    obtain ⟨q,k,tt,n,p,a1,c1,ks,l',hq,hL,hR,hfu⟩:=hrel
    obtain ⟨t,l2,rfl⟩:=hL.tk.ps.cons
    cases q with
    | zero=>exact absurd hR.out.symm hr
    | succ q=>
      have hR:=hR.out
      rw[pr_succ] at hR
      simp only[stp'] at hR
      by_cases hb:a<bnd (cls t)
      ·rw[if_pos (show a<bnd (hc (t::l2)) from hb)] at hR
       change (pr q (.ex (if bnd (cls t)=4 then 3 else bnd (cls t))) l2).bind (fun g l1=>pr q (.exl a (one 11 t.t 0 p ((one k tt n p ks).app g))) l1)=R at hR
       have h56:cls t≠56:=by intro e;rw[e] at hb;exact absurd hb (by simp[bnd])
       obtain ⟨v,hv⟩:∃v,bnd (cls t)=v:=⟨_,rfl⟩
       have CB:=fun w=>binding_any t w
       rw[hv] at hR hb CB
       have hva:(a:Int)<v:=by omega
       obtain ⟨v',hv'⟩:∃v',(if v=4 then 3 else v)=v':=⟨_,rfl⟩
       rw[hv'] at hR
       have CE:=fun W h=>(H q (by omega)).ex v' b m T l2 W h
       cases he:pr q (.ex v') l2 with
       | out=>rw[he] at hR;exact absurd hR.symm hr
       | bad p2=>
         rw[he] at hR CE
         simp only[PR.bind] at hR
         subst hR
         by_cases h4:v=4
         ·rw[if_pos h4] at hv'
          subst hv' h4
          go_wp2_with (first | (go_at_call 43;refine (token_any b m T l2 t _ hL.tk.ps).mono ?_;rintro e w2 ⟨rfl,hb2⟩;have T2:=hL.tk.below hb2) | (go_at_call 141;refine (CB _).mono ?_;rintro e w3 ⟨rfl,hb3⟩;have T2:=T2.below hb3) | (go_at_call 93;refine (take_p b m T l2 t _ T2.ps h56).mono ?_;rintro e w3 ⟨rfl,hT3⟩;have T2:=(T2.trans hT3).alloc (.cells #[.int .i64 t.k,.string ⟨t.t.toArray⟩,.int .i64 t.v,.int .i64 t.p] 114)) | (go_at_call 124;refine (CE _ T2.ps (by simp)).mono ?_;rintro e w3 ⟨he,hk⟩;unfold refp at he;subst he))
          exact ⟨rfl,rfl,T2.ky.trans hk⟩
         ·rw[if_neg h4] at hv'
          subst hv'
          have h4':¬(v:Int)=4:=by omega
          go_wp2_with (first | (go_at_call 43;refine (token_any b m T l2 t _ hL.tk.ps).mono ?_;rintro e w2 ⟨rfl,hb2⟩;have T2:=hL.tk.below hb2) | (go_at_call 141;refine (CB _).mono ?_;rintro e w3 ⟨rfl,hb3⟩;have T2:=T2.below hb3) | (go_at_call 93;refine (take_p b m T l2 t _ T2.ps h56).mono ?_;rintro e w3 ⟨rfl,hT3⟩;have T2:=(T2.trans hT3).alloc (.cells #[.int .i64 t.k,.string ⟨t.t.toArray⟩,.int .i64 t.v,.int .i64 t.p] 114)) | (go_at_call 124;refine (CE _ T2.ps (by simp)).mono ?_;rintro e w3 ⟨he,hk⟩;unfold refp at he;subst he))
          exact ⟨rfl,rfl,T2.ky.trans hk⟩
       | ok g l3=>
         rw[he] at hR CE
         simp only[PR.bind] at hR
         have hR:Hid (pr q (.exl a (one 11 t.t 0 p ((one k tt n p ks).app g))) l3=R):=hR
         by_cases h4:v=4
         ·rw[if_pos h4] at hv'
          subst hv' h4
          go_wp2_with (first | (go_at_call 43;refine (token_any b m T l2 t _ hL.tk.ps).mono ?_;rintro e w2 ⟨rfl,hb2⟩;have L2:=hL.below hb2) | (go_at_call 141;refine (CB _).mono ?_;rintro e w3 ⟨rfl,hb3⟩;first | (have S2:=S2.below hb3;have L2:=L2.below hb3) | (have L2:=L2.below hb3)) | (go_at_call 93;refine (take_p b m T l2 t _ L2.tk.ps h56).mono ?_;rintro e w3 ⟨rfl,hT3⟩;have L2:=(L2.took hT3).alloc (.cells #[.int .i64 t.k,.string ⟨t.t.toArray⟩,.int .i64 t.v,.int .i64 t.p] 114);have S2:=Bx.new w3 114 #[.int .i64 t.k,.string ⟨t.t.toArray⟩,.int .i64 t.v,.int .i64 t.p];have s1:w3.heap.size≠b:=by have:=hT3.ps.lt;omega) | (go_at_call 124;refine (CE _ L2.tk.ps (by simp)).mono ?_;rintro e w4 ⟨k2,tt2,n2,p2,a2,c2,ks2,rfl,rfl,hTN,hTk⟩;have hX4:=L2.box.lt;have L5:=(L2.took hTk).alloc (.cells #[.int .i64 (k2),.string ⟨(tt2).toArray⟩,.int .i64 (n2),.int .i64 (p2),.slice a2 ks2.len c2] 54);have S5:=(S2.ky hTk.ky s1).alloc (.cells #[.int .i64 (k2),.string ⟨(tt2).toArray⟩,.int .i64 (n2),.int .i64 (p2),.slice a2 ks2.len c2] 54);have Q5:=Bx.new w4 54 #[.int .i64 k2,.string ⟨tt2.toArray⟩,.int .i64 n2,.int .i64 p2,.slice a2 ks2.len c2];have M5:=(hTN.mono (Q:=fun g=>W.heap.size<g∧g≠X) (fun g hg _=>⟨by have:=L2.lt;omega,by omega⟩)).alloc (.cells #[.int .i64 (k2),.string ⟨(tt2).toArray⟩,.int .i64 (n2),.int .i64 (p2),.slice a2 ks2.len c2] 54);obtain ⟨w5,hw5⟩:∃w5,w4.alloc (.cells #[.int .i64 (k2),.string ⟨(tt2).toArray⟩,.int .i64 (n2),.int .i64 (p2),.slice a2 ks2.len c2] 54)=w5:=⟨_,rfl⟩;rw[hw5] at L5 S5 Q5 M5;obtain ⟨p0,p1,p2',p3,p4⟩:=L5.box.five;obtain ⟨q0,q1,q2,q3,q4⟩:=L5.box.fiveA;obtain ⟨f0,f1,f2,f3,f4⟩:=L5.box.frozen5A;have s1':=S5.c 1 _ rfl;obtain ⟨r0,r1,r2,r3,r4⟩:=Q5.five))
          have hX5:=L5.box.lt
          have hlt5:=L5.lt
          have M6:=TN.made (cur:=#[.int .i64 k,.string ⟨tt.toArray⟩,.int .i64 n,.int .i64 p,.slice a1 ks.len c1,.int .i64 k2,.string ⟨tt2.toArray⟩,.int .i64 n2,.int .i64 p2,.slice a2 ks2.len c2]) (c:=2) (L5.tn.kf.app M5.kf) (by constructor<;>omega) rfl (by unfold maxLen;omega) 11 t.t 0 p
          go_roundg (q+1)
          case measure=>omega
          case rel=>exact ⟨q,_,_,_,_,_,_,_,l3,by omega,(L5.alloc _).put M6,hR,by omega⟩
         ·rw[if_neg h4] at hv'
          subst hv'
          have h4':¬(v:Int)=4:=by omega
          go_wp2_with (first | (go_at_call 43;refine (token_any b m T l2 t _ hL.tk.ps).mono ?_;rintro e w2 ⟨rfl,hb2⟩;have L2:=hL.below hb2) | (go_at_call 141;refine (CB _).mono ?_;rintro e w3 ⟨rfl,hb3⟩;first | (have S2:=S2.below hb3;have L2:=L2.below hb3) | (have L2:=L2.below hb3)) | (go_at_call 93;refine (take_p b m T l2 t _ L2.tk.ps h56).mono ?_;rintro e w3 ⟨rfl,hT3⟩;have L2:=(L2.took hT3).alloc (.cells #[.int .i64 t.k,.string ⟨t.t.toArray⟩,.int .i64 t.v,.int .i64 t.p] 114);have S2:=Bx.new w3 114 #[.int .i64 t.k,.string ⟨t.t.toArray⟩,.int .i64 t.v,.int .i64 t.p];have s1:w3.heap.size≠b:=by have:=hT3.ps.lt;omega) | (go_at_call 124;refine (CE _ L2.tk.ps (by simp)).mono ?_;rintro e w4 ⟨k2,tt2,n2,p2,a2,c2,ks2,rfl,rfl,hTN,hTk⟩;have hX4:=L2.box.lt;have L5:=(L2.took hTk).alloc (.cells #[.int .i64 (k2),.string ⟨(tt2).toArray⟩,.int .i64 (n2),.int .i64 (p2),.slice a2 ks2.len c2] 54);have S5:=(S2.ky hTk.ky s1).alloc (.cells #[.int .i64 (k2),.string ⟨(tt2).toArray⟩,.int .i64 (n2),.int .i64 (p2),.slice a2 ks2.len c2] 54);have Q5:=Bx.new w4 54 #[.int .i64 k2,.string ⟨tt2.toArray⟩,.int .i64 n2,.int .i64 p2,.slice a2 ks2.len c2];have M5:=(hTN.mono (Q:=fun g=>W.heap.size<g∧g≠X) (fun g hg _=>⟨by have:=L2.lt;omega,by omega⟩)).alloc (.cells #[.int .i64 (k2),.string ⟨(tt2).toArray⟩,.int .i64 (n2),.int .i64 (p2),.slice a2 ks2.len c2] 54);obtain ⟨w5,hw5⟩:∃w5,w4.alloc (.cells #[.int .i64 (k2),.string ⟨(tt2).toArray⟩,.int .i64 (n2),.int .i64 (p2),.slice a2 ks2.len c2] 54)=w5:=⟨_,rfl⟩;rw[hw5] at L5 S5 Q5 M5;obtain ⟨p0,p1,p2',p3,p4⟩:=L5.box.five;obtain ⟨q0,q1,q2,q3,q4⟩:=L5.box.fiveA;obtain ⟨f0,f1,f2,f3,f4⟩:=L5.box.frozen5A;have s1':=S5.c 1 _ rfl;obtain ⟨r0,r1,r2,r3,r4⟩:=Q5.five))
          have hX5:=L5.box.lt
          have hlt5:=L5.lt
          have M6:=TN.made (cur:=#[.int .i64 k,.string ⟨tt.toArray⟩,.int .i64 n,.int .i64 p,.slice a1 ks.len c1,.int .i64 k2,.string ⟨tt2.toArray⟩,.int .i64 n2,.int .i64 p2,.slice a2 ks2.len c2]) (c:=2) (L5.tn.kf.app M5.kf) (by constructor<;>omega) rfl (by unfold maxLen;omega) 11 t.t 0 p
          go_roundg (q+1)
          case measure=>omega
          case rel=>exact ⟨q,_,_,_,_,_,_,_,l3,by omega,(L5.alloc _).put M6,hR,by omega⟩
      ·rw[if_neg (show ¬a<bnd (hc (t::l2)) from hb)] at hR
       subst hR
       go_wp2_with (first | (go_at_call 43;refine (token_any b m T l2 t _ hL.tk.ps).mono ?_;rintro e w2 ⟨rfl,hb2⟩) | (go_at_call 141;refine (binding_any t _).mono ?_;rintro e w3 ⟨rfl,hb3⟩;have hB:=hb2.trans (hb3.mono hb2.size);have R3:=hL.res.below hB;have L3:=hL.box.below hB;obtain ⟨q0,q1,q2,q3,q4⟩:=R3.five;obtain ⟨f0,f1,f2,f3,f4⟩:=R3.frozen5;obtain ⟨p0,p1,p2,p3,p4⟩:=L3.five))
       refine bodyPost_ret (v:=(.agg #[.int .i64 (k),.string ⟨(tt).toArray⟩,.int .i64 (n),.int .i64 (p),.slice a1 ks.len c1])) (by simp[results,Tryz.results124,go_sem,q0,q1,q2,q3,q4]) rfl ?_
       exact PN.five (hL.tn.below hB) (hL.tk.below hB) (fun g hg=>hg.1) hlt.2
end Go.Proofs.YtkjbgggghigapaaGreat


namespace Go.Proofs.YtkjbgggghigapaaGreat
open Go.RowKit
def F.siz:F→Nat
 | .nil=>0
 | .cons _ _ _ _ ks r=>ks.siz+r.siz+1
def F.hgt:F→Nat
 | .nil=>0
 | .cons _ _ _ _ ks r=>max (ks.hgt+1) r.hgt
theorem F.len_siz:∀f:F,f.len≤f.siz
 | .nil=>Nat.le_refl _
 | .cons _ _ _ _ ks r=>by have:=r.len_siz;simp only[F.len,F.siz];omega
theorem F.hgt_siz:∀f:F,f.hgt≤f.siz
 | .nil=>Nat.le_refl _
 | .cons _ _ _ _ ks r=>by have:=r.hgt_siz;have:=ks.hgt_siz;simp only[F.hgt,F.siz];omega
structure Rw (w:World) (P:Nat→Prop) (a:Option Addr) (i:Nat) (r:F):Prop where
 ex:∃xs,KF 54 w P xs r∧(xs≠[]→∃g,a=some ⟨g,0,none⟩∧g<w.heap.size∧∀j u,xs[j]?=some u→w.cell? ⟨g,i * 5+j,none⟩=some u)
theorem TN.rw0 {w:World} {P:Nat→Prop} {k:Int} {t:List UInt8} {n p:Int} {a:Option Addr} {c:Nat} {ks:F} (h:TN 54 w P k t n p (.slice a ks.len c) ks):Rw w P a 0 ks:=by
 obtain ⟨_,xs,own,hk⟩:=h.out
 refine ⟨xs,hk,fun hne=>?_⟩
 rcases own.2 with ⟨e1,e2⟩ | ⟨g,cap,cur,e1,_,h3,_,_,_,r4⟩
 ·have:=own.1;rw[e2] at this;exact absurd (List.eq_nil_of_length_eq_zero (by omega)) hne
 ·injection e1 with e1 e2 e3
  refine ⟨g,e1,(Array.getElem?_eq_some_iff.1 h3).1,fun j u hu=>?_⟩
  rw[cell_of_row w g _ cur 54 (0,0) h3,Nat.zero_mul,Nat.zero_add]
  rw[←r4,List.getElem?_take] at hu
  split at hu
  ·simpa using hu
  ·cases hu
theorem Rw.next {w:World} {P:Nat→Prop} {a:Option Addr} {i:Nat} {k:Int} {t:List UInt8} {n p:Int} {ks r:F} (h:Rw w P a i (.cons k t n p ks r)):∃g a' c',a=some ⟨g,0,none⟩∧g<w.heap.size∧w.cell? ⟨g,i * 5,none⟩=some (.int .i64 k)∧w.cell? ⟨g,i * 5+1,none⟩=some (.string ⟨t.toArray⟩)∧w.cell? ⟨g,i * 5+2,none⟩=some (.int .i64 n)∧w.cell? ⟨g,i * 5+3,none⟩=some (.int .i64 p)∧w.cell? ⟨g,i * 5+4,none⟩=some (.slice a' ks.len c')∧
 TN 54 w P k t n p (.slice a' ks.len c') ks∧Rw w P a (i+1) r:=by
 obtain ⟨xs,hk,hx⟩:=h.ex
 cases hk with
 | @cons _ _ _ _ v xs' rest _ _ own hP hk hr=>
   obtain ⟨g,e,hg,hc⟩:=hx (by simp)
   have hs:∃a' c',v= .slice a' ks.len c':=by
    rcases own.2 with ⟨rfl,e2⟩ | ⟨g',cap,cur,rfl,_⟩
    ·exact ⟨none,0,by rw[e2]⟩
    ·exact ⟨_,_,rfl⟩
   obtain ⟨a',c',rfl⟩:=hs
   refine ⟨g,a',c',e,hg,hc 0 _ rfl,hc 1 _ rfl,hc 2 _ rfl,hc 3 _ rfl,hc 4 _ rfl,⟨.cons own hP hk .nil⟩,⟨rest,hr,fun _=>⟨g,e,hg,fun j u hu=>?_⟩⟩⟩
   have:=hc (j+5) u (by simpa using hu)
   rw[show (i+1) * 5+j=i * 5+(j+5) by omega]
   exact this
theorem Rw.below {w w':World} {P:Nat→Prop} {a:Option Addr} {i:Nat} {r:F} (h:Rw w P a i r) (hb:Below w.heap.size w w'):Rw w' P a i r:=by
 obtain ⟨xs,hk,hx⟩:=h.ex
 refine ⟨xs,hk.keep fun g _ hl=>hb.block g hl,fun hne=>?_⟩
 obtain ⟨g,e,hg,hc⟩:=hx hne
 exact ⟨g,e,Nat.lt_of_lt_of_le hg hb.size,fun j u hu=>(World.cell?_of_block (hb.block g hg)).trans (hc j u hu)⟩
set_option maxRecDepth 20000 in
set_option maxHeartbeats 4000000 in
theorem height_any:∀(N:Nat) (ks:F),ks.siz≤N→N≤1000000→∀(w:World) (P:Nat→Prop) (k:Int) (t:List UInt8) (n p:Int) (a:Option Addr) (c:Nat),Rw w P a 0 ks→
 Calls Tryz.prog 18 #[(.agg #[.int .i64 (k),.string ⟨(t).toArray⟩,.int .i64 (n),.int .i64 (p),.slice a ks.len c])] w fun e w'=>e= .returned (.int .i64 ((ks.hgt+1:Nat):Int))∧Below w.heap.size w w':=by
 intro N
 induction N using Nat.strongRecOn with
 | _ N IH=>
   intro ks hs hN w P k t n p a c hR
   have hl:=ks.len_siz
   have hh:=ks.hgt_siz
   have B0:=Bx.new w 54 #[.int .i64 k,.string ⟨t.toArray⟩,.int .i64 n,.int .i64 p,.slice a ks.len c]
   obtain ⟨p0,p1,p2,p3,p4⟩:=B0.five
   have K0:Below w.heap.size w (w.alloc (.cells #[.int .i64 (k),.string ⟨(t).toArray⟩,.int .i64 (n),.int .i64 (p),.slice a ks.len c] 54)):=(Below.refl _ w).alloc (Nat.le_refl _) _
   go_enter Tryz.func18,Tryz.ntmps18
   go_wp2_with fail
   go_loopw [3,5,9] (fun hv _ iv wx=>∃(i h:Nat) (r:F),iv= .int .i64 (i:Nat)∧hv= .int .i64 (h:Nat)∧i+r.len=ks.len∧Hid (max h r.hgt=ks.hgt∧r.siz≤ks.siz∧Rw wx P a i r∧Below w.heap.size w wx)) (fun _ _ iv _=>ks.len - (intOf iv).toNat)
   case atStart=>exact ⟨0,0,ks,rfl,rfl,by omega,by omega,Nat.le_refl _,hR.below K0,K0⟩
   case round=>
    obtain ⟨i,h,r,rfl,rfl,hi,HR⟩:=hrel
    cases r with
    | nil=>
      have h1:¬(i:Int)<(ks.len:Int):=by simp only[F.len] at hi;omega
      have hm:h=ks.hgt:=by have:=HR.out.1;simp only[F.hgt] at this;omega
      have wh:IntKind.i64.wrap ((h:Int)+1)=(h:Int)+1:=by rw[IntKind.wrap_i64];omega
      go_wp2
      go_ret
      exact ⟨rfl,HR.out.2.2.2⟩
    | cons k' t' n' p' ks' r'=>
      simp only[F.len] at hi
      obtain ⟨hm,hz,hr,hb⟩:=HR.out
      simp only[F.siz] at hz
      obtain ⟨g,a',c',rfl,hg,c0,c1,c2,c3,c4,hT,hr'⟩:=hr.next
      have h1:(i:Int)<(ks.len:Int):=by omega
      have wi:IntKind.i64.wrap ((i:Int)+1)=(i:Int)+1:=by rw[IntKind.wrap_i64];omega
      have K1:Below wr.heap.size wr (wr.alloc (.cells #[.int .i64 (k'),.string ⟨(t').toArray⟩,.int .i64 (n'),.int .i64 (p'),.slice a' ks'.len c'] 54)):=(Below.refl _ wr).alloc (Nat.le_refl _) _
      have C:=IH ks'.siz (by omega) ks' (Nat.le_refl _) (by omega) (wr.alloc (.cells #[.int .i64 (k'),.string ⟨(t').toArray⟩,.int .i64 (n'),.int .i64 (p'),.slice a' ks'.len c'] 54)) P k' t' n' p' a' c' (hT.rw0.below K1)
      have HN:Hid (max h (max (ks'.hgt+1) r'.hgt)=ks.hgt∧r'.siz≤ks.siz∧Rw wr P (some ⟨g,0,none⟩) (i+1) r'∧Below w.heap.size w wr∧Below wr.heap.size wr (wr.alloc (.cells #[.int .i64 (k'),.string ⟨(t').toArray⟩,.int .i64 (n'),.int .i64 (p'),.slice a' ks'.len c'] 54))):=⟨hm,by omega,hr',hb,K1⟩
      have hms:ks.len - (i+1)<ks.len - i:=by omega
      clear hm hz hr hb hT hr' K1 HR
      go_wp2_with fail
      refine C.mono ?_;rintro e w1 ⟨rfl,hb1⟩
      have HB1:Hid (Below wr.heap.size wr w1):=HN.out.2.2.2.2.trans (hb1.mono HN.out.2.2.2.2.size)
      clear C hb1
      go_wp2
      go_round
      case rel=>
       refine ⟨i+1,max h (ks'.hgt+1),r',by first | rfl | simp,?_,by omega,by have:=HN.out.1;omega,HN.out.2.1,HN.out.2.2.1.below HB1.out,HN.out.2.2.2.1.trans (HB1.out.mono HN.out.2.2.2.1.size)⟩
       first | rfl | (simp;omega) | (congr 1;omega)
      case measure=>first | omega | (simp only[intOf];omega) | (simp;omega)
end Go.Proofs.YtkjbgggghigapaaGreat


namespace Go.Proofs.YtkjbgggghigapaaGreat
open Go.RowKit
def F.get?:F→Nat→Option (Int×List UInt8×Int×Int×F)
 | .nil,_=>none
 | .cons k t n p ks _,0=>some (k,t,n,p,ks)
 | .cons _ _ _ _ _ r,i+1=>r.get? i
def F.take:F→Nat→F
 | .nil,_=>.nil
 | .cons _ _ _ _ _ _,0=>.nil
 | .cons k t n p ks r,i+1=>.cons k t n p ks (r.take i)
def F.drop:F→Nat→F
 | f,0=>f
 | .nil,_+1=>.nil
 | .cons _ _ _ _ _ r,i+1=>r.drop i
theorem F.take_len:∀(f:F) (i:Nat),i≤f.len→(f.take i).len=i
 | .nil,i,h=>by simp only[F.len] at h;obtain rfl:i=0:=by omega
                rfl
 | .cons _ _ _ _ _ _,0,_=>rfl
 | .cons k t n p ks r,i+1,h=>by simp only[F.take,F.len] at h⊢;rw[r.take_len i (by omega)]
theorem F.drop_len:∀(f:F) (i:Nat),(f.drop i).len=f.len - i
 | f,0=>by cases f<;>rfl
 | .nil,i+1=>by simp[F.drop,F.len]
 | .cons k t n p ks r,i+1=>by simp only[F.drop,F.len];rw[r.drop_len i];omega
theorem F.get_some:∀(f:F) (i:Nat),i<f.len→∃x,f.get? i=some x
 | .nil,i,h=>by simp[F.len] at h
 | .cons k t n p ks r,0,_=>⟨_,rfl⟩
 | .cons k t n p ks r,i+1,h=>r.get_some i (by simp only[F.len] at h;omega)
theorem F.get_siz:∀(f:F) (i:Nat) (k:Int) (t:List UInt8) (n p:Int) (ks:F),f.get? i=some (k,t,n,p,ks)→ks.siz+1≤f.siz
 | .nil,i,_,_,_,_,_,h=>by simp[F.get?] at h
 | .cons k t n p ks r,0,_,_,_,_,_,h=>by simp only[F.get?,Option.some.injEq,Prod.mk.injEq] at h;obtain ⟨rfl,rfl,rfl,rfl,rfl⟩:=h;simp only[F.siz];omega
 | .cons k t n p ks r,i+1,k',t',n',p',ks',h=>by have:=r.get_siz i k' t' n' p' ks' h;simp only[F.siz];omega
structure Rv (w:World) (P:Nat→Prop) (a:Option Addr) (r:F):Prop where
 ex:∃xs,KF 54 w P xs r∧(xs≠[]→∃g o,a=some ⟨g,o,none⟩∧P g∧g<w.heap.size∧∀j u,xs[j]?=some u→w.cell? ⟨g,o+j,none⟩=some u)
theorem TN.rv {w:World} {P:Nat→Prop} {k:Int} {t:List UInt8} {n p:Int} {a:Option Addr} {c:Nat} {ks:F} (h:TN 54 w P k t n p (.slice a ks.len c) ks):Rv w P a ks:=by
 obtain ⟨hP,xs,own,hk⟩:=h.out
 refine ⟨xs,hk,fun hne=>?_⟩
 rcases own.2 with ⟨e1,e2⟩ | ⟨g,cap,cur,e1,_,h3,_,_,_,r4⟩
 ·have:=own.1;rw[e2] at this;exact absurd (List.eq_nil_of_length_eq_zero (by omega)) hne
 ·rw[e1] at hP
  injection e1 with e1 e2 e3
  refine ⟨g,0,e1,hP g rfl,(Array.getElem?_eq_some_iff.1 h3).1,fun j u hu=>?_⟩
  rw[cell_of_row w g _ cur 54 (0,0) h3,Nat.zero_add]
  rw[←r4,List.getElem?_take] at hu
  split at hu
  ·simpa using hu
  ·cases hu
theorem Rv.keep {w w':World} {P:Nat→Prop} {a:Option Addr} {r:F} (h:Rv w P a r) (hs:w.heap.size≤w'.heap.size) (hb:∀g,P g→g<w.heap.size→w'.heap[g]?=w.heap[g]?):Rv w' P a r:=by
 obtain ⟨xs,hk,hx⟩:=h.ex
 refine ⟨xs,hk.keep fun g hg hl=>hb g hg hl,fun hne=>?_⟩
 obtain ⟨g,o,e,hP,hg,hc⟩:=hx hne
 exact ⟨g,o,e,hP,Nat.lt_of_lt_of_le hg hs,fun j u hu=>(World.cell?_of_block (hb g hP hg)).trans (hc j u hu)⟩
theorem Rv.cons {w:World} {P:Nat→Prop} {a:Option Addr} {k:Int} {t:List UInt8} {n p:Int} {ks r:F} (h:Rv w P a (.cons k t n p ks r)):∃g o a' c',a=some ⟨g,o,none⟩∧g<w.heap.size∧w.cell? ⟨g,o,none⟩=some (.int .i64 k)∧w.cell? ⟨g,o+1,none⟩=some (.string ⟨t.toArray⟩)∧w.cell? ⟨g,o+2,none⟩=some (.int .i64 n)∧w.cell? ⟨g,o+3,none⟩=some (.int .i64 p)∧w.cell? ⟨g,o+4,none⟩=some (.slice a' ks.len c')∧
 Rv w P a' ks∧Rv w P (some ⟨g,o+5,none⟩) r∧ks.len≤c'∧c'≤maxLen:=by
 obtain ⟨xs,hk,hx⟩:=h.ex
 cases hk with
 | @cons _ _ _ _ v xs' rest _ _ own hP hk hr=>
   obtain ⟨g,o,e,hPg,hg,hc⟩:=hx (by simp)
   have hs:∃a' c',v= .slice a' ks.len c'∧ks.len≤c'∧c'≤maxLen:=by
    rcases own.2 with ⟨rfl,e2⟩ | ⟨g',cap,cur,rfl,_,_,e4,e5,_⟩
    ·exact ⟨none,0,by rw[e2],by omega,Nat.zero_le _⟩
    ·exact ⟨_,_,rfl,e4,e5⟩
   obtain ⟨a',c',rfl,hcc⟩:=hs
   refine ⟨g,o,a',c',e,hg,hc 0 _ rfl,hc 1 _ rfl,hc 2 _ rfl,hc 3 _ rfl,hc 4 _ rfl,TN.rv (k:=k) (t:=t) (n:=n) (p:=p) ⟨.cons own hP hk .nil⟩,⟨rest,hr,fun _=>⟨g,o+5,rfl,hPg,hg,fun j u hu=>?_⟩⟩,hcc⟩
   have:=hc (j+5) u (by simpa using hu)
   rw[show o+5+j=o+(j+5) by omega]
   exact this
theorem Rv.nth {w:World} {P:Nat→Prop}:∀(r:F) (i:Nat) {a:Option Addr} {k:Int} {t:List UInt8} {n p:Int} {ks:F},Rv w P a r→r.get? i=some (k,t,n,p,ks)→∃g o a' c',a=some ⟨g,o,none⟩∧g<w.heap.size∧w.cell? ⟨g,o+i * 5,none⟩=some (.int .i64 k)∧w.cell? ⟨g,o+i * 5+1,none⟩=some (.string ⟨t.toArray⟩)∧w.cell? ⟨g,o+i * 5+2,none⟩=some (.int .i64 n)∧w.cell? ⟨g,o+i * 5+3,none⟩=some (.int .i64 p)∧w.cell? ⟨g,o+i * 5+4,none⟩=some (.slice a' ks.len c')∧Rv w P a' ks∧ks.len≤c'∧c'≤maxLen
 | .nil,i,_,_,_,_,_,_,_,h=>by simp[F.get?] at h
 | .cons k t n p ks r,0,_,_,_,_,_,_,hr,h=>by
   simp only[F.get?,Option.some.injEq,Prod.mk.injEq] at h
   obtain ⟨rfl,rfl,rfl,rfl,rfl⟩:=h
   obtain ⟨g,o,a',c',e,hg,c0,c1,c2,c3,c4,h1,_,h3⟩:=hr.cons
   exact ⟨g,o,a',c',e,hg,by simpa using c0,by simpa using c1,by simpa using c2,by simpa using c3,by simpa using c4,h1,h3⟩
 | .cons k t n p ks r,i+1,_,_,_,_,_,_,hr,h=>by
   obtain ⟨g,o,_,_,rfl,hg,_,_,_,_,_,_,h2,_⟩:=hr.cons
   obtain ⟨g',o',a',c',e,hg',c0,c1,c2,c3,c4,h1⟩:=Rv.nth r i h2 h
   injection e with e
   injection e with e1 e2
   subst e1 e2
   refine ⟨g,o,a',c',rfl,hg,?_,?_,?_,?_,?_,h1⟩
   ·rw[show o+(i+1) * 5=o+5+i * 5 by omega];exact c0
   ·rw[show o+(i+1) * 5=o+5+i * 5 by omega];exact c1
   ·rw[show o+(i+1) * 5=o+5+i * 5 by omega];exact c2
   ·rw[show o+(i+1) * 5=o+5+i * 5 by omega];exact c3
   ·rw[show o+(i+1) * 5=o+5+i * 5 by omega];exact c4
theorem Rv.nil {w:World} {P:Nat→Prop} (a:Option Addr):Rv w P a .nil:=⟨[],.nil,fun h=>absurd rfl h⟩
theorem Rv.drop {w:World} {P:Nat→Prop}:∀(r:F) (i:Nat) {g o:Nat},Rv w P (some ⟨g,o,none⟩) r→Rv w P (some ⟨g,o+i * 5,none⟩) (r.drop i)
 | r,0,_,_,h=>by simpa [F.drop] using (by cases r<;>exact h:Rv w P _ (r.drop 0))
 | .nil,i+1,_,_,_=>Rv.nil _
 | .cons k t n p ks r,i+1,g,o,h=>by
   obtain ⟨g',o',_,_,e,_,_,_,_,_,_,_,h2,_⟩:=h.cons
   injection e with e
   injection e with e1 e2
   subst e1 e2
   have:=Rv.drop r i h2
   rw[show o+(i+1) * 5=o+5+i * 5 by omega]
   exact this
theorem KF.take {w:World} {P:Nat→Prop}:∀(r:F) (i:Nat) {xs:List Value},KF 54 w P xs r→∃ys:List Value,KF 54 w P ys (r.take i)∧∀(j:Nat) (u:Value),ys[j]?=some u→xs[j]?=some u
 | .nil,i,_,h=>by
   cases h
   exact ⟨[],by cases i<;>exact .nil,fun j u hu=>by simp at hu⟩
 | .cons k t n p ks r,0,_,_=>⟨[],.nil,fun j u hu=>by simp at hu⟩
 | .cons k t n p ks r,i+1,_,h=>by
   cases h with
   | @cons _ _ _ _ v xs' rest _ _ own hP hk hr=>
     obtain ⟨ys,h1,h2⟩:=KF.take r i hr
     refine ⟨_,.cons own hP hk h1,fun j u hu=>?_⟩
     match j,hu with
     | 0,hu=>exact hu
     | 1,hu=>exact hu
     | 2,hu=>exact hu
     | 3,hu=>exact hu
     | 4,hu=>exact hu
     | j+5,hu=>simpa using h2 j u (by simpa using hu)
theorem Rv.take {w:World} {P:Nat→Prop} {a:Option Addr} {r:F} (h:Rv w P a r) (i:Nat):Rv w P a (r.take i):=by
 obtain ⟨xs,hk,hx⟩:=h.ex
 obtain ⟨ys,h1,h2⟩:=KF.take r i hk
 refine ⟨ys,h1,fun hne=>?_⟩
 have hxn:xs≠[]:=by
  rintro rfl
  cases ys with
  | nil=>exact hne rfl
  | cons y ys=>have:=h2 0 y rfl;simp at this
 obtain ⟨g,o,e,hP,hg,hc⟩:=hx hxn
 exact ⟨g,o,e,hP,hg,fun j u hu=>hc j u (h2 j u hu)⟩
end Go.Proofs.YtkjbgggghigapaaGreat


namespace Go.Proofs.YtkjbgggghigapaaGreat
open Go.RowKit
abbrev Tx:=List UInt8
abbrev Vl:=Int×Int×Tx
structure Fn where
 nm:Tx
 pl:Int
 pa:Int
 sl:Int
 cs:List Vl
structure Cs where
 fs:List Fn
 gl:List Tx
 nu:Nat
 lo:List Tx
 lp:Int
 ar:List Tx
 cd:Int
 ct:Int
def Cs.bad (s:Cs):Bool:=!(decide (s.cd=0) && decide (s.ct=0))
def fau (c a:Int) (s:Cs):Cs:=if s.bad=true then s else {s with cd:=c,ct:=a}
def lim (p n m:Int) (s:Cs):Cs:=if m<n then fau 6 p s else s
def kep (t:Tx):Bool:=decide (t=[116,97,98,108,101]) || decide (t=[117,116,102,56])
def unk (t:Tx) (p:Int) (s:Cs):Cs:=if kep t=true then fau 5 p s else s
def glo (t:Tx) (s:Cs):Cs:=if s.gl.contains t=true then s else {s with gl:=s.gl++[t]}
def conF (f:Fn) (v:Vl) (p:Int) (s:Cs):Cs:=if f.cs.contains v=true then s else lim p ((f.cs.length:Int)+1) 250 {s with fs:=s.fs.set s.nu {f with cs:=f.cs++[v]}}
def con (v:Vl) (p:Int) (s:Cs):Cs:=(s.fs[s.nu]?).elim s fun f=>conF f v p s
def ngl (t:Tx) (p:Int) (s:Cs):Cs:=glo t (if s.ar.contains t=true then fau 5 p s else s)
def nmC (t:Tx) (p:Int) (s:Cs):Cs:=if s.lo.contains t=true then unk t p s else ngl t p (unk t p s)
def brN:F→Cs→Cs
 | .nil,s=>s
 | .cons _ t _ p _ r,s=>brN r {unk t p s with lo:=s.lo++[t]}
def slo (s:Cs):Cs:=(s.fs[s.nu]?).elim s fun f=>{s with fs:=s.fs.set s.nu {f with sl:=max f.sl (s.lo.length:Int)}}
def bri (p:Int) (r:F) (s:Cs):Cs:=slo (lim p ((brN r s).lo.length:Int) 60 (brN r s))
def ixk (k:Int) (ks:F):Bool:=decide (k=7) && (ks.get? 0).elim false fun x=>decide (x.1=6) && kep x.2.1
def libL:List (Tx×Int):=
 [([112,114,105,110,116],1),([116,121,112,101],2),([116,111,115,116,114,105,110,103],3),([116,111,110,117,109,98,101,114],4),([110,101,120,116],5),([112,97,105,114,115],6),([105,112,97,105,114,115],7),([114,97,119,108,101,110],8),([115,116,97,116,115],9),([112,114,111,98,101,115],10),
  ([116,97,98,108,101,46,105,110,115,101,114,116],12),([116,97,98,108,101,46,114,101,109,111,118,101],13),([116,97,98,108,101,46,99,111,110,99,97,116],14),([116,97,98,108,101,46,117,110,112,97,99,107],15),([116,97,98,108,101,46,109,111,118,101],16),([116,97,98,108,101,46,115,111,114,116],17),
  ([117,116,102,56,46,108,101,110],18),([117,116,102,56,46,99,104,97,114],19),([117,116,102,56,46,99,111,100,101,112,111,105,110,116],20),([117,116,102,56,46,111,102,102,115,101,116],21),([117,116,102,56,46,99,111,100,101,115],22)]
def libG:List (Tx×Int)→Tx→Int
 | [],_=>0
 | x::l,t=>if t=x.1 then x.2 else libG l t
def libN (t:Tx):Int:=libG libL t
abbrev Ndc:=Int→Tx→Int→Int→F→Cs→Cs
section
variable (nd:Ndc)
def ckN:F→Cs→Cs
 | .nil,s=>s
 | .cons k t n p ks r,s=>ckN r (nd k t n p ks s)
def ckA (n:Int):Int→F→Cs→Cs
 | _,.nil,s=>s
 | i,.cons k t m p ks r,s=>ckA n (i+1) r (nd k t m p ks (if decide (i<n) && ixk k ks then fau 5 p s else s))
def ndG (ks:F) (i:Nat) (s:Cs):Cs:=(ks.get? i).elim s fun x=>nd x.1 x.2.1 x.2.2.1 x.2.2.2.1 x.2.2.2.2 s
def lopB (p:Int) (ks:F) (m:Nat) (s:Cs):Cs:=
 let s3:=bri p (ks.take m) {s with lo:=s.lo++[[],[],[]]}
 let s5:=ndG nd ks (ks.len - 1) {s3 with lp:=s3.lp+1}
 {s5 with lp:=s5.lp - 1,lo:=s5.lo.take s.lo.length}
def lopC (p:Int) (ks:F) (m:Nat) (s:Cs):Cs:=lopB nd p ks m (ckN nd ((ks.take (ks.len - 1)).drop m) s)
def fncH (t:Tx) (n p:Int) (s:Cs):Cs:=glo t (lim p n 50 (unk t p (lim p (s.fs.length:Int) 100 s)))
def fncB (t:Tx) (n p:Int) (ks:F) (m:Nat) (s:Cs):Cs:=
 let s7:=bri p (ks.take m) {s with fs:=s.fs++[⟨t,p,n,0,[]⟩],nu:=s.fs.length,lo:=[],lp:=0,ar:=s.lo}
 {ndG nd ks m s7 with nu:=s.nu,lo:=s.lo,lp:=s.lp,ar:=[]}
def blkC (ks:F) (s:Cs):Cs:={ckN nd ks s with lo:=(ckN nd ks s).lo.take s.lo.length}
def ckX (k:Int) (t:Tx) (n p:Int) (ks:F) (s:Cs):Cs:=
 if k=20 then blkC nd ks s
 else if k=21 then bri p (ks.take n.toNat) (ckN nd (ks.drop n.toNat) (lim p ((ks.len:Int) - n) 50 (lim p n 50 s)))
 else if k=22 then ckA nd n 0 ks (lim p ((ks.len:Int) - n) 50 (lim p n 50 s))
 else if k=25 then {ckN nd ks {s with lp:=s.lp+1} with lp:=(ckN nd ks {s with lp:=s.lp+1}).lp - 1}
 else if k=26 then lopC nd p ks 1 s
 else if k=27 then lopC nd p ks n.toNat (lim p ((ks.len:Int) - n - 1) 50 (lim p n 50 s))
 else if k=29 then (if s.lp=0 then fau 5 p s else s)
 else if k=30 then ckN nd ks (lim p (ks.len:Int) 50 s)
 else if k=31 then fncB nd t n p ks n.toNat (fncH t n p s)
 else ckN nd ks s
def ckI (p:Int) (ks:F) (s:Cs):Cs:=
 if ixk 7 ks=true then (ks.get? 0).elim s fun x=>(ks.get? 1).elim s fun y=>if (!decide (y.1=5) || decide (libN (x.2.1++[46]++y.2.1)=0))=true then fau 5 p s else s
 else ckN nd ks s
def ckS (k:Int) (t:Tx) (n p:Int) (ks:F) (s:Cs):Cs:=
 if s.bad=true then s
 else if k=4 then con (2,n,[]) p s
 else if k=5 then con (3,0,t) p s
 else if k=6 then nmC t p s
 else if k=7 then ckI nd p ks s
 else if k=8 then ckN nd ks (lim p ((ks.len:Int) - 1) 50 s)
 else if k=12 then ckN nd ks (lim p (ks.len:Int) 200 s)
 else ckX nd k t n p ks s
end
def ck:Nat→Ndc
 | 0=>fun _ _ _ _ _ s=>s
 | N+1=>ckS (ck N)
def arC (k n:Int) (l:Nat):Bool:=
 if k=7∨k=26 then decide (2≤l)
 else if k=21∨k=22 then decide (0≤n∧n≤l)
 else if k=27∨k=31 then decide (0≤n∧n+1≤l)
 else true
def F.wfC:F→Bool
 | .nil=>true
 | .cons k t n _ ks r=>arC k n ks.len && decide (t.length≤20000) && ks.wfC && r.wfC
theorem F.wfC_cons {k:Int} {t:Tx} {n p:Int} {ks r:F} (h:(F.cons k t n p ks r).wfC=true):(one k t n p ks).wfC=true∧r.wfC=true:=by
 simp only[F.wfC,one,Bool.and_eq_true] at h⊢
 exact ⟨⟨⟨h.1.1,h.1.2⟩,trivial⟩,h.2⟩
theorem F.wfC_one {k:Int} {t:Tx} {n p:Int} {ks:F} (h:(one k t n p ks).wfC=true):arC k n ks.len=true∧t.length≤20000∧ks.wfC=true:=by
 simp only[F.wfC,one,Bool.and_eq_true,decide_eq_true_eq] at h
 exact ⟨h.1.1.1,h.1.1.2,h.1.2⟩
theorem F.wfC_get:∀(f:F) (i:Nat) {k:Int} {t:Tx} {n p:Int} {ks:F},f.wfC=true→f.get? i=some (k,t,n,p,ks)→(one k t n p ks).wfC=true
 | .nil,i,_,_,_,_,_,_,h=>by simp[F.get?] at h
 | .cons k t n p ks r,0,_,_,_,_,_,ho,h=>by
   simp only[F.get?,Option.some.injEq,Prod.mk.injEq] at h
   obtain ⟨rfl,rfl,rfl,rfl,rfl⟩:=h
   exact (F.wfC_cons ho).1
 | .cons k t n p ks r,i+1,_,_,_,_,_,ho,h=>F.wfC_get r i (F.wfC_cons ho).2 h
theorem F.wfC_take:∀(f:F) (i:Nat),f.wfC=true→(f.take i).wfC=true
 | .nil,i,_=>by cases i<;>rfl
 | .cons _ _ _ _ _ _,0,_=>rfl
 | .cons k t n p ks r,i+1,h=>by
   simp only[F.wfC,F.take,Bool.and_eq_true] at h⊢
   exact ⟨h.1,F.wfC_take r i h.2⟩
theorem F.wfC_drop:∀(f:F) (i:Nat),f.wfC=true→(f.drop i).wfC=true
 | f,0,h=>by cases f<;>exact h
 | .nil,i+1,_=>rfl
 | .cons k t n p ks r,i+1,h=>F.wfC_drop r i (F.wfC_cons h).2
theorem F.td_siz:∀(f:F) (i:Nat),(f.take i).siz+(f.drop i).siz=f.siz
 | .nil,i=>by cases i<;>rfl
 | .cons k t n p ks r,0=>by simp[F.take,F.drop,F.siz]
 | .cons k t n p ks r,i+1=>by have:=F.td_siz r i;simp only[F.take,F.drop,F.siz];omega
theorem F.get_drop:∀(f:F) (i:Nat) {k:Int} {t:Tx} {n p:Int} {ks:F},f.get? i=some (k,t,n,p,ks)→ks.siz+1≤(f.drop i).siz
 | .nil,i,_,_,_,_,_,h=>by simp[F.get?] at h
 | .cons k t n p ks r,0,_,_,_,_,_,h=>by
   simp only[F.get?,Option.some.injEq,Prod.mk.injEq] at h
   obtain ⟨rfl,rfl,rfl,rfl,rfl⟩:=h
   simp only[F.drop,F.siz];omega
 | .cons k t n p ks r,i+1,_,_,_,_,_,h=>F.get_drop r i h
theorem F.take_take:∀(f:F) (i j:Nat),i≤j→(f.take j).take i=f.take i
 | .nil,i,j,_=>by cases i<;>cases j<;>rfl
 | .cons _ _ _ _ _ _,0,0,_=>rfl
 | .cons _ _ _ _ _ _,0,j+1,_=>rfl
 | .cons k t n p ks r,i+1,j+1,h=>by simp only[F.take,F.take_take r i j (by omega)]
theorem F.drop_zero:∀(f:F) (i:Nat),f.len≤i→(f.drop i).siz=0
 | .nil,i,_=>by cases i<;>rfl
 | .cons k t n p ks r,0,h=>by simp[F.len] at h
 | .cons k t n p ks r,i+1,h=>F.drop_zero r i (by simp only[F.len] at h;omega)
theorem F.take_le:∀(f:F) (i:Nat),(f.take i).len≤f.len
 | .nil,i=>by cases i<;>exact Nat.le_refl _
 | .cons _ _ _ _ _ _,0=>Nat.zero_le _
 | .cons k t n p ks r,i+1=>by have:=F.take_le r i;simp only[F.take,F.len];omega
def csS (l:List Fn):Nat:=(l.map fun f=>f.cs.length).sum
def Cs.wt (s:Cs):Nat:=s.gl.length+s.lo.length+s.fs.length+csS s.fs
structure Gd (z:Nat) (s s':Cs):Prop where
 nu:s'.nu=s.nu
 lp:s'.lp=s.lp
 fs:s.fs.length≤s'.fs.length
 lo:s.lo.length≤s'.lo.length
 wt:s'.wt≤s.wt+4 * z
theorem Gd.refl (z:Nat) (s:Cs):Gd z s s:=⟨rfl,rfl,Nat.le_refl _,Nat.le_refl _,by omega⟩
theorem Gd.trans {y z:Nat} {a b c:Cs} (h:Gd y a b) (k:Gd z b c):Gd (y+z) a c:=⟨k.nu.trans h.nu,k.lp.trans h.lp,Nat.le_trans h.fs k.fs,Nat.le_trans h.lo k.lo,by have:=h.wt;have:=k.wt;omega⟩
theorem Gd.mono {y z:Nat} {a b:Cs} (h:Gd y a b) (k:y≤z):Gd z a b:=⟨h.nu,h.lp,h.fs,h.lo,by have:=h.wt;omega⟩
theorem gd_fau (c a:Int) (s:Cs):Gd 0 s (fau c a s):=by
 unfold fau;split
 ·exact .refl _ _
 ·exact ⟨rfl,rfl,Nat.le_refl _,Nat.le_refl _,Nat.le_refl _⟩
theorem gd_lim (p n m:Int) (s:Cs):Gd 0 s (lim p n m s):=by
 unfold lim;split
 ·exact gd_fau _ _ _
 ·exact .refl _ _
theorem gd_unk (t:Tx) (p:Int) (s:Cs):Gd 0 s (unk t p s):=by
 unfold unk;split
 ·exact gd_fau _ _ _
 ·exact .refl _ _
theorem lo_fau (c a:Int) (s:Cs):(fau c a s).lo=s.lo:=by unfold fau;split<;>rfl
theorem lo_unk (t:Tx) (p:Int) (s:Cs):(unk t p s).lo=s.lo:=by
 unfold unk;split
 ·exact lo_fau _ _ _
 ·rfl
theorem lo_lim (p n m:Int) (s:Cs):(lim p n m s).lo=s.lo:=by
 unfold lim;split
 ·exact lo_fau _ _ _
 ·rfl
theorem gd_glo (t:Tx) (s:Cs):Gd 1 s (glo t s):=by
 unfold glo;split
 ·exact .refl _ _
 ·exact ⟨rfl,rfl,Nat.le_refl _,Nat.le_refl _,by simp only[Cs.wt,List.length_append,List.length_singleton];omega⟩
theorem lo_glo (t:Tx) (s:Cs):(glo t s).lo=s.lo:=by unfold glo;split<;>rfl
theorem wt_glo (t:Tx) (s:Cs):(glo t s).wt≤s.wt+1:=by
 unfold glo;split
 ·omega
 ·simp only[Cs.wt,List.length_append,List.length_singleton];omega
theorem wt_fncH (t:Tx) (n p:Int) (s:Cs):(fncH t n p s).wt≤s.wt+1:=by
 have h:=(((gd_lim p (s.fs.length:Int) 100 s).trans (gd_unk t p _)).trans (gd_lim p n 50 _)).wt
 have:=wt_glo t (lim p n 50 (unk t p (lim p (s.fs.length:Int) 100 s)))
 unfold fncH
 omega
theorem csS_set:∀(l:List Fn) (i:Nat) (f g:Fn),l[i]?=some f→csS (l.set i g)+f.cs.length=csS l+g.cs.length
 | [],i,f,g,h=>by simp at h
 | x::l,0,f,g,h=>by simp at h;subst h;simp[csS];omega
 | x::l,i+1,f,g,h=>by have:=csS_set l i f g (by simpa using h);simp[csS] at this⊢;omega
theorem gd_con (v:Vl) (p:Int) (s:Cs):Gd 1 s (con v p s):=by
 unfold con
 cases hf:s.fs[s.nu]? with
 | none=>exact .refl _ _
 | some f=>
   show Gd 1 s (conF f v p s)
   unfold conF;split
   ·exact .refl _ _
   ·refine (Gd.trans (y:=1) ?_ (gd_lim _ _ _ _)).mono (by omega)
    have h:=csS_set s.fs s.nu f {f with cs:=f.cs++[v]} hf
    simp only[List.length_append,List.length_singleton] at h
    exact ⟨rfl,rfl,by simp,Nat.le_refl _,by simp only[Cs.wt,List.length_set];omega⟩
theorem gd_ngl (t:Tx) (p:Int) (s:Cs):Gd 1 s (ngl t p s):=by
 unfold ngl
 split
 ·exact ((gd_fau _ _ _).trans (gd_glo _ _)).mono (by omega)
 ·exact gd_glo _ _
theorem gd_nmC (t:Tx) (p:Int) (s:Cs):Gd 1 s (nmC t p s):=by
 unfold nmC
 split
 ·exact (gd_unk _ _ _).mono (by omega)
 ·exact ((gd_unk _ _ _).trans (gd_ngl _ _ _)).mono (by omega)
theorem gd_brN:∀(r:F) (s:Cs),Gd r.len s (brN r s)
 | .nil,s=>.refl _ _
 | .cons k t n p ks r,s=>by
   have h:=gd_unk t p s
   have h1:Gd 1 s {unk t p s with lo:=s.lo++[t]}:=⟨h.nu,h.lp,h.fs,by simp,by have w:=h.wt;simp only[Cs.wt,lo_unk] at w;simp only[Cs.wt,List.length_append,List.length_singleton];omega⟩
   exact (h1.trans (gd_brN r _)).mono (by simp only[F.len];omega)
theorem brN_lo:∀(r:F) (s:Cs),(brN r s).lo.length=s.lo.length+r.len
 | .nil,s=>rfl
 | .cons k t n p ks r,s=>by
   show (brN r {unk t p s with lo:=s.lo++[t]}).lo.length=_
   rw[brN_lo r];simp only[F.len,List.length_append,List.length_singleton];omega
theorem gd_slo (s:Cs):Gd 0 s (slo s):=by
 unfold slo
 cases hf:s.fs[s.nu]? with
 | none=>exact .refl _ _
 | some f=>
   have h:=csS_set s.fs s.nu f {f with sl:=max f.sl (s.lo.length:Int)} hf
   simp only at h
   exact ⟨rfl,rfl,by simp,Nat.le_refl _,by simp only[Cs.wt,Option.elim,List.length_set];omega⟩
theorem gd_bri (p:Int) (r:F) (s:Cs):Gd r.len s (bri p r s):=(((gd_brN r s).trans (gd_lim _ _ _ _)).trans (gd_slo _)).mono (by omega)
theorem bri_lo (p:Int) (r:F) (s:Cs):(bri p r s).lo.length=s.lo.length+r.len:=by
 have h:∀s:Cs,(slo s).lo=s.lo:=fun s=>by unfold slo;cases s.fs[s.nu]?<;>rfl
 unfold bri
 rw[h,lo_lim,brN_lo]
theorem wt_brN:∀(r:F) (s:Cs),(brN r s).wt≤s.wt+r.len
 | .nil,s=>Nat.le_refl _
 | .cons k t n p ks r,s=>by
   have w:=(gd_unk t p s).wt
   have i:=wt_brN r {unk t p s with lo:=s.lo++[t]}
   simp only[Cs.wt,lo_unk] at w
   show (brN r {unk t p s with lo:=s.lo++[t]}).wt≤_
   simp only[Cs.wt,List.length_append,List.length_singleton,F.len] at i⊢
   omega
theorem wt_bri (p:Int) (r:F) (s:Cs):(bri p r s).wt≤s.wt+r.len:=by
 have h1:=wt_brN r s
 have h2:=(gd_lim p ((brN r s).lo.length:Int) 60 (brN r s)).wt
 have h3:=(gd_slo (lim p ((brN r s).lo.length:Int) 60 (brN r s))).wt
 unfold bri
 omega
section
variable {nd:Ndc} (H:∀k t n p ks s,Gd (ks.siz+1) s (nd k t n p ks s))
include H
theorem gd_ckN:∀(r:F) (s:Cs),Gd r.siz s (ckN nd r s)
 | .nil,s=>.refl _ _
 | .cons k t n p ks r,s=>((H k t n p ks s).trans (gd_ckN r _)).mono (by simp only[F.siz];omega)
theorem gd_ckA (n:Int):∀(r:F) (i:Int) (s:Cs),Gd r.siz s (ckA nd n i r s)
 | .nil,i,s=>.refl _ _
 | .cons k t m p ks r,i,s=>by
   have h:Gd 0 s (if decide (i<n) && ixk k ks then fau 5 p s else s):=by
    split
    ·exact gd_fau _ _ _
    ·exact .refl _ _
   exact ((h.trans (H k t m p ks _)).trans (gd_ckA n r (i+1) _)).mono (by simp only[F.siz];omega)
theorem gd_ndG (ks:F) (i:Nat) (s:Cs):Gd (ks.drop i).siz s (ndG nd ks i s):=by
 unfold ndG
 cases h:ks.get? i with
 | none=>exact .refl _ _
 | some x=>
   obtain ⟨k,t,n,p,f⟩:=x
   exact (H k t n p f s).mono (F.get_drop ks i h)
theorem gd_lopC (p:Int) (ks:F) (m:Nat) (s:Cs):Gd (ks.siz+1) s (lopC nd p ks m s):=by
 have h1:=gd_ckN H ((ks.take (ks.len - 1)).drop m) s
 unfold lopC
 generalize ckN nd ((ks.take (ks.len - 1)).drop m) s=s1 at h1⊢
 have h3:=gd_bri p (ks.take m) {s1 with lo:=s1.lo++[[],[],[]]}
 have l3:=bri_lo p (ks.take m) {s1 with lo:=s1.lo++[[],[],[]]}
 have w3:=wt_bri p (ks.take m) {s1 with lo:=s1.lo++[[],[],[]]}
 unfold lopB
 generalize bri p (ks.take m) {s1 with lo:=s1.lo++[[],[],[]]}=s3 at h3 l3 w3⊢
 have h5:=gd_ndG H ks (ks.len - 1) {s3 with lp:=s3.lp+1}
 simp only
 generalize ndG nd ks (ks.len - 1) {s3 with lp:=s3.lp+1}=s5 at h5⊢
 have z1:=F.td_siz ks (ks.len - 1)
 have z2:(ks.take m).len+4 * ((ks.take (ks.len - 1)).drop m).siz≤4 * (ks.take (ks.len - 1)).siz+1:=by
  by_cases hm:m+1≤ks.len
  ·have z2:=F.td_siz (ks.take (ks.len - 1)) m
   rw[F.take_take ks m (ks.len - 1) (by omega)] at z2
   have z3:=(ks.take m).len_siz
   omega
  ·have e1:=F.take_len ks (ks.len - 1) (by omega)
   have e2:=F.drop_zero (ks.take (ks.len - 1)) m (by omega)
   have e3:=(ks.take (ks.len - 1)).len_siz
   have e4:=F.take_le ks m
   omega
 have w1:=h1.wt
 have w5:=h5.wt
 have e5:=h5.lo
 have n1:=h1.nu
 have n3:=h3.nu
 have n5:=h5.nu
 have q1:=h1.lp
 have q3:=h3.lp
 have q5:=h5.lp
 have f1:=h1.fs
 have f3:=h3.fs
 have f5:=h5.fs
 have e1:=h1.lo
 simp only[Cs.wt,List.length_append,List.length_cons,List.length_nil] at w1 w3 w5 e5 n1 n3 n5 q1 q3 q5 f1 f3 f5 e1 l3
 have l5:(s5.lo.take s1.lo.length).length=s1.lo.length:=by rw[List.length_take];omega
 refine ⟨?_,?_,?_,?_,?_⟩
 ·show s5.nu=s.nu
  omega
 ·show s5.lp - 1=s.lp
  omega
 ·show s.fs.length≤s5.fs.length
  omega
 ·show s.lo.length≤(s5.lo.take s1.lo.length).length
  omega
 ·show s5.gl.length+(s5.lo.take s1.lo.length).length+s5.fs.length+csS s5.fs≤s.gl.length+s.lo.length+s.fs.length+csS s.fs+4 * (ks.siz+1)
  omega
theorem gd_fncB (t:Tx) (n p:Int) (ks:F) (m:Nat) (s:Cs):s.fs.length≤(fncB nd t n p ks m s).fs.length∧(fncB nd t n p ks m s).wt≤s.wt+4 * ks.siz+1:=by
 have h3:=gd_bri p (ks.take m) {s with fs:=s.fs++[⟨t,p,n,0,[]⟩],nu:=s.fs.length,lo:=[],lp:=0,ar:=s.lo}
 unfold fncB
 generalize bri p (ks.take m) {s with fs:=s.fs++[⟨t,p,n,0,[]⟩],nu:=s.fs.length,lo:=[],lp:=0,ar:=s.lo}=s3 at h3⊢
 have h5:=gd_ndG H ks m s3
 simp only
 generalize ndG nd ks m s3=s5 at h5⊢
 have z1:=F.td_siz ks m
 have z3:=(ks.take m).len_siz
 have w3:=h3.wt
 have w5:=h5.wt
 have f3:=h3.fs
 have f5:=h5.fs
 have hc:csS (s.fs++[⟨t,p,n,0,[]⟩])=csS s.fs:=by simp[csS]
 simp only[Cs.wt,List.length_append,List.length_cons,List.length_nil,hc] at *
 exact ⟨by omega,by omega⟩
theorem gd_ckS (k:Int) (t:Tx) (n p:Int) (ks:F) (s:Cs):Gd (ks.siz+1) s (ckS nd k t n p ks s):=by
 have L:=fun (n m:Int) (s:Cs)=>gd_lim p n m s
 unfold ckS
 split
 ·exact .refl _ _
 split
 ·exact (gd_con _ _ _).mono (by omega)
 split
 ·exact (gd_con _ _ _).mono (by omega)
 split
 ·exact (gd_nmC _ _ _).mono (by omega)
 split
 ·unfold ckI;split
  ·cases ks.get? 0 with
   | none=>exact .refl _ _
   | some x=>
     cases ks.get? 1 with
     | none=>exact .refl _ _
     | some y=>
       simp only[Option.elim]
       split
       ·exact (gd_fau _ _ _).mono (by omega)
       ·exact .refl _ _
  ·exact (gd_ckN H _ _).mono (by omega)
 split
 ·exact ((L _ _ _).trans (gd_ckN H _ _)).mono (by omega)
 split
 ·exact ((L _ _ _).trans (gd_ckN H _ _)).mono (by omega)
 unfold ckX
 split
 ·have h:=gd_ckN H ks s
  have w:=h.wt
  have e:=h.lo
  unfold blkC
  refine ⟨h.nu,h.lp,h.fs,?_,?_⟩
  ·simp only[List.length_take];omega
  ·simp only[Cs.wt,List.length_take] at *;omega
 split
 ·have z:=F.td_siz ks n.toNat
  have z3:=(ks.take n.toNat).len_siz
  exact ((((L _ _ _).trans (L _ _ _)).trans (gd_ckN H _ _)).trans (gd_bri _ _ _)).mono (by omega)
 split
 ·exact (((L _ _ _).trans (L _ _ _)).trans (gd_ckA H _ _ _ _)).mono (by omega)
 split
 ·have h:=gd_ckN H ks {s with lp:=s.lp+1}
  have w:=h.wt
  have q:=h.lp
  refine ⟨h.nu,?_,h.fs,h.lo,?_⟩
  ·simp only at q⊢;omega
  ·simp only[Cs.wt] at *;omega
 split
 ·next h=>subst h;exact gd_lopC H p ks 1 s
 split
 ·next h=>subst h;exact ((L _ _ _).trans ((L _ _ _).trans (gd_lopC H p ks n.toNat _))).mono (by omega)
 split
 ·split
  ·exact (gd_fau _ _ _).mono (by omega)
  ·exact .refl _ _
 split
 ·exact ((L _ _ _).trans (gd_ckN H _ _)).mono (by omega)
 split
 ·next h=>
  subst h
  have h1:Gd _ s (fncH t n p s):=((((L (s.fs.length:Int) 100 s).trans (gd_unk t p _)).trans (L n 50 _)).trans (gd_glo t _))
  have h2:=gd_fncB H t n p ks n.toNat (fncH t n p s)
  have f1:=h1.fs
  have l1:(fncH t n p s).lo=s.lo:=by unfold fncH;rw[lo_glo,lo_lim,lo_unk,lo_lim]
  have w1:(fncH t n p s).wt≤s.wt+1:=wt_fncH t n p s
  refine ⟨h1.nu,h1.lp,Nat.le_trans f1 h2.1,?_,by have:=h2.2;omega⟩
  show s.lo.length≤(fncH t n p s).lo.length
  rw[l1];exact Nat.le_refl _
 ·exact (gd_ckN H _ _).mono (by omega)
end
theorem gd_ck:∀(N:Nat) (k:Int) (t:Tx) (n p:Int) (ks:F) (s:Cs),Gd (ks.siz+1) s (ck N k t n p ks s)
 | 0,_,_,_,_,_,_=>.refl _ _
 | N+1,k,t,n,p,ks,s=>gd_ckS (gd_ck N) k t n p ks s
end Go.Proofs.YtkjbgggghigapaaGreat
