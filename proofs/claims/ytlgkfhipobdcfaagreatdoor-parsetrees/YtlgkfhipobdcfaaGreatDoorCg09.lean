import Derived.Test.YtlgkfhipobdcfaaGreatDoorCg08
import Derived.Deep.AppendLies
import Derived.Test.YtlgkfhipobdcfaaGreatDoorCg03
import Derived.Test.YtlgkfhipobdcfaaGreatDoorCg07
import Derived.Laws.StructEq
namespace Go.Proofs.YtlgkfhipobdcfaaGreatDoor
open Go.RowKit
def PN (b m : Nat) (T : List Tok) (W : World) : PR → Ending → World → Prop
  | .ok f l,e,W'=>∃ k t n p a c ks,f = one k t n p ks ∧ e = .returned (.agg #[.int .i64 (k),.string ⟨(t).toArray⟩,.int .i64 (n),.int .i64 (p),.slice a ks.len c]) ∧ TN 24 W' (fun g=>W.heap.size ≤ g) k t n p (.slice a ks.len c) ks ∧ Tk b m T l W W'
  | .bad p,e,W'=>e = refp p ∧ Ky (fun k=>k = b) W W'
  | .out,_,_=>False
def PL (b m : Nat) (T : List Tok) (W : World) (P : Nat → Prop) (v : Value) : PR → Ending → World → Prop
  | .ok f l,e,W'=>∃ a c,e = .returned (.slice a f.len c) ∧ KL 24 P W' (.slice a f.len c) f ∧ PS b m T l W' ∧ Ky (fun k=>k = b ∨ some k = v.ownBlock) W W'
  | .bad p,e,W'=>e = refp p ∧ Ky (fun k=>k = b ∨ some k = v.ownBlock) W W'
  | .out,_,_=>False
structure Row (b m : Nat) (T l : List Tok) (W : World) (P : Nat → Prop) (a : Option Addr) (c : Nat) (f : F) : Prop where
  ps : PS b m T l W
  kl : KL 24 P W (.slice a f.len c) f
  lo : ∀ x,x < m → ¬ P x
  hi : ∀ x,W.heap.size ≤ x → P x
  few : f.len + l.length ≤ T.length
structure CC (n : Nat) : Prop where
  blk : ∀ (c : Bool) (b m : Nat) (T l : List Tok) (W : World),PS b m T l W → pr n (.blk c) l ≠ .out → Calls Tryz.prog 32 #[.pointer (some ⟨b,0,none⟩),.bool c] W (PN b m T W (pr n (.blk c) l))
  stat : ∀ (b m : Nat) (T l : List Tok) (W : World),PS b m T l W → pr n .stat l ≠ .out → Calls Tryz.prog 67 #[.pointer (some ⟨b,0,none⟩)] W (PN b m T W (pr n .stat l))
  ex : ∀ (a : Nat) (b m : Nat) (T l : List Tok) (W : World),PS b m T l W → pr n (.ex a) l ≠ .out → Calls Tryz.prog 127 #[.pointer (some ⟨b,0,none⟩),.int .i64 a] W (PN b m T W (pr n (.ex a) l))
  opd : ∀ (b m : Nat) (T l : List Tok) (W : World),PS b m T l W → pr n .opd l ≠ .out → Calls Tryz.prog 139 #[.pointer (some ⟨b,0,none⟩)] W (PN b m T W (pr n .opd l))
  suf : ∀ (b m : Nat) (T l : List Tok) (W : World),PS b m T l W → pr n .suf l ≠ .out → Calls Tryz.prog 130 #[.pointer (some ⟨b,0,none⟩)] W (PN b m T W (pr n .suf l))
  fld : ∀ (b m : Nat) (T l : List Tok) (W : World),PS b m T l W → pr n .fld l ≠ .out → Calls Tryz.prog 159 #[.pointer (some ⟨b,0,none⟩)] W (PN b m T W (pr n .fld l))
  lst : ∀ (b m : Nat) (T l : List Tok) (W : World) (P : Nat → Prop) (a : Option Addr) (c : Nat) (f : F),Row b m T l W P a c f → pr n (.lst f) l ≠ .out → Calls Tryz.prog 96 #[.pointer (some ⟨b,0,none⟩),.slice a f.len c] W (PL b m T W P (.slice a f.len c) (pr n (.lst f) l))
  nms : ∀ (b m : Nat) (T l : List Tok) (W : World) (P : Nat → Prop) (a : Option Addr) (c : Nat) (f : F),Row b m T l W P a c f → pr n (.nms f) l ≠ .out → Calls Tryz.prog 99 #[.pointer (some ⟨b,0,none⟩),.slice a f.len c] W (PL b m T W P (.slice a f.len c) (pr n (.nms f) l))
theorem info24 : (Tryz.prog.info? 24).map (fun i=>(i.zero,i.size,i.bytes)) = some (some (.agg #[.int .i64 0,.string ⟨#[]⟩,.int .i64 0,.int .i64 0,.slice none 0 0]),5,64):=by kernel_rfl
theorem step_goP {ops : Array Oper} {o : Oper} {ac : Act} {K : Act → World → Prop} {Q : Exit → Act → World → Prop} {E : Prop} {W : World} (hgd : o.guard = none) (f : FuncId) (xs : Array Operand) (ats : Array TypeId)
    (ho : o.op = .call { callee:=.value (.func f),args:=xs,argTypes:=ats }) (args : Array Value) (hx : #[] ++ xs.map ac.eval ++ #[] = args) (eg : ∀ args w,(callFunc f args).run Tryz.prog w = .ok (.enter f args) w)
    {R : Ending → World → Prop} (C : Calls Tryz.prog f args W R) (hK : ∀ e w',R e w' → (∃ v,e = .returned v ∧ K (ac.put o.dst v) w') ∨ (∃ c,e = .panicked c ∧ Q (.panic c) ac w')) :
    if Region.wanted o (yielded ops ac.tmps) = true then Oper.wp Tryz.prog o ac W K Q else E:=by
  have hw : Region.wanted o (yielded ops ac.tmps) = true:=by simp [Region.wanted,hgd]
  rw [if_pos hw]
  obtain ⟨dst,op,ty,pos,after,guard⟩:=o
  simp only at ho
  subst ho
  unfold Oper.wp
  rw [execOp_call_go,hx,eg,Oper.upon_enter]
  refine C.mono fun e w' h=>?_
  rcases hK e w' h with ⟨v,rfl,h'⟩ | ⟨c,rfl,h'⟩
  · exact h'
  · exact h'
theorem Ky.onto {S S' : Nat → Prop} {x y z : World} (h : Ky S x y) (k : Ky S' y z) (hs : ∀ i,i < x.heap.size → S' i → S i) : Ky S x z :=
  ⟨k.os.trans h.os,k.tape.trans h.tape,k.output.trans h.output,Nat.le_trans h.size k.size,fun i hi hn=>(k.block i (Nat.lt_of_lt_of_le hi h.size) fun e=>hn (hs i hi e)).trans (h.block i hi hn)⟩
def OB (W : World) (v : Value) (a : Option Addr) : Prop:=∀ x,a = some x → some x.block = v.ownBlock ∨ W.heap.size ≤ x.block
theorem OB.refl (W : World) (a : Option Addr) (n c : Nat) : OB W (.slice a n c) a:=by
  intro x e;subst e;exact .inl rfl
theorem OB.ky {W w w2 : World} {v : Value} {a : Option Addr} {b n c : Nat} (h : OB W v a) (k : Ky (fun k=>k = b ∨ some k = v.ownBlock) W w) (k2 : Ky (fun k=>k = b ∨ some k = Value.ownBlock (.slice a n c)) w w2) : Ky (fun k=>k = b ∨ some k = v.ownBlock) W w2:=by
  refine k.onto k2 fun i hi e=>?_
  rcases e with e | e
  · exact .inl e
  · cases a with
    | none=>cases e
    | some x =>
      have e1 : i = x.block:=by simpa [Value.ownBlock] using e
      rcases h x rfl with h | h
      · exact .inr (by rw [e1];exact h)
      · omega
theorem OB.app {W w : World} {v : Value} {a : Option Addr} {n c g : Nat} (h : OB W v a) (hz : W.heap.size ≤ w.heap.size) (hat : Value.ownBlock (.slice a n c) = some g ∨ w.heap.size ≤ g) : OB W v (some ⟨g,0,none⟩):=by
  intro x e
  obtain rfl : (⟨g,0,none⟩ : Addr) = x:=by simpa using e
  rcases hat with hat | hat
  · cases a with
    | none=>cases hat
    | some y =>
      have e1 : y.block = g:=by simpa [Value.ownBlock] using hat
      rcases h y rfl with h | h
      · exact .inl (by rw [← h,e1])
      · exact .inr (by show W.heap.size ≤ g;omega)
  · exact .inr (by show W.heap.size ≤ g;omega)
theorem Row.snoc {b m : Nat} {T l l' : List Tok} {W w1 w2 : World} {P : Nat → Prop} {a a' : Option Addr} {c c' cc : Nat} {f ks : F} {k : Int} {t : List UInt8} {n p : Int} {g : Nat} {o : Obj} {xs : List Value} (h : Row b m T l W P a c f) (ht : TN 24 w1 (fun g=>W.heap.size ≤ g) k t n p (.slice a' ks.len c') ks) (hk : Tk b m T l' W w1)
    (hkf : KF 24 (w1.alloc o) (fun g=>P g ∧ some g ≠ Value.ownBlock (.slice a f.len c)) xs f)
    (own : w2.ownsRow 0 24 5 (.slice (some ⟨g,0,none⟩) (f.len + 1) cc) (f.len + 1) (xs ++ [.int .i64 k,.string ⟨t.toArray⟩,.int .i64 n,.int .i64 p,.slice a' ks.len c']))
    (hg : (w1.alloc o).grownBy w2 (Value.ownBlock (.slice a f.len c))) (hat : Value.ownBlock (.slice a f.len c) = some g ∨ g = (w1.alloc o).heap.size) (hl : l'.length < l.length) :
    Row b m T l' w2 P (some ⟨g,0,none⟩) cc (f.app (one k t n p ks)) ∧ Ky (fun k=>k = b ∨ some k = Value.ownBlock (.slice a f.len c)) W w2:=by
  have hps:=h.ps.lt
  have hfew:=h.few
  have hsz:=hk.ky.size
  obtain ⟨ys,hy,hyP,_⟩:=h.kl.out
  have hl1 : (f.app (one k t n p ks)).len = f.len + 1:=by rw [F.len_app];rfl
  have hK : Ky (fun k=>k = b ∨ some k = Value.ownBlock (.slice a f.len c)) W w2:=((hk.ky.mono fun _ _ e=>.inl e).alloc o).trans ⟨hg.os,hg.tape,hg.output,hg.size,fun i hi hn=>hg.block i hi fun e=>hn (.inr e)⟩
  have hkt : KF 24 (w1.alloc o) (fun g=>P g ∧ some g ≠ Value.ownBlock (.slice a f.len c)) [.int .i64 k,.string ⟨t.toArray⟩,.int .i64 n,.int .i64 p,.slice a' ks.len c'] (one k t n p ks):=by
    refine (ht.kf.mono (Q:=fun g=>W.heap.size ≤ g ∧ g < w1.heap.size) fun g h1 h2=>⟨h1,h2⟩).keep (w':=w1.alloc o) (fun k hk _=>(World.grownBy_alloc w1 o none).block k hk.2 (by simp)) |>.mono fun g hg _=>⟨h.hi g hg.1,fun e=>?_⟩
    have:=(hy.lt g e.symm).2
    omega
  refine ⟨⟨?_,?_,h.lo,fun x hx=>h.hi x (Nat.le_trans hK.size hx),by rw [hl1];omega⟩,hK⟩
  · exact (hk.ps.alloc o).ky (S:=fun k=>some k = Value.ownBlock (.slice a f.len c)) ⟨hg.os,hg.tape,hg.output,hg.size,fun i hi hn=>hg.block i hi hn⟩ fun x hx e=>h.lo x hx (hyP x e.symm)
  · have:=KL.snoc (n:=one k t n p ks) hyP hkf hkt own (fun k hk hn=>hg.block k hk hn) (fun x hx=>h.hi x (by simp at hx;omega)) (hat.imp id (fun e=>by omega))
    rw [hl1];exact this
theorem Row.took {b m : Nat} {T l : List Tok} {W w : World} {P : Nat → Prop} {a : Option Addr} {c : Nat} {f : F} {t : Tok} (h : Row b m T (t :: l) W P a c f) (hT : Tk b m T l W w) : Row b m T l w P a c f:=by
  have h1:=h.ps.lt
  have h3:=h.few
  simp at h3
  exact ⟨hT.ps,h.kl.keep fun g hg hl=>hT.ky.block g hl (fun e=>h.lo g (by omega) hg),h.lo,fun x hx=>h.hi x (Nat.le_trans hT.ky.size hx),by omega⟩
theorem app_row {ops : Array Oper} {rest : List Oper} {o : Oper} {ac : Act} {Q : Exit → Act → World → Prop} {b m : Nat} {T l l' : List Tok} {W w1 : World} {P : Nat → Prop} {a a' : Option Addr} {c c' : Nat} {f ks : F} {k : Int} {t : List UInt8} {n p : Int} (hgd : o.guard = none) (s x : Operand)
    (ho : o.op = .call { callee:=.builtin .append,args:=#[s,x],argTypes:=#[22,22] }) (h : Row b m T l W P a c f) (ht : TN 24 w1 (fun g=>W.heap.size ≤ g) k t n p (.slice a' ks.len c') ks) (hk : Tk b m T l' W w1) (hl : l'.length < l.length)
    (hs : ac.eval s = .slice a f.len c) (hx : ac.eval x = .slice (some ⟨w1.heap.size,0,none⟩) 1 1)
    (hK : ∀ g cc w2,Row b m T l' w2 P (some ⟨g,0,none⟩) cc (f.app (one k t n p ks)) → Ky (fun k=>k = b ∨ some k = Value.ownBlock (.slice a f.len c)) W w2 → (Value.ownBlock (.slice a f.len c) = some g ∨ W.heap.size ≤ g) → wpList Tryz.prog ops Q rest (ac.put o.dst (.slice (some ⟨g,0,none⟩) (f.app (one k t n p ks)).len cc)) w2) :
    wpList Tryz.prog ops Q (o :: rest) ac (w1.alloc (.cells #[.int .i64 k,.string ⟨t.toArray⟩,.int .i64 n,.int .i64 p,.slice a' ks.len c'] 24)):=by
  obtain ⟨i0,hi0,hz0,hz1,hz2⟩:=info_parts info24
  have hps:=h.ps.lt
  have hsm:=h.ps.small
  have hfew:=h.few
  have hsz:=hk.ky.size
  have hkl:=h.kl.keep (w':=w1.alloc (.cells #[.int .i64 k,.string ⟨t.toArray⟩,.int .i64 n,.int .i64 p,.slice a' ks.len c'] 24)) fun g hg hl=>(hk.ky.alloc _).block g hl (fun e=>h.lo g (by omega) hg)
  obtain ⟨xs,hown,_,hkf⟩:=hkl.out
  have hl1 : (f.app (one k t n p ks)).len = f.len + 1:=by rw [F.len_app];rfl
  refine wpList_append_lies _ hgd s x 22 ho 0 24 i0 _ 5 64 Tryz.underlying22 hi0 hz0 hz1 hz2 rfl (by omega) (.slice a f.len c) f.len xs hs hown ⟨w1.heap.size,0,none⟩ 1 1 [.int .i64 k,.string ⟨t.toArray⟩,.int .i64 n,.int .i64 p,.slice a' ks.len c'] hx rfl (World.news_of_block (cs:=#[.int .i64 k,.string ⟨t.toArray⟩,.int .i64 n,.int .i64 p,.slice a' ks.len c']) (t:=24) (fr:=(0,0)) (Go.heap_alloc_new w1 _)) (by simp [Value.oneCell']) (by omega) (by unfold maxLen;omega) (by omega) (Nat.zero_le _) (w1.heap.size + 1) (by simp) ?_
  intro g cc w2 hown2 hg hat _
  obtain ⟨r1,r2⟩:=h.snoc ht hk hkf hown2 hg (hat.imp id fun e=>by simpa using e) hl
  have:=hK g cc w2 r1 r2 (hat.imp id fun e=>by omega)
  rw [hl1] at this
  exact this
set_option maxRecDepth 20000 in
set_option maxHeartbeats 4000000 in
theorem list_any (N : Nat) (H : ∀ n,n ≤ N → CC n) (b m : Nat) (T l : List Tok) (W : World) (P : Nat → Prop) (a : Option Addr) (c : Nat) (f : F) (h : Row b m T l W P a c f) (hr : pr (N + 1) (.lst f) l ≠ .out) : Calls Tryz.prog 96 #[.pointer (some ⟨b,0,none⟩),.slice a f.len c] W (PL b m T W P (.slice a f.len c) (pr (N + 1) (.lst f) l)):=by
  obtain ⟨R,hR⟩ : ∃ R,pr (N + 1) (.lst f) l = R:=⟨_,rfl⟩
  rw [hR] at hr ⊢
  rw [pr_succ] at hR
  simp only [stp'] at hR
  have CE:=(H N (Nat.le_refl _)).ex 0 b m T l W h.ps
  cases he : pr N (.ex 0) l with
  | out=>rw [he] at hR;exact absurd hR.symm hr
  | bad p =>
    rw [he] at hR CE
    have CE:=CE (by simp)
    simp only [PR.bind] at hR
    subst hR
    go_enter Tryz.func96,Tryz.ntmps96
    go_wp2_with (go_at_call 127;refine CE.mono ?_;rintro e w1 ⟨he,hk⟩;unfold refp at he;subst he)
    exact ⟨rfl,rfl,hk.mono fun _ _ e=>.inl e⟩
  | ok g l1 =>
    have hlen:=pr_len he
    rw [he] at hR CE
    have CE:=CE (by simp)
    simp only [PR.bind] at hR
    go_enter Tryz.func96,Tryz.ntmps96
    go_wp2_with (first | (go_at_call 127;refine CE.mono ?_;rintro e w1 ⟨k,t,n,p,a1,c1,ks,rfl,rfl,hTN,hTk⟩) | (at_builtin;refine app_row rfl _ _ rfl h hTN hTk (by simp only [st] at hlen;omega) rfl rfl ?_;intro gg cc w2 hrow hky hat))
    have hR : Hid ((if hc l1 = 15 then pr N (.lst (f.app (one k t n p ks))) l1.tail else .ok (f.app (one k t n p ks)) l1) = R):=hR
    have hOB:=(OB.refl W a f.len c).app (Nat.le_refl _) hat
    clear CE he hTN hTk hat
    go_loopg [1] (N + 2) (fun gf v1 wx=>∃ (q : Nat) (f' : F) (l' : List Tok) (a' : Option Addr) (c' : Nat),q ≤ N ∧ v1 = .slice a' f'.len c' ∧ Row b m T l' wx P a' c' f' ∧ Ky (fun k=>k = b ∨ some k = Value.ownBlock (.slice a f.len c)) W wx ∧ OB W (.slice a f.len c) a' ∧ Hid ((if hc l' = 15 then pr q (.lst f') l'.tail else .ok f' l') = R) ∧ q < gf)
    case atStart=>exact ⟨N,_,l1,_,_,Nat.le_refl _,rfl,hrow,hky,hOB,hR,by omega⟩
    case round =>
      clear hrow hky hOB hR hlen
      obtain ⟨q,f',l',a',c',hq,rfl,hrow,hky,hOB,hR,hfu⟩:=hrel
      obtain ⟨t1,l2,rfl⟩:=hrow.ps.cons
      by_cases h15 : cls t1 = 15
      · have wt115 : rd t1 [44] = true:=cls_rd (c:=15) (by omega) (by decide) (by decide)
        have hR : pr q (.lst f') l2 = R:=by have:=hR.out;rw [if_pos (show hc (t1 :: l2) = 15 from h15)] at this;exact this
        cases q with
        | zero=>exact absurd hR.symm hr
        | succ q =>
          rw [pr_succ] at hR
          simp only [stp'] at hR
          have CE:=fun W h=>(H q (by omega)).ex 0 b m T l2 W h
          cases he : pr q (.ex 0) l2 with
          | out=>rw [he] at hR;exact absurd hR.symm hr
          | bad p =>
            rw [he] at hR CE
            simp only [PR.bind] at hR
            subst hR
            go_wp2_with (first | (go_at_call 62;refine (accept_t b m T l2 t1 _ _ hrow.ps (by assumption)).mono ?_;rintro e w3 ⟨rfl,hT⟩) | (go_at_call 127;refine (CE _ hT.ps (by simp)).mono ?_;rintro e w1 ⟨he,hk⟩;unfold refp at he;subst he))
            exact ⟨rfl,rfl,hky.onto (hT.ky.trans hk) fun _ _ e=>.inl e⟩
          | ok g l3 =>
            have hlen:=pr_len he
            rw [he] at hR CE
            simp only [PR.bind] at hR
            have hR : Hid ((if hc l3 = 15 then pr q (.lst (f'.app g)) l3.tail else .ok (f'.app g) l3) = R):=hR
            go_wp2_with (first | (go_at_call 62;refine (accept_t b m T l2 t1 _ _ hrow.ps (by assumption)).mono ?_;rintro e w3 ⟨rfl,hT⟩;have hrow:=hrow.took hT) | (go_at_call 127;refine (CE _ hT.ps (by simp)).mono ?_;rintro e w1 ⟨k,t,n,p,a1,c1,ks,rfl,rfl,hTN,hTk⟩) | (at_builtin;refine app_row rfl _ _ rfl hrow hTN hTk (by simp only [st] at hlen;omega) rfl rfl ?_;intro gg cc w2 hrow2 hky2 hat2))
            have hKw:=hky.onto (hT.ky) (fun _ _ e=>.inl e)
            go_roundg (q + 1)
            case measure=>omega
            case rel=>exact ⟨q,_,l3,_,_,by omega,rfl,hrow2,hOB.ky hKw hky2,hOB.app hKw.size hat2,hR,by omega⟩
      · have wt115 : rd t1 [44] = false:=cls_nrd (c:=15) (by omega) (by decide) (by decide)
        have hR : PR.ok f' (t1 :: l2) = R:=by have:=hR.out;rw [if_neg (show ¬ hc (t1 :: l2) = 15 from h15)] at this;exact this
        subst hR
        go_wp2_with (go_at_call 62;refine (accept_f b m T l2 t1 _ _ hrow.ps (by assumption)).mono ?_;rintro e w3 ⟨rfl,hb⟩)
        go_ret
        exact ⟨a',c',rfl,hrow.kl.keep fun g hg hl=>hb.block g hl,hrow.ps.below hb,hky.onto (Ky.of_below hb (S:=fun _=>False)) fun _ _ e=>e.elim⟩
end Go.Proofs.YtlgkfhipobdcfaaGreatDoor


namespace Go.Proofs.YtlgkfhipobdcfaaGreatDoor
open Go.RowKit
set_option maxRecDepth 20000 in
set_option maxHeartbeats 4000000 in
theorem names_p (N : Nat) (b m : Nat) (T l : List Tok) (W : World) (P : Nat → Prop) (a : Option Addr) (c : Nat) (f : F) (h : Row b m T l W P a c f) (hr : pr N (.nms f) l ≠ .out) : Calls Tryz.prog 99 #[.pointer (some ⟨b,0,none⟩),.slice a f.len c] W (PL b m T W P (.slice a f.len c) (pr N (.nms f) l)):=by
  obtain ⟨R,hR⟩ : ∃ R,pr N (.nms f) l = R:=⟨_,rfl⟩
  rw [hR] at hr ⊢
  have hR : Hid (pr N (.nms f) l = R):=hR
  go_enter Tryz.func99,Tryz.ntmps99
  go_wp2_with fail
  go_loopg [1] (N + 2) (fun gf v1 wx=>∃ (q : Nat) (f' : F) (l' : List Tok) (a' : Option Addr) (c' : Nat),q ≤ N ∧ v1 = .slice a' f'.len c' ∧ Row b m T l' wx P a' c' f' ∧ Ky (fun k=>k = b ∨ some k = Value.ownBlock (.slice a f.len c)) W wx ∧ OB W (.slice a f.len c) a' ∧ Hid (pr q (.nms f') l' = R) ∧ q < gf)
  case atStart=>exact ⟨N,f,l,a,c,Nat.le_refl _,rfl,h,Ky.refl _ _,OB.refl _ _ _ _,hR,by omega⟩
  case round =>
    clear h hR
    obtain ⟨q,f',l',a',c',hq,rfl,hrow,hky,hOB,hR,hfu⟩:=hrel
    obtain ⟨t1,l2,rfl⟩:=hrow.ps.cons
    cases q with
    | zero=>exact absurd hR.out.symm hr
    | succ q =>
      have hR:=hR.out
      rw [pr_succ] at hR
      simp only [stp',nam] at hR
      by_cases h15 : cls t1 = 15
      · have wt115 : rd t1 [44] = true:=cls_rd (c:=15) (by omega) (by decide) (by decide)
        rw [if_pos (show hc (t1 :: l2) = 15 from h15)] at hR
        obtain ⟨t2,l3,rfl⟩ : ∃ t2 l3,l2 = t2 :: l3:=by
          have:=hrow.ps.ends.tail (by omega)
          cases l2 with
          | nil=>exact absurd rfl this.ne
          | cons t l=>exact ⟨t,l,rfl⟩
        by_cases h51 : cls t2 = 51
        · rw [if_pos (show hc (List.tail (t1 :: t2 :: l3)) = 51 from h51)] at hR
          have hR : Hid (pr q (.nms (f'.app (one 6 t2.t 0 t2.p .nil))) l3 = R):=hR
          go_wp2_with (first | (go_at_call 62;refine (accept_t b m T (t2 :: l3) t1 _ _ hrow.ps (by assumption)).mono ?_;rintro e w3 ⟨rfl,hT⟩;have hrow:=hrow.took hT) | (go_at_call 97;refine (name_yes b m T l3 t2 _ hT.ps h51).mono ?_;rintro e w1 ⟨rfl,hTk⟩) | (at_builtin;refine app_row (ks:=.nil) rfl _ _ rfl hrow (TN.leaf _ _ _ _ _ _ _) hTk (by simp) rfl rfl ?_;intro gg cc w2 hrow2 hky2 hat2))
          have hKw:=hky.onto (hT.ky) (fun _ _ e=>.inl e)
          go_roundg (q + 1)
          case measure=>omega
          case rel=>exact ⟨q,_,l3,_,_,by omega,rfl,hrow2,hOB.ky hKw hky2,hOB.app hKw.size hat2,hR,by omega⟩
        · rw [if_neg (show ¬ hc (List.tail (t1 :: t2 :: l3)) = 51 from h51)] at hR
          subst hR
          go_wp2_with (first | (go_at_call 62;refine (accept_t b m T (t2 :: l3) t1 _ _ hrow.ps (by assumption)).mono ?_;rintro e w3 ⟨rfl,hT⟩) | (go_at_call 97;refine (name_no b m T l3 t2 _ hT.ps h51).mono ?_;rintro e w1 ⟨he,hb⟩;unfold refp at he;subst he))
          exact ⟨rfl,rfl,hky.onto (hT.ky.trans (.of_below hb)) fun _ _ e=>.inl e⟩
      · have wt115 : rd t1 [44] = false:=cls_nrd (c:=15) (by omega) (by decide) (by decide)
        rw [if_neg (show ¬ hc (t1 :: l2) = 15 from h15)] at hR
        subst hR
        go_wp2_with (go_at_call 62;refine (accept_f b m T l2 t1 _ _ hrow.ps (by assumption)).mono ?_;rintro e w3 ⟨rfl,hb⟩)
        go_ret
        exact ⟨a',c',rfl,hrow.kl.keep fun g hg hl=>hb.block g hl,hrow.ps.below hb,hky.onto (Ky.of_below hb (S:=fun _=>False)) fun _ _ e=>e.elim⟩
end Go.Proofs.YtlgkfhipobdcfaaGreatDoor


namespace Go.Proofs.YtlgkfhipobdcfaaGreatDoor
open Go.RowKit
theorem TN.set {E : TypeId} {w : World} {P : Nat → Prop} {k : Int} {t : List UInt8} {n p : Int} {v : Value} {ks : F} {X o : Nat} (h : TN E w P k t n p v ks) (hX : ¬ P X) (u : Value) : TN E (w.setCell ⟨X,o,none⟩ u) P k t n p v ks :=
  h.keep fun g hg _=>Below.heap_setCell w _ u g fun e=>hX ((show g = X from e) ▸ hg)
theorem TN.alloc {E : TypeId} {w : World} {P : Nat → Prop} {k : Int} {t : List UInt8} {n p : Int} {v : Value} {ks : F} (h : TN E w P k t n p v ks) (o : Obj) : TN E (w.alloc o) P k t n p v ks :=
  h.keep fun g _ hl=>(World.grownBy_alloc w o none).block g hl (by simp)
theorem TN.below {E : TypeId} {w w' : World} {P : Nat → Prop} {k : Int} {t : List UInt8} {n p : Int} {v : Value} {ks : F} (h : TN E w P k t n p v ks) (hb : Below w.heap.size w w') : TN E w' P k t n p v ks :=
  h.keep fun g _ hl=>hb.block g hl
theorem TN.ky {E : TypeId} {w w' : World} {P S : Nat → Prop} {k : Int} {t : List UInt8} {n p : Int} {v : Value} {ks : F} (h : TN E w P k t n p v ks) (hb : Ky S w w') (hS : ∀ g,P g → ¬ S g) : TN E w' P k t n p v ks :=
  h.keep fun g hg hl=>hb.block g hl (hS g hg)
theorem KL.set {E : TypeId} {P : Nat → Prop} {w : World} {v : Value} {f : F} {X o : Nat} (h : KL E P w v f) (hX : ¬ P X) (u : Value) : KL E P (w.setCell ⟨X,o,none⟩ u) v f :=
  h.keep fun g hg _=>Below.heap_setCell w _ u g fun e=>hX ((show g = X from e) ▸ hg)
theorem KL.alloc {E : TypeId} {P : Nat → Prop} {w : World} {v : Value} {f : F} (h : KL E P w v f) (o : Obj) : KL E P (w.alloc o) v f:=h.keep fun g _ hl=>(World.grownBy_alloc w o none).block g hl (by simp)
theorem KL.ky {E : TypeId} {P : Nat → Prop} {w w' : World} {S : Nat → Prop} {v : Value} {f : F} (h : KL E P w v f) (hb : Ky S w w') (hS : ∀ g,P g → ¬ S g) : KL E P w' v f:=h.keep fun g hg hl=>hb.block g hl (hS g hg)
theorem KL.below {E : TypeId} {P : Nat → Prop} {w w' : World} {v : Value} {f : F} (h : KL E P w v f) (hb : Below w.heap.size w w') : KL E P w' v f:=h.keep fun g _ hl=>hb.block g hl
theorem Bx.put {X j : Nat} {e : TypeId} {cur : Array Value} {w : World} (h : Bx X e cur w) (u : Value) : Bx X e (cur.setIfInBounds j u) (w.setCell ⟨X,j,none⟩ u):=⟨heap_setCell_same w X j cur e u h.blk⟩
theorem Bx.put4 {X : Nat} {e : TypeId} {a b c d f : Value} {w : World} (h : Bx X e #[a,b,c,d,f] w) (u : Value) : Bx X e #[a,b,c,d,u] (w.setCell ⟨X,4,none⟩ u):=h.put (j:=4) u
theorem Bx.put2 {X : Nat} {e : TypeId} {a b c d f : Value} {w : World} (h : Bx X e #[a,b,c,d,f] w) (u : Value) : Bx X e #[a,b,u,d,f] (w.setCell ⟨X,2,none⟩ u):=h.put (j:=2) u
theorem Row.past {b m : Nat} {T l : List Tok} {W w : World} {P : Nat → Prop} {a : Option Addr} {c : Nat} {f : F} (h : Row b m T l W P a c f) (hb : Below W.heap.size W w) : Row b m T l w P a c f :=
  ⟨h.ps.below hb,h.kl.below hb,h.lo,fun x hx=>h.hi x (Nat.le_trans hb.size hx),h.few⟩
theorem TN.row1 {E : TypeId} {w : World} {P Q : Nat → Prop} {k : Int} {t : List UInt8} {n p : Int} {v : Value} {ks : F} (h : TN E w P k t n p v ks) (hP : ∀ g,P g → g < w.heap.size → Q g) (hB : Q w.heap.size) : KL E Q (w.alloc (.cells #[.int .i64 k,.string ⟨t.toArray⟩,.int .i64 n,.int .i64 p,v] E)) (.slice (some ⟨w.heap.size,0,none⟩) 1 1) (one k t n p ks) :=
  KL.made (cur:=#[.int .i64 k,.string ⟨t.toArray⟩,.int .i64 n,.int .i64 p,v]) (h.kf.mono hP) hB rfl (by unfold maxLen;omega)
theorem TN.row2 {E : TypeId} {w : World} {P P' Q : Nat → Prop} {k k' : Int} {t t' : List UInt8} {n p n' p' : Int} {v v' : Value} {ks ks' : F} (h : TN E w P k t n p v ks) (h' : TN E w P' k' t' n' p' v' ks') (hP : ∀ g,P g → g < w.heap.size → Q g) (hP' : ∀ g,P' g → g < w.heap.size → Q g) (hB : Q w.heap.size) :
    KL E Q (w.alloc (.cells #[.int .i64 k,.string ⟨t.toArray⟩,.int .i64 n,.int .i64 p,v,.int .i64 k',.string ⟨t'.toArray⟩,.int .i64 n',.int .i64 p',v'] E)) (.slice (some ⟨w.heap.size,0,none⟩) 2 2) ((one k t n p ks).app (one k' t' n' p' ks')) :=
  KL.made (cur:=#[.int .i64 k,.string ⟨t.toArray⟩,.int .i64 n,.int .i64 p,v,.int .i64 k',.string ⟨t'.toArray⟩,.int .i64 n',.int .i64 p',v']) ((h.kf.mono hP).app (h'.kf.mono hP')) hB rfl (by unfold maxLen;omega)
theorem PN.five {b m : Nat} {T l : List Tok} {W w : World} {P : Nat → Prop} {k : Int} {t : List UInt8} {n p : Int} {a : Option Addr} {c : Nat} {ks : F} {u0 u1 u2 u3 u4 : Value} (ht : TN 24 w P k t n p (.slice a ks.len c) ks) (hT : Tk b m T l W w) (hP : ∀ g,P g → W.heap.size < g) (hm : m ≤ W.heap.size) :
    PN b m T W (.ok (one k t n p ks) l) (.returned (.agg #[.int .i64 (k),.string ⟨(t).toArray⟩,.int .i64 (n),.int .i64 (p),.slice a ks.len c])) (((((w.setCell ⟨W.heap.size,0,none⟩ u0).setCell ⟨W.heap.size,1,none⟩ u1).setCell ⟨W.heap.size,2,none⟩ u2).setCell ⟨W.heap.size,3,none⟩ u3).setCell ⟨W.heap.size,4,none⟩ u4):=by
  have hX : ¬ P W.heap.size:=fun e=>Nat.lt_irrefl _ (hP _ e)
  exact ⟨k,t,n,p,a,c,ks,rfl,rfl,(((((ht.set hX u0).set hX u1).set hX u2).set hX u3).set hX u4).mono fun g hg _=>Nat.le_of_lt (hP g hg),hT.five (Nat.le_refl _) hm _ _ _ _ _⟩
theorem tail_cons {t : Tok} {l : List Tok} (h : Ends (t :: l)) (hc : cls t ≠ 56) : ∃ t2 l2,l = t2 :: l2:=by
  have:=h.tail hc
  cases l with
  | nil=>exact absurd rfl this.ne
  | cons t l=>exact ⟨t,l,rfl⟩
set_option maxRecDepth 20000 in
set_option maxHeartbeats 4000000 in
theorem stem_any (N : Nat) (H : CC N) (b m : Nat) (T l : List Tok) (W : World) (h : PS b m T l W) (hr : stemP (pr N) l ≠ .out) : Calls Tryz.prog 141 #[.pointer (some ⟨b,0,none⟩)] W (PN b m T W (stemP (pr N) l)):=by
  obtain ⟨t,l1,rfl⟩:=h.cons
  have hlt:=h.lt
  have hbW : W.heap.size ≠ b:=by omega
  unfold stemP at hr ⊢
  by_cases h17 : cls t = 17
  · rw [if_pos (show hc (t :: l1) = 17 from h17)] at hr ⊢
    have wt17 : rd t [40] = true:=cls_rd (c:=17) (by omega) (by decide) (by decide)
    have h56 : cls t ≠ 56:=by omega
    have CE:=fun W h=>H.ex 0 b m T l1 W h
    change ((pr N (.ex 0) l1).bind _) ≠ _ at hr
    change Calls _ _ _ _ (PN b m T W ((pr N (.ex 0) l1).bind _))
    cases he : pr N (.ex 0) l1 with
    | out=>rw [he] at hr;exact absurd rfl hr
    | bad p =>
      rw [he] at CE
      go_enter Tryz.func141,Tryz.ntmps141
      go_wp2_with (first | (go_at_call 63;refine (is_v b m T l1 t _ _ (h.alloc _) (by assumption)).mono ?_;rintro e w1 ⟨rfl,hb1⟩;have T1:=(h.tk.alloc _).below hb1) | (go_at_call 95;refine (take_p b m T l1 t _ T1.ps h56).mono ?_;rintro e w2 ⟨rfl,hT2⟩;have T2:=(T1.trans hT2).alloc (.cells #[.int .i64 9,.string ⟨#[]⟩,.int .i64 0,.int .i64 t.p,.slice none 0 0] 24)) | (go_at_call 127;refine (CE _ T2.ps (by simp)).mono ?_;rintro e w3 ⟨he,hk⟩;unfold refp at he;subst he))
      exact ⟨rfl,rfl,T2.ky.trans hk⟩
    | ok g l2 =>
      obtain ⟨t2,l3,rfl⟩:=(pr_ends he (h.ends.tail h56)).cons
      rw [he] at CE hr
      simp only [PR.bind,need] at hr ⊢
      by_cases h18 : cls t2 = 18
      · rw [if_pos (show hc (t2 :: l3) = 18 from h18)]
        have wt218 : rd t2 [41] = true:=cls_rd (c:=18) (by omega) (by decide) (by decide)
        go_enter Tryz.func141,Tryz.ntmps141
        go_wp2_with (first | (go_at_call 63;refine (is_v b m T l1 t _ _ (h.alloc _) (by assumption)).mono ?_;rintro e w1 ⟨rfl,hb1⟩;have T1:=(h.tk.alloc _).below hb1;have R1:=(Bx.new W 24 _).below hb1) | (go_at_call 95;refine (take_p b m T l1 t _ T1.ps h56).mono ?_;rintro e w2 ⟨rfl,hT2⟩;have T2':=T1.trans hT2;have s2:=T2'.ky.size;have T2:=T2'.alloc (.cells #[.int .i64 (9),.string ⟨#[]⟩,.int .i64 (0),.int .i64 (t.p),.slice none 0 0] 24);have R2:=(R1.ky hT2.ky hbW).alloc (.cells #[.int .i64 (9),.string ⟨#[]⟩,.int .i64 (0),.int .i64 (t.p),.slice none 0 0] 24);have L2:=Bx.new w2 24 #[.int .i64 9,.string ⟨#[]⟩,.int .i64 0,.int .i64 t.p,.slice none 0 0];have R2lt:=(R1.ky hT2.ky hbW).lt) | (go_at_call 127;refine (CE _ T2.ps (by simp)).mono ?_;rintro e w3 ⟨k,tt,n,p,a1,c1,ks,rfl,rfl,hTN,hTk⟩;have s3:=hTk.ky.size;have T3:=(T2.trans hTk).alloc (.cells #[.int .i64 (k),.string ⟨(tt).toArray⟩,.int .i64 (n),.int .i64 (p),.slice a1 ks.len c1] 24);have L3:=L2.ky hTk.ky (by omega);have R3:=(R2.ky hTk.ky hbW).alloc (.cells #[.int .i64 (k),.string ⟨(tt).toArray⟩,.int .i64 (n),.int .i64 (p),.slice a1 ks.len c1] 24);obtain ⟨-,-,-,-,l4⟩:=L3.fiveA;obtain ⟨-,-,-,-,lf4⟩:=L3.frozen5A;have K3:=hTN.row1 (Q:=fun g=>w2.heap.size < g) (fun g hg _=>by simp at hg;omega) (by simp at s3;omega);have L4:=(L3.alloc (.cells #[.int .i64 (k),.string ⟨(tt).toArray⟩,.int .i64 (n),.int .i64 (p),.slice a1 ks.len c1] 24)).put4 (.slice (some ⟨w3.heap.size,0,none⟩) 1 1);have K4:=K3.set (X:=w2.heap.size) (o:=4) (Nat.lt_irrefl _) (.slice (some ⟨w3.heap.size,0,none⟩) 1 1);have T4:=T3.new (X:=w2.heap.size) (o:=4) s2 hlt.2 (.slice (some ⟨w3.heap.size,0,none⟩) 1 1);have R4:=R3.set (b:=w2.heap.size) (o:=4) (by omega) (.slice (some ⟨w3.heap.size,0,none⟩) 1 1);obtain ⟨w4,hw4⟩ : ∃ w4,(w3.alloc (.cells #[.int .i64 (k),.string ⟨(tt).toArray⟩,.int .i64 (n),.int .i64 (p),.slice a1 ks.len c1] 24)).setCell ⟨w2.heap.size,4,none⟩ (.slice (some ⟨w3.heap.size,0,none⟩) 1 1) = w4:=⟨_,rfl⟩;rw [hw4] at L4 K4 T4 R4) | (go_at_call 98;refine (expect_t b m T l3 t2 _ _ T4.ps (by assumption)).mono ?_;rintro e w5 ⟨rfl,hT5⟩;have T5:=T4.trans hT5;have R5:=R4.ky hT5.ky hbW;have L5:=L4.ky hT5.ky (by omega);have K5:=K4.ky hT5.ky (by omega);obtain ⟨q0,q1,q2,q3,q4⟩:=R5.five;obtain ⟨f0,f1,f2,f3,f4⟩:=R5.frozen5;obtain ⟨p0,p1,p2,p3,p4⟩:=L5.five))
        refine bodyPost_ret (v:=(.agg #[.int .i64 (9),.string ⟨#[]⟩,.int .i64 (0),.int .i64 (t.p),.slice (some ⟨w3.heap.size,0,none⟩) 1 1])) (by simp [results,Tryz.results141,go_sem,q0,q1,q2,q3,q4]) rfl ?_
        exact PN.five (K5.node 9 [] 0 t.p) T5 (fun g hg=>by omega) hlt.2
      · rw [if_neg (show ¬ hc (t2 :: l3) = 18 from h18)]
        have wt218 : rd t2 [41] = false:=cls_nrd (c:=18) (by omega) (by decide) (by decide)
        go_enter Tryz.func141,Tryz.ntmps141
        go_wp2_with (first | (go_at_call 63;refine (is_v b m T l1 t _ _ (h.alloc _) (by assumption)).mono ?_;rintro e w1 ⟨rfl,hb1⟩;have T1:=(h.tk.alloc _).below hb1;have R1:=(Bx.new W 24 _).below hb1) | (go_at_call 95;refine (take_p b m T l1 t _ T1.ps h56).mono ?_;rintro e w2 ⟨rfl,hT2⟩;have T2':=T1.trans hT2;have s2:=T2'.ky.size;have T2:=T2'.alloc (.cells #[.int .i64 (9),.string ⟨#[]⟩,.int .i64 (0),.int .i64 (t.p),.slice none 0 0] 24);have R2:=(R1.ky hT2.ky hbW).alloc (.cells #[.int .i64 (9),.string ⟨#[]⟩,.int .i64 (0),.int .i64 (t.p),.slice none 0 0] 24);have L2:=Bx.new w2 24 #[.int .i64 9,.string ⟨#[]⟩,.int .i64 0,.int .i64 t.p,.slice none 0 0];have R2lt:=(R1.ky hT2.ky hbW).lt) | (go_at_call 127;refine (CE _ T2.ps (by simp)).mono ?_;rintro e w3 ⟨k,tt,n,p,a1,c1,ks,rfl,rfl,hTN,hTk⟩;have s3:=hTk.ky.size;have T3:=(T2.trans hTk).alloc (.cells #[.int .i64 (k),.string ⟨(tt).toArray⟩,.int .i64 (n),.int .i64 (p),.slice a1 ks.len c1] 24);have L3:=L2.ky hTk.ky (by omega);have R3:=(R2.ky hTk.ky hbW).alloc (.cells #[.int .i64 (k),.string ⟨(tt).toArray⟩,.int .i64 (n),.int .i64 (p),.slice a1 ks.len c1] 24);obtain ⟨-,-,-,-,l4⟩:=L3.fiveA;obtain ⟨-,-,-,-,lf4⟩:=L3.frozen5A;have K3:=hTN.row1 (Q:=fun g=>w2.heap.size < g) (fun g hg _=>by simp at hg;omega) (by simp at s3;omega);have L4:=(L3.alloc (.cells #[.int .i64 (k),.string ⟨(tt).toArray⟩,.int .i64 (n),.int .i64 (p),.slice a1 ks.len c1] 24)).put4 (.slice (some ⟨w3.heap.size,0,none⟩) 1 1);have K4:=K3.set (X:=w2.heap.size) (o:=4) (Nat.lt_irrefl _) (.slice (some ⟨w3.heap.size,0,none⟩) 1 1);have T4:=T3.new (X:=w2.heap.size) (o:=4) s2 hlt.2 (.slice (some ⟨w3.heap.size,0,none⟩) 1 1);have R4:=R3.set (b:=w2.heap.size) (o:=4) (by omega) (.slice (some ⟨w3.heap.size,0,none⟩) 1 1);obtain ⟨w4,hw4⟩ : ∃ w4,(w3.alloc (.cells #[.int .i64 (k),.string ⟨(tt).toArray⟩,.int .i64 (n),.int .i64 (p),.slice a1 ks.len c1] 24)).setCell ⟨w2.heap.size,4,none⟩ (.slice (some ⟨w3.heap.size,0,none⟩) 1 1) = w4:=⟨_,rfl⟩;rw [hw4] at L4 K4 T4 R4) | (go_at_call 98;refine (expect_f b m T l3 t2 _ _ T4.ps (by assumption)).mono ?_;rintro e w5 ⟨he,hb5⟩;unfold refp at he;subst he))
        exact ⟨rfl,rfl,T4.ky.trans (.of_below hb5)⟩
  · rw [if_neg (show ¬ hc (t :: l1) = 17 from h17)] at hr ⊢
    have wt17 : rd t [40] = false:=cls_nrd (c:=17) (by omega) (by decide) (by decide)
    unfold nam at hr ⊢
    by_cases h51 : cls t = 51
    · rw [if_pos (show hc (t :: l1) = 51 from h51)] at hr ⊢
      go_enter Tryz.func141,Tryz.ntmps141
      go_wp2_with (first | (go_at_call 63;refine (is_v b m T l1 t _ _ (h.alloc _) (by assumption)).mono ?_;rintro e w1 ⟨rfl,hb1⟩;have T1:=(h.tk.alloc _).below hb1;have R1:=(Bx.new W 24 _).below hb1) | (go_at_call 97;refine (name_yes b m T l1 t _ T1.ps h51).mono ?_;rintro e w2 ⟨rfl,hT2⟩;have T2:=T1.trans hT2;have R2:=R1.ky hT2.ky hbW;obtain ⟨q0,q1,q2,q3,q4⟩:=R2.five;obtain ⟨f0,f1,f2,f3,f4⟩:=R2.frozen5))
      refine bodyPost_ret (v:=(.agg #[.int .i64 (6),.string ⟨(t.t).toArray⟩,.int .i64 (0),.int .i64 (t.p),.slice none 0 0])) (by simp [results,Tryz.results141,go_sem,q0,q1,q2,q3,q4]) rfl ?_
      exact PN.five (ks:=.nil) (TN.leaf _ _ (fun g=>W.heap.size < g) _ _ _ _) T2 (fun _ e=>e) hlt.2
    · rw [if_neg (show ¬ hc (t :: l1) = 51 from h51)] at hr ⊢
      go_enter Tryz.func141,Tryz.ntmps141
      go_wp2_with (first | (go_at_call 63;refine (is_v b m T l1 t _ _ (h.alloc _) (by assumption)).mono ?_;rintro e w1 ⟨rfl,hb1⟩;have T1:=(h.tk.alloc _).below hb1) | (go_at_call 97;refine (name_no b m T l1 t _ T1.ps h51).mono ?_;rintro e w2 ⟨he,hb2⟩;unfold refp at he;subst he))
      exact ⟨rfl,rfl,T1.ky.trans (.of_below hb2)⟩
set_option maxRecDepth 20000 in
set_option maxHeartbeats 4000000 in
theorem args_any (N : Nat) (H : CC N) (b m : Nat) (T l : List Tok) (W : World) (P : Nat → Prop) (a : Option Addr) (c : Nat) (f : F) (h : Row b m T l W P a c f) (hr : argP (pr N) f l ≠ .out) : Calls Tryz.prog 143 #[.pointer (some ⟨b,0,none⟩),.slice a f.len c] W (PL b m T W P (.slice a f.len c) (argP (pr N) f l)):=by
  obtain ⟨t,l1,rfl⟩:=h.ps.cons
  unfold argP at hr ⊢
  by_cases h18 : cls t = 18
  · rw [if_pos (show hc (t :: l1) = 18 from h18)] at hr ⊢
    have wt18 : rd t [41] = true:=cls_rd (c:=18) (by omega) (by decide) (by decide)
    go_enter Tryz.func143,Tryz.ntmps143
    go_wp2_with (go_at_call 62;refine (accept_t b m T l1 t _ _ h.ps (by assumption)).mono ?_;rintro e w3 ⟨rfl,hT⟩;have hrow:=h.took hT)
    go_ret
    exact ⟨a,c,rfl,hrow.kl,hT.ps,hT.ky.mono fun _ _ e=>.inl e⟩
  · rw [if_neg (show ¬ hc (t :: l1) = 18 from h18)] at hr ⊢
    have wt18 : rd t [41] = false:=cls_nrd (c:=18) (by omega) (by decide) (by decide)
    have CL:=fun W h=>H.lst b m T (t :: l1) W P a c f h
    cases he : pr N (.lst f) (t :: l1) with
    | out=>rw [he] at hr;exact absurd rfl hr
    | bad p =>
      rw [he] at CL
      simp only [PR.bind] at hr ⊢
      go_enter Tryz.func143,Tryz.ntmps143
      go_wp2_with (first | (go_at_call 62;refine (accept_f b m T l1 t _ _ h.ps (by assumption)).mono ?_;rintro e w3 ⟨rfl,hb⟩;have hrow:=h.past hb) | (go_at_call 96;refine (CL _ hrow (by simp)).mono ?_;rintro e w4 ⟨he,hk⟩;unfold refp at he;subst he))
      exact ⟨rfl,rfl,(Ky.of_below hb).trans hk⟩
    | ok g l2 =>
      obtain ⟨t2,l3,rfl⟩:=(pr_ends he h.ps.ends).cons
      rw [he] at CL hr
      simp only [PR.bind,need] at hr ⊢
      by_cases h2 : cls t2 = 18
      · rw [if_pos (show hc (t2 :: l3) = 18 from h2)]
        have wt218 : rd t2 [41] = true:=cls_rd (c:=18) (by omega) (by decide) (by decide)
        go_enter Tryz.func143,Tryz.ntmps143
        go_wp2_with (first | (go_at_call 62;refine (accept_f b m T l1 t _ _ h.ps (by assumption)).mono ?_;rintro e w3 ⟨rfl,hb⟩;have hrow:=h.past hb) | (go_at_call 96;refine (CL _ hrow (by simp)).mono ?_;rintro e w4 ⟨a1,c1,rfl,hkl,hps,hk⟩) | (go_at_call 98;refine (expect_t b m T l3 t2 _ _ hps (by assumption)).mono ?_;rintro e w5 ⟨rfl,hT5⟩))
        go_ret
        have hlt:=h.ps.lt
        exact ⟨a1,c1,rfl,hkl.ky hT5.ky (fun g hg e=>h.lo g (by omega) hg),hT5.ps,((Ky.of_below hb).trans hk).trans (hT5.ky.mono fun _ _ e=>.inl e)⟩
      · rw [if_neg (show ¬ hc (t2 :: l3) = 18 from h2)]
        have wt218 : rd t2 [41] = false:=cls_nrd (c:=18) (by omega) (by decide) (by decide)
        go_enter Tryz.func143,Tryz.ntmps143
        go_wp2_with (first | (go_at_call 62;refine (accept_f b m T l1 t _ _ h.ps (by assumption)).mono ?_;rintro e w3 ⟨rfl,hb⟩;have hrow:=h.past hb) | (go_at_call 96;refine (CL _ hrow (by simp)).mono ?_;rintro e w4 ⟨a1,c1,rfl,hkl,hps,hk⟩) | (go_at_call 98;refine (expect_f b m T l3 t2 _ _ hps (by assumption)).mono ?_;rintro e w5 ⟨he,hb5⟩;unfold refp at he;subst he))
        exact ⟨rfl,rfl,((Ky.of_below hb).trans hk).trans (.of_below hb5)⟩
end Go.Proofs.YtlgkfhipobdcfaaGreatDoor


namespace Go.Proofs.YtlgkfhipobdcfaaGreatDoor
open Go.RowKit
theorem TN.made {E : TypeId} {w : World} {Q : Nat → Prop} {cur : Array Value} {f : F} {c : Nat} (h : KF E w Q cur.toList f) (hQ : Q w.heap.size) (hc : f.len = c) (hl : c ≤ maxLen) (k : Int) (t : List UInt8) (n p : Int) : TN E (w.alloc (.cells cur E)) Q k t n p (.slice (some ⟨w.heap.size,0,none⟩) c c) f:=by
  subst hc
  have hs : cur.size = f.len * 5:=by rw [← h.len];simp
  refine ⟨.cons ⟨by simpa using hs,.inr ⟨w.heap.size,f.len,cur,rfl,Nat.zero_le _,Go.heap_alloc_new w _,Nat.le_refl _,hl,hs,by rw [← hs];exact List.take_of_length_le (by simp)⟩⟩ (fun g hg=>?_) (h.keep fun g _ hl=>(World.grownBy_alloc w _ none).block g hl (by simp)) .nil⟩
  have e2 : w.heap.size = g:=by simpa [Value.ownBlock] using hg
  rw [← e2];exact hQ
theorem TN.five {E : TypeId} {w : World} {P : Nat → Prop} {k : Int} {t : List UInt8} {n p : Int} {v : Value} {ks : F} {X : Nat} (h : TN E w P k t n p v ks) (hX : ¬ P X) (u0 u1 u2 u3 u4 : Value) : TN E (((((w.setCell ⟨X,0,none⟩ u0).setCell ⟨X,1,none⟩ u1).setCell ⟨X,2,none⟩ u2).setCell ⟨X,3,none⟩ u3).setCell ⟨X,4,none⟩ u4) P k t n p v ks :=
  ((((h.set hX u0).set hX u1).set hX u2).set hX u3).set hX u4
theorem Bx.five_put {X : Nat} {e : TypeId} {a b c d f : Value} {w : World} (h : Bx X e #[a,b,c,d,f] w) (u0 u1 u2 u3 u4 : Value) : Bx X e #[u0,u1,u2,u3,u4] (((((w.setCell ⟨X,0,none⟩ u0).setCell ⟨X,1,none⟩ u1).setCell ⟨X,2,none⟩ u2).setCell ⟨X,3,none⟩ u3).setCell ⟨X,4,none⟩ u4) :=
  ((((h.put (j:=0) u0).put (j:=1) u1).put (j:=2) u2).put (j:=3) u3).put (j:=4) u4
theorem Bx.five_set {X Y : Nat} {e : TypeId} {cur : Array Value} {w : World} (h : Bx X e cur w) (hX : X ≠ Y) (u0 u1 u2 u3 u4 : Value) : Bx X e cur (((((w.setCell ⟨Y,0,none⟩ u0).setCell ⟨Y,1,none⟩ u1).setCell ⟨Y,2,none⟩ u2).setCell ⟨Y,3,none⟩ u3).setCell ⟨Y,4,none⟩ u4) :=
  ((((h.set hX u0).set hX u1).set hX u2).set hX u3).set hX u4
structure Lf (b m : Nat) (T l : List Tok) (W : World) (X : Nat) (k : Int) (t : List UInt8) (n p : Int) (v : Value) (ks : F) (w : World) : Prop where
  tk : Tk b m T l W w
  res : Bx W.heap.size 24 #[.int .i64 0,.string ⟨#[]⟩,.int .i64 0,.int .i64 0,.slice none 0 0] w
  box : Bx X 24 #[.int .i64 k,.string ⟨t.toArray⟩,.int .i64 n,.int .i64 p,v] w
  tn : TN 24 w (fun g=>W.heap.size < g ∧ g ≠ X) k t n p v ks
  lt : b < W.heap.size ∧ m ≤ W.heap.size ∧ W.heap.size < X
section
variable {b m : Nat} {T l : List Tok} {W : World} {X : Nat} {k : Int} {t : List UInt8} {n p : Int} {v : Value} {ks : F} {w w' : World}
theorem Lf.below (h : Lf b m T l W X k t n p v ks w) (hb : Below w.heap.size w w') : Lf b m T l W X k t n p v ks w':=⟨h.tk.below hb,h.res.below hb,h.box.below hb,h.tn.below hb,h.lt⟩
theorem Lf.alloc (h : Lf b m T l W X k t n p v ks w) (o : Obj) : Lf b m T l W X k t n p v ks (w.alloc o):=⟨h.tk.alloc o,h.res.alloc o,h.box.alloc o,h.tn.alloc o,h.lt⟩
theorem Lf.took {l' : List Tok} (h : Lf b m T l W X k t n p v ks w) (hT : Tk b m T l' w w') : Lf b m T l' W X k t n p v ks w':=by
  have hlt:=h.lt
  exact ⟨h.tk.trans hT,h.res.ky hT.ky (by omega),h.box.ky hT.ky (by omega),h.tn.ky hT.ky (by omega),h.lt⟩
theorem Lf.put {k' : Int} {t' : List UInt8} {n' p' : Int} {v' : Value} {ks' : F} (h : Lf b m T l W X k t n p v ks w) (ht : TN 24 w (fun g=>W.heap.size < g ∧ g ≠ X) k' t' n' p' v' ks') :
    Lf b m T l W X k' t' n' p' v' ks' (((((w.setCell ⟨X,0,none⟩ (.int .i64 k')).setCell ⟨X,1,none⟩ (.string ⟨t'.toArray⟩)).setCell ⟨X,2,none⟩ (.int .i64 n')).setCell ⟨X,3,none⟩ (.int .i64 p')).setCell ⟨X,4,none⟩ v'):=by
  have hlt:=h.lt
  exact ⟨h.tk.five (by omega) hlt.2.1 _ _ _ _ _,h.res.five_set (by omega) _ _ _ _ _,h.box.five_put _ _ _ _ _,ht.five (by omega) _ _ _ _ _,h.lt⟩
end
set_option maxRecDepth 20000 in
set_option maxHeartbeats 8000000 in
theorem expr_any (N : Nat) (H : ∀ n,n ≤ N → CC n) (a : Nat) (b m : Nat) (T l : List Tok) (W : World) (h : PS b m T l W) (hr : pr (N + 1) (.ex a) l ≠ .out) : Calls Tryz.prog 127 #[.pointer (some ⟨b,0,none⟩),.int .i64 a] W (PN b m T W (pr (N + 1) (.ex a) l)):=by
  have hlt:=h.lt
  have hbW : W.heap.size ≠ b:=by omega
  obtain ⟨R,hR⟩ : ∃ R,pr (N + 1) (.ex a) l = R:=⟨_,rfl⟩
  rw [hR] at hr ⊢
  rw [pr_succ] at hR
  simp only [stp'] at hR
  have CE:=fun W h=>(H N (Nat.le_refl _)).opd b m T l W h
  cases he : pr N .opd l with
  | out=>rw [he] at hR;exact absurd hR.symm hr
  | bad p =>
    rw [he] at hR CE
    simp only [PR.bind] at hR
    subst hR
    go_enter Tryz.func127,Tryz.ntmps127
    go_wp2_with (go_at_call 139;refine (CE _ (h.alloc _) (by simp)).mono ?_;rintro e w1 ⟨he,hk⟩;unfold refp at he;subst he)
    exact ⟨rfl,rfl,((Ky.refl (fun k=>k = b) W).alloc _).trans hk⟩
  | ok g l1 =>
    rw [he] at hR CE
    simp only [PR.bind] at hR
    go_enter Tryz.func127,Tryz.ntmps127
    go_wp2_with (go_at_call 139;refine (CE _ (h.alloc _) (by simp)).mono ?_;rintro e w1 ⟨k,tt,n,p,a1,c1,ks,rfl,rfl,hTN,hTk⟩;have R1:=(Bx.new W 24 _).ky hTk.ky hbW;have T1:=(h.tk.alloc _).trans hTk)
    have hX1 : W.heap.size < w1.heap.size:=R1.lt
    replace hR : Hid (pr N (.exl a (one k tt n p ks)) l1 = R):=hR
    have hL : Lf b m T l1 W w1.heap.size k tt n p (.slice a1 ks.len c1) ks (w1.alloc (.cells #[.int .i64 (k),.string ⟨(tt).toArray⟩,.int .i64 (n),.int .i64 (p),.slice a1 ks.len c1] 24)):=⟨T1.alloc _,R1.alloc _,Bx.new _ _ _,(hTN.mono fun g hg hl=>⟨by simp at hg;omega,by omega⟩).alloc _,by omega⟩
    obtain ⟨X,hX⟩ : ∃ X,w1.heap.size = X:=⟨_,rfl⟩
    obtain ⟨wS,hwS⟩ : ∃ wS,w1.alloc (.cells #[.int .i64 (k),.string ⟨(tt).toArray⟩,.int .i64 (n),.int .i64 (p),.slice a1 ks.len c1] 24) = wS:=⟨_,rfl⟩
    rw [hX] at hX1 hL ⊢
    rw [hwS] at hL ⊢
    clear hwS hTN hTk R1 T1 CE he
    go_loopg [] (N + 2) (fun gf wx=>∃ (q : Nat) (k : Int) (tt : List UInt8) (n p : Int) (a' : Option Addr) (c' : Nat) (ks : F) (l' : List Tok),q ≤ N ∧ Lf b m T l' W X k tt n p (.slice a' ks.len c') ks wx ∧ Hid (pr q (.exl a (one k tt n p ks)) l' = R) ∧ q < gf)
    case atStart=>exact ⟨N,k,tt,n,p,a1,c1,ks,l1,Nat.le_refl _,hL,hR,by omega⟩
    case round =>
      clear hL hR hX
      obtain ⟨q,k,tt,n,p,a1,c1,ks,l',hq,hL,hR,hfu⟩:=hrel
      obtain ⟨t,l2,rfl⟩:=hL.tk.ps.cons
      cases q with
      | zero=>exact absurd hR.out.symm hr
      | succ q =>
        have hR:=hR.out
        rw [pr_succ] at hR
        simp only [stp'] at hR
        by_cases hb : a < bnd (cls t)
        · rw [if_pos (show a < bnd (hc (t :: l2)) from hb)] at hR
          change (pr q (.ex (if bnd (cls t) = 4 then 3 else bnd (cls t))) l2).bind (fun g l1=>pr q (.exl a (one 11 t.t 0 p ((one k tt n p ks).app g))) l1) = R at hR
          have h56 : cls t ≠ 56:=by intro e;rw [e] at hb;exact absurd hb (by simp [bnd])
          obtain ⟨v,hv⟩ : ∃ v,bnd (cls t) = v:=⟨_,rfl⟩
          have CB:=fun w=>binding_any t w
          rw [hv] at hR hb CB
          have hva : (a : Int) < v:=by omega
          obtain ⟨v',hv'⟩ : ∃ v',(if v = 4 then 3 else v) = v':=⟨_,rfl⟩
          rw [hv'] at hR
          have CE:=fun W h=>(H q (by omega)).ex v' b m T l2 W h
          cases he : pr q (.ex v') l2 with
          | out=>rw [he] at hR;exact absurd hR.symm hr
          | bad p2 =>
            rw [he] at hR CE
            simp only [PR.bind] at hR
            subst hR
            by_cases h4 : v = 4
            · rw [if_pos h4] at hv'
              subst hv' h4
              go_wp2_with (first | (go_at_call 33;refine (token_any b m T l2 t _ hL.tk.ps).mono ?_;rintro e w2 ⟨rfl,hb2⟩;have T2:=hL.tk.below hb2) | (go_at_call 140;refine (CB _).mono ?_;rintro e w3 ⟨rfl,hb3⟩;have T2:=T2.below hb3) | (go_at_call 95;refine (take_p b m T l2 t _ T2.ps h56).mono ?_;rintro e w3 ⟨rfl,hT3⟩;have T2:=(T2.trans hT3).alloc (.cells #[.int .i64 t.k,.string ⟨t.t.toArray⟩,.int .i64 t.v,.int .i64 t.p] 79)) | (go_at_call 127;refine (CE _ T2.ps (by simp)).mono ?_;rintro e w3 ⟨he,hk⟩;unfold refp at he;subst he))
              exact ⟨rfl,rfl,T2.ky.trans hk⟩
            · rw [if_neg h4] at hv'
              subst hv'
              have h4' : ¬ (v : Int) = 4:=by omega
              go_wp2_with (first | (go_at_call 33;refine (token_any b m T l2 t _ hL.tk.ps).mono ?_;rintro e w2 ⟨rfl,hb2⟩;have T2:=hL.tk.below hb2) | (go_at_call 140;refine (CB _).mono ?_;rintro e w3 ⟨rfl,hb3⟩;have T2:=T2.below hb3) | (go_at_call 95;refine (take_p b m T l2 t _ T2.ps h56).mono ?_;rintro e w3 ⟨rfl,hT3⟩;have T2:=(T2.trans hT3).alloc (.cells #[.int .i64 t.k,.string ⟨t.t.toArray⟩,.int .i64 t.v,.int .i64 t.p] 79)) | (go_at_call 127;refine (CE _ T2.ps (by simp)).mono ?_;rintro e w3 ⟨he,hk⟩;unfold refp at he;subst he))
              exact ⟨rfl,rfl,T2.ky.trans hk⟩
          | ok g l3 =>
            rw [he] at hR CE
            simp only [PR.bind] at hR
            have hR : Hid (pr q (.exl a (one 11 t.t 0 p ((one k tt n p ks).app g))) l3 = R):=hR
            by_cases h4 : v = 4
            · rw [if_pos h4] at hv'
              subst hv' h4
              go_wp2_with (first | (go_at_call 33;refine (token_any b m T l2 t _ hL.tk.ps).mono ?_;rintro e w2 ⟨rfl,hb2⟩;have L2:=hL.below hb2) | (go_at_call 140;refine (CB _).mono ?_;rintro e w3 ⟨rfl,hb3⟩;first | (have S2:=S2.below hb3;have L2:=L2.below hb3) | (have L2:=L2.below hb3)) | (go_at_call 95;refine (take_p b m T l2 t _ L2.tk.ps h56).mono ?_;rintro e w3 ⟨rfl,hT3⟩;have L2:=(L2.took hT3).alloc (.cells #[.int .i64 t.k,.string ⟨t.t.toArray⟩,.int .i64 t.v,.int .i64 t.p] 79);have S2:=Bx.new w3 79 #[.int .i64 t.k,.string ⟨t.t.toArray⟩,.int .i64 t.v,.int .i64 t.p];have s1 : w3.heap.size ≠ b:=by have:=hT3.ps.lt;omega) | (go_at_call 127;refine (CE _ L2.tk.ps (by simp)).mono ?_;rintro e w4 ⟨k2,tt2,n2,p2,a2,c2,ks2,rfl,rfl,hTN,hTk⟩;have hX4:=L2.box.lt;have L5:=(L2.took hTk).alloc (.cells #[.int .i64 (k2),.string ⟨(tt2).toArray⟩,.int .i64 (n2),.int .i64 (p2),.slice a2 ks2.len c2] 24);have S5:=(S2.ky hTk.ky s1).alloc (.cells #[.int .i64 (k2),.string ⟨(tt2).toArray⟩,.int .i64 (n2),.int .i64 (p2),.slice a2 ks2.len c2] 24);have Q5:=Bx.new w4 24 #[.int .i64 k2,.string ⟨tt2.toArray⟩,.int .i64 n2,.int .i64 p2,.slice a2 ks2.len c2];have M5:=(hTN.mono (Q:=fun g=>W.heap.size < g ∧ g ≠ X) (fun g hg _=>⟨by have:=L2.lt;omega,by omega⟩)).alloc (.cells #[.int .i64 (k2),.string ⟨(tt2).toArray⟩,.int .i64 (n2),.int .i64 (p2),.slice a2 ks2.len c2] 24);obtain ⟨w5,hw5⟩ : ∃ w5,w4.alloc (.cells #[.int .i64 (k2),.string ⟨(tt2).toArray⟩,.int .i64 (n2),.int .i64 (p2),.slice a2 ks2.len c2] 24) = w5:=⟨_,rfl⟩;rw [hw5] at L5 S5 Q5 M5;obtain ⟨p0,p1,p2',p3,p4⟩:=L5.box.five;obtain ⟨q0,q1,q2,q3,q4⟩:=L5.box.fiveA;obtain ⟨f0,f1,f2,f3,f4⟩:=L5.box.frozen5A;have s1':=S5.c 1 _ rfl;obtain ⟨r0,r1,r2,r3,r4⟩:=Q5.five))
              have hX5:=L5.box.lt
              have hlt5:=L5.lt
              have M6:=TN.made (cur:=#[.int .i64 k,.string ⟨tt.toArray⟩,.int .i64 n,.int .i64 p,.slice a1 ks.len c1,.int .i64 k2,.string ⟨tt2.toArray⟩,.int .i64 n2,.int .i64 p2,.slice a2 ks2.len c2]) (c:=2) (L5.tn.kf.app M5.kf) (by constructor <;> omega) rfl (by unfold maxLen;omega) 11 t.t 0 p
              go_roundg (q + 1)
              case measure=>omega
              case rel=>exact ⟨q,_,_,_,_,_,_,_,l3,by omega,(L5.alloc _).put M6,hR,by omega⟩
            · rw [if_neg h4] at hv'
              subst hv'
              have h4' : ¬ (v : Int) = 4:=by omega
              go_wp2_with (first | (go_at_call 33;refine (token_any b m T l2 t _ hL.tk.ps).mono ?_;rintro e w2 ⟨rfl,hb2⟩;have L2:=hL.below hb2) | (go_at_call 140;refine (CB _).mono ?_;rintro e w3 ⟨rfl,hb3⟩;first | (have S2:=S2.below hb3;have L2:=L2.below hb3) | (have L2:=L2.below hb3)) | (go_at_call 95;refine (take_p b m T l2 t _ L2.tk.ps h56).mono ?_;rintro e w3 ⟨rfl,hT3⟩;have L2:=(L2.took hT3).alloc (.cells #[.int .i64 t.k,.string ⟨t.t.toArray⟩,.int .i64 t.v,.int .i64 t.p] 79);have S2:=Bx.new w3 79 #[.int .i64 t.k,.string ⟨t.t.toArray⟩,.int .i64 t.v,.int .i64 t.p];have s1 : w3.heap.size ≠ b:=by have:=hT3.ps.lt;omega) | (go_at_call 127;refine (CE _ L2.tk.ps (by simp)).mono ?_;rintro e w4 ⟨k2,tt2,n2,p2,a2,c2,ks2,rfl,rfl,hTN,hTk⟩;have hX4:=L2.box.lt;have L5:=(L2.took hTk).alloc (.cells #[.int .i64 (k2),.string ⟨(tt2).toArray⟩,.int .i64 (n2),.int .i64 (p2),.slice a2 ks2.len c2] 24);have S5:=(S2.ky hTk.ky s1).alloc (.cells #[.int .i64 (k2),.string ⟨(tt2).toArray⟩,.int .i64 (n2),.int .i64 (p2),.slice a2 ks2.len c2] 24);have Q5:=Bx.new w4 24 #[.int .i64 k2,.string ⟨tt2.toArray⟩,.int .i64 n2,.int .i64 p2,.slice a2 ks2.len c2];have M5:=(hTN.mono (Q:=fun g=>W.heap.size < g ∧ g ≠ X) (fun g hg _=>⟨by have:=L2.lt;omega,by omega⟩)).alloc (.cells #[.int .i64 (k2),.string ⟨(tt2).toArray⟩,.int .i64 (n2),.int .i64 (p2),.slice a2 ks2.len c2] 24);obtain ⟨w5,hw5⟩ : ∃ w5,w4.alloc (.cells #[.int .i64 (k2),.string ⟨(tt2).toArray⟩,.int .i64 (n2),.int .i64 (p2),.slice a2 ks2.len c2] 24) = w5:=⟨_,rfl⟩;rw [hw5] at L5 S5 Q5 M5;obtain ⟨p0,p1,p2',p3,p4⟩:=L5.box.five;obtain ⟨q0,q1,q2,q3,q4⟩:=L5.box.fiveA;obtain ⟨f0,f1,f2,f3,f4⟩:=L5.box.frozen5A;have s1':=S5.c 1 _ rfl;obtain ⟨r0,r1,r2,r3,r4⟩:=Q5.five))
              have hX5:=L5.box.lt
              have hlt5:=L5.lt
              have M6:=TN.made (cur:=#[.int .i64 k,.string ⟨tt.toArray⟩,.int .i64 n,.int .i64 p,.slice a1 ks.len c1,.int .i64 k2,.string ⟨tt2.toArray⟩,.int .i64 n2,.int .i64 p2,.slice a2 ks2.len c2]) (c:=2) (L5.tn.kf.app M5.kf) (by constructor <;> omega) rfl (by unfold maxLen;omega) 11 t.t 0 p
              go_roundg (q + 1)
              case measure=>omega
              case rel=>exact ⟨q,_,_,_,_,_,_,_,l3,by omega,(L5.alloc _).put M6,hR,by omega⟩
        · rw [if_neg (show ¬ a < bnd (hc (t :: l2)) from hb)] at hR
          subst hR
          go_wp2_with (first | (go_at_call 33;refine (token_any b m T l2 t _ hL.tk.ps).mono ?_;rintro e w2 ⟨rfl,hb2⟩) | (go_at_call 140;refine (binding_any t _).mono ?_;rintro e w3 ⟨rfl,hb3⟩;have hB:=hb2.trans (hb3.mono hb2.size);have R3:=hL.res.below hB;have L3:=hL.box.below hB;obtain ⟨q0,q1,q2,q3,q4⟩:=R3.five;obtain ⟨f0,f1,f2,f3,f4⟩:=R3.frozen5;obtain ⟨p0,p1,p2,p3,p4⟩:=L3.five))
          refine bodyPost_ret (v:=(.agg #[.int .i64 (k),.string ⟨(tt).toArray⟩,.int .i64 (n),.int .i64 (p),.slice a1 ks.len c1])) (by simp [results,Tryz.results127,go_sem,q0,q1,q2,q3,q4]) rfl ?_
          exact PN.five (hL.tn.below hB) (hL.tk.below hB) (fun g hg=>hg.1) hlt.2
end Go.Proofs.YtlgkfhipobdcfaaGreatDoor


namespace Go.Proofs.YtlgkfhipobdcfaaGreatDoor
open Go.RowKit
def spnF : Nat → (Nat → Bool) → List UInt8 → Nat
  | 0,_,_=>0
  | _ + 1,_,[]=>0
  | n + 1,f,c :: t=>if f (rnL (c :: t)) then wdL (c :: t) + spnF n f (t.drop (wdL (c :: t) - 1)) else 0
theorem spnF_eq (f : Nat → Bool) : ∀ (n : Nat) (l : List UInt8),l.length ≤ n → spnF n f l = spn f l
  | 0,l,h=>by
    have : l = []:=List.eq_nil_of_length_eq_zero (by omega)
    subst this;rw [spn_nil];rfl
  | n + 1,[],_=>by rw [spn_nil];rfl
  | n + 1,c :: t,h=>by
    rw [spn,spnF]
    split
    · rw [spnF_eq f n _ (by rw [List.length_drop];simp at h;omega)]
    · rfl
def qtF : Nat → UInt8 → List UInt8 → Nat → List UInt8 → QR
  | 0,_,_,_,_=>.bad 4 0
  | _ + 1,_,[],_,_=>.bad 4 0
  | n + 1,q,c :: t,i,acc =>
    if c.toNat = 10 then .bad 4 0
    else if c = q then (if 10000 < acc.length then .bad 14 0 else .ok acc (i + 1))
    else if c.toNat = 92 then
      if t = [] then .bad 4 0
      else if (esc t).2 = 0 then .bad 4 i
      else qtF n q (t.drop (esc t).2) (i + 1 + (esc t).2) (acc ++ (esc t).1)
    else qtF n q t (i + 1) (acc ++ [c])
theorem qtF_eq (q : UInt8) : ∀ (n : Nat) (l : List UInt8) (i : Nat) (acc : List UInt8),l.length ≤ n → qtF n q l i acc = qt q l i acc
  | 0,l,i,acc,h=>by
    have : l = []:=List.eq_nil_of_length_eq_zero (by omega)
    subst this;rw [qt_nil];rfl
  | n + 1,[],i,acc,_=>by rw [qt_nil];rfl
  | n + 1,c :: t,i,acc,h=>by
    simp only [List.length_cons] at h
    rw [qt,qtF]
    rw [qtF_eq q n _ _ _ (show (t.drop (esc t).2).length ≤ n by rw [List.length_drop];omega),qtF_eq q n t _ _ (by omega)]
def stpF (l : List UInt8) : St :=
  if rnL l = 32 ∨ rnL l = 9 ∨ rnL l = 10 ∨ rnL l = 13 then .skip 1
  else if Lib.hasPrefix l [45,45] then .skip (spnF l.length (fun r=>decide (r ≠ 10)) l)
  else if letB (rnL l) then
    if 40 < spnF l.length inNm l then .bad 14 0
    else .tok (if wordB (l.take (spnF l.length inNm l)) then 2 else 1) (l.take (spnF l.length inNm l)) 0 (spnF l.length inNm l)
  else if digB (rnL l) then
    if W.parE (l.take (spnF l.length inNm l)) ≠ 0 then .bad (W.parE (l.take (spnF l.length inNm l))) 0
    else .tok 3 (l.take (spnF l.length inNm l)) (W.parN (l.take (spnF l.length inNm l))) (spnF l.length inNm l)
  else if rnL l = 39 ∨ rnL l = 34 then
    match qtF (l.drop 1).length (l.headD 0) (l.drop 1) 1 [] with
    | .ok v n=>.tok 4 v 0 n
    | .bad c o=>.bad c o
  else if sgz l = 0 then .bad 4 0
  else .tok 5 (l.take (sgz l)) 0 (sgz l)
theorem stpF_eq (l : List UInt8) : stpF l = stp l:=by
  unfold stpF stp
  rw [spnF_eq _ _ _ (Nat.le_refl _),spnF_eq _ _ _ (Nat.le_refl _),qtF_eq _ _ _ _ _ (Nat.le_refl _)]
  rfl
def scnF : Nat → List UInt8 → Nat → List Tok → Res
  | 0,_,p,acc=>.ok (acc ++ [⟨6,[],0,p⟩])
  | _ + 1,[],p,acc=>.ok (acc ++ [⟨6,[],0,p⟩])
  | m + 1,c :: u,p,acc =>
    match stpF (c :: u) with
    | .skip n=>scnF m (u.drop (n - 1)) (p + n) acc
    | .tok k t v n=>scnF m (u.drop (n - 1)) (p + n) (acc ++ [⟨k,t,v,p⟩])
    | .bad d o=>.bad d (p + o)
theorem scnF_eq : ∀ (m : Nat) (l : List UInt8) (p : Nat) (acc : List Tok),l.length ≤ m → scnF m l p acc = scn l p acc
  | 0,l,p,acc,h=>by
    have : l = []:=List.eq_nil_of_length_eq_zero (by omega)
    subst this;rw [scn_nil];rfl
  | m + 1,[],p,acc,_=>by rw [scn_nil];rfl
  | m + 1,c :: u,p,acc,h=>by
    simp only [List.length_cons] at h
    rw [scn,scnF,stpF_eq]
    cases stp (c :: u) with
    | skip n=>simp only;rw [scnF_eq m _ _ _ (by rw [List.length_drop];omega)]
    | tok k t v n=>simp only;rw [scnF_eq m _ _ _ (by rw [List.length_drop];omega)]
    | bad d o=>rfl
def scTF (l : List UInt8) : List Tok × Int × Int :=
  if 20000 < l.length then ([],14,-1) else match scnF l.length l 0 [] with | .ok ts=>(ts,0,0) | .bad c p=>([],c,p)
theorem scTF_eq (l : List UInt8) : scTF l = scT l:=by
  have h:=scnF_eq l.length l 0 [] (Nat.le_refl _)
  unfold scTF scT
  split
  · rfl
  · cases hs : scn l 0 [] with
    | ok ts=>rw [hs] at h;simp only [h]
    | bad c p=>rw [hs] at h;simp only [h]
theorem under27 : Tryz.prog.underlying 27 = some (.struct (Tryz.prog.fieldsOf 27)):=by kernel_rfl
theorem stood27 : Tryz.prog.stoodInHeld 27 = false:=by kernel_rfl
theorem eql27 (a b c d : Int) (W : World) : (binOp .eql 27 (.agg #[.int .i64 a,.int .i64 b]) (.agg #[.int .i64 c,.int .i64 d])).run Tryz.prog W = .ok (.bool (decide (a = c ∧ b = d))) W:=by
  rw [run_eql_struct,run_equalIn_agg W _ _ _ _ under27 stood27]
  simp [go_sem]
  by_cases h1 : a = c <;> by_cases h2 : b = d <;> simp [h1,h2]
theorem neq27 (a b c d : Int) (W : World) : (binOp .neq 27 (.agg #[.int .i64 a,.int .i64 b]) (.agg #[.int .i64 c,.int .i64 d])).run Tryz.prog W = .ok (.bool (!decide (a = c ∧ b = d))) W:=by
  rw [run_neq_struct,run_equalIn_agg W _ _ _ _ under27 stood27]
  simp [go_sem]
  by_cases h1 : a = c <;> by_cases h2 : b = d <;> simp [h1,h2]
end Go.Proofs.YtlgkfhipobdcfaaGreatDoor
