import Derived.Test.YtkjbgggghigapaaGreatCg00
import Derived.Test.YtkjbgggghigapaaGreatRows
import Derived.WalkKit
import Derived.WalkSpells
import Derived.WalkLawsBesides
import Derived.WalkSmall
import Derived.Lib.OthersKept
import Derived.Deep.LoopGhost
import Derived.Lib.IndexAny
import Derived.Lib.ItoaNum
import Derived.Lib.IndexLaws
import Derived.Laws.BytesArg
import Derived.Deep.RegionHeld3
import Derived.Deep.AppendLies
import Derived.OwnWalk
import Derived.Laws.Pointers
namespace Go.Proofs.YtkjbgggghigapaaGreat
def G (b:Prop) (m:Nat):PR→Prop
 | .ok _ l=>l.length<m
 | .bad _=>True
 | .out=>¬b
theorem G.mono {b b':Prop} {m m':Nat} {x:PR} (h:G b' m' x) (hb:b→b') (hm:m'≤m):G b m x:=by
 cases x with
 | ok f l=>exact Nat.lt_of_lt_of_le h hm
 | bad p=>exact trivial
 | out=>exact fun e=>h (hb e)
theorem G.bind {b:Prop} {a m:Nat} {x:PR} {k:F→List Tok→PR} (h:G b a x) (hk:∀f l,l.length<a→G b m (k f l)):G b m (x.bind k):=by
 cases x with
 | ok f l=>exact hk f l h
 | bad p=>exact trivial
 | out=>exact h
theorem tail_len {l:List Tok} (h:hc l≠56):l.tail.length+1=l.length:=by
 cases l with
 | nil=>exact absurd rfl h
 | cons t l=>rfl
theorem G.need {b:Prop} {m c:Nat} {l:List Tok} {k:List Tok→PR} (hc':c≠56) (h:l.tail.length+1=l.length→G b m (k l.tail)):G b m (need c l k):=by
 unfold Go.Proofs.YtkjbgggghigapaaGreat.need
 split
 ·next e=>exact h (tail_len (by rw[e];exact hc'))
 ·exact trivial
theorem G.nam {b:Prop} {m:Nat} {q:Int} {l:List Tok} {k:F→List Tok→PR} (h:∀f,l.tail.length+1=l.length→G b m (k f l.tail)):G b m (nam q l k):=by
 unfold Go.Proofs.YtkjbgggghigapaaGreat.nam
 split
 ·next e=>exact h _ (tail_len (by rw[e];decide))
 ·exact trivial
def rk:J→Nat
 | .blk _=>3 | .bk _ _=>2 | .stat=>1 | .lst _=>3 | .nms _=>0 | .ifs _=>3 | .asg _=>0
 | .ex _=>2 | .exl _ _=>0 | .opd=>1 | .suf=>0 | .sufl _=>0 | .tab _=>4 | .fld=>3
def st:J→Nat
 | .blk _=>0 | .bk _ _=>0 | .stat=>1 | .lst _=>1 | .nms _=>0 | .ifs _=>1 | .asg _=>0
 | .ex _=>1 | .exl _ _=>0 | .opd=>1 | .suf=>1 | .sufl _=>0 | .tab _=>0 | .fld=>1
section
variable {rec:J→List Tok→PR} {n:Nat} (ih:∀j l,G (8 * l.length+rk j<n) (l.length+1 - st j) (rec j l))
include ih
theorem g_rec {b:Prop} {m:Nat} (j:J) (l:List Tok) (hb:b→8 * l.length+rk j<n) (hm:l.length+1 - st j≤m):G b m (rec j l):=(ih j l).mono hb hm
theorem g_body {b:Prop} {m:Nat} {l:List Tok} {k:F→List Tok→PR} (hb:b→8 * l.length<n+2) (h:∀f l1,l1.length+1<l.length→G b m (k f l1)):G b m (bodyP rec l k):=by
 unfold bodyP
 refine .need (by decide) fun e=>.bind (g_rec ih (.blk false) _ (fun x=>by have:=hb x;simp only[rk];omega) (Nat.le_refl _)) fun f l1 h1=>.need (by decide) fun e1=>h f _ (by simp only[st] at h1;omega)
end
set_option maxHeartbeats 1000000 in
theorem g_step {rec:J→List Tok→PR} {n:Nat} (ih:∀j l,G (8 * l.length+rk j<n) (l.length+1 - st j) (rec j l)) (j:J) (l:List Tok):
 G (8 * l.length+rk j<n+1) (l.length+1 - st j) (stp' rec j l):=by
 have R:=fun {b:Prop} (j:J) (l:List Tok) (hb:b→8 * l.length+rk j<n)=>g_rec ih (b:=b) j l hb (Nat.le_refl _)
 have lastG:l.tail.length+1=l.length→∀m,l.length≤m→G (8 * l.length<n+1) m (lastP rec l):=by
  intro e m hm
  unfold lastP
  split
  ·next h=>have:=tail_len (l:=l.tail) (by rw[h];decide);show _<_;omega
  ·split
   ·show _<_;omega
   ·refine .bind (R (.lst .nil) _ (fun x=>by simp only[rk];omega)) fun f l1 h1=>?_
    show _<_
    simp only[st] at h1
    split
    ·have :l1.tail.length≤l1.length:=by simp
     omega
    ·omega
 have nmsG:∀(f:F) (l1:List Tok),l1.length<l.length→G (8 * l.length<n+1) l.length (rec (.nms f) l1):=fun f l1 h=>g_rec ih _ _ (fun x=>by simp only[rk];omega) (by simp only[st];omega)
 have funG:l.tail.length+1=l.length→G (8 * l.length<n+1) l.length (funP rec l):=by
  intro e
  unfold funP parP
  refine .nam fun m e1=>.need (by decide) fun e2=>.bind (a:=l.length - 1) ?_ fun ps l1 h1=>.need (by decide) fun e3=>.bind (R (.blk false) _ (fun x=>by simp only[rk];omega)) fun b l2 h2=>.need (by decide) fun e4=>?_
  ·split
   ·show _<_;omega
   ·exact .nam fun f e5=>g_rec ih _ _ (fun x=>by simp only[rk];omega) (by simp only[st];omega)
  ·show _<_
   simp only[st] at h2
   omega
 cases j with
 | blk c=>
   refine .bind (R _ _ (fun x=>by simp only[rk] at x⊢;omega)) fun f l1 h1=>?_
   show _<_
   simp only[st] at h1⊢;omega
 | bk c a=>
   simp only[stp',st,rk]
   split
   ·next h=>have:=tail_len (l:=l) (by rw[h];decide);exact g_rec ih _ _ (fun x=>by simp only[rk];omega) (by simp only[st];omega)
   ·split
    ·next h=>exact .bind ((lastG (tail_len (by rw[h];decide)) l.length (Nat.le_refl _)).mono (fun x=>by omega) (Nat.le_refl _)) fun f l1 h1=>by show _<_;omega
    ·split
     ·next h=>
      refine .bind ((funG (tail_len (by rw[h.2];decide))).mono (fun x=>by omega) (Nat.le_refl _)) fun f l1 h1=>?_
      exact g_rec ih _ _ (fun x=>by simp only[rk];omega) (by simp only[st];omega)
     ·split
      ·show _<_;omega
      ·refine .bind (R .stat l (fun x=>by simp only[rk];omega)) fun f l1 h1=>?_
       simp only[st] at h1
       exact g_rec ih _ _ (fun x=>by simp only[rk];omega) (by simp only[st];omega)
 | stat=>
   simp only[stp',st,rk]
   split
   ·exact g_body ih (fun x=>by omega) fun f l1 h1=>by show _<_;omega
   ·split
    ·next h=>
     have:=tail_len (l:=l) (by rw[h];decide)
     unfold whileP
     refine .bind (R (.ex 0) _ (fun x=>by simp only[rk];omega)) fun f l1 h1=>?_
     simp only[st] at h1
     exact g_body ih (fun x=>by omega) fun f l1 h1=>by show _<_;omega
    ·split
     ·next h=>
      have:=tail_len (l:=l) (by rw[h];decide)
      unfold ifP
      refine .bind (R (.ifs .nil) _ (fun x=>by simp only[rk];omega)) fun f l1 h1=>?_
      simp only[st] at h1
      show _<_;omega
     ·split
      ·next h=>
       have:=tail_len (l:=l) (by rw[h];decide)
       unfold forP
       refine .nam fun m e1=>?_
       split
       ·next h2=>
        have:=tail_len (l:=l.tail.tail) (by rw[h2];decide)
        unfold numP
        refine .bind (R (.ex 0) _ (fun x=>by simp only[rk];omega)) fun f l1 h1=>.need (by decide) fun e2=>.bind (R (.ex 0) _ (fun x=>by simp only[rk,st] at h1⊢;omega)) fun g l2 h3=>?_
        simp only[st] at h1 h3
        split
        ·next h4=>
         have:=tail_len (l:=l2) (by rw[h4];decide)
         refine .bind (R (.ex 0) _ (fun x=>by simp only[rk];omega)) fun f l1 h1=>?_
         simp only[st] at h1
         exact g_body ih (fun x=>by omega) fun f l1 h1=>by show _<_;omega
        ·exact g_body ih (fun x=>by omega) fun f l1 h1=>by show _<_;omega
       ·refine .bind (R (.nms m) _ (fun x=>by simp only[rk];omega)) fun ns l1 h1=>.need (by decide) fun e2=>.bind (R (.lst ns) _ (fun x=>by simp only[rk,st] at h1⊢;omega)) fun g l2 h3=>?_
        simp only[st] at h1 h3
        exact g_body ih (fun x=>by omega) fun f l1 h1=>by show _<_;omega
      ·split
       ·next h=>
        have:=tail_len (l:=l) (by rw[h];decide)
        unfold locP
        refine .nam fun m e1=>.bind (R (.nms m) _ (fun x=>by simp only[rk];omega)) fun ns l1 h1=>?_
        simp only[st] at h1
        split
        ·next h2=>
         have:=tail_len (l:=l1) (by rw[h2];decide)
         refine .bind (R (.lst ns) _ (fun x=>by simp only[rk];omega)) fun f l2 h3=>?_
         simp only[st] at h3
         show _<_;omega
        ·show _<_;omega
       ·split
        ·next h=>
         have:=tail_len (l:=l) (by rw[h];decide)
         show _<_;omega
        ·unfold asgP tgt
         refine .bind (R .suf _ (fun x=>by simp only[rk];omega)) fun f l1 h1=>?_
         simp only[st] at h1
         split
         ·split
          ·refine .bind (R (.asg f) _ (fun x=>by simp only[rk];omega)) fun ts l2 h2=>.need (by decide) fun e2=>.bind (R (.lst ts) _ (fun x=>by simp only[rk,st] at h2⊢;omega)) fun g l3 h3=>?_
           simp only[st] at h2 h3
           show _<_;omega
          ·exact trivial
         ·split
          ·show _<_;omega
          ·exact trivial
 | lst a=>
   simp only[stp',st,rk]
   refine .bind (R (.ex 0) _ (fun x=>by simp only[rk];omega)) fun f l1 h1=>?_
   simp only[st] at h1
   split
   ·next h=>
    have:=tail_len (l:=l1) (by rw[h];decide)
    exact g_rec ih _ _ (fun x=>by simp only[rk];omega) (by simp only[st];omega)
   ·show _<_;omega
 | nms a=>
   simp only[stp',st,rk]
   split
   ·next h=>
    have:=tail_len (l:=l) (by rw[h];decide)
    exact .nam fun f e=>g_rec ih _ _ (fun x=>by simp only[rk];omega) (by simp only[st];omega)
   ·show _<_;omega
 | ifs a=>
   simp only[stp',st,rk,brP]
   refine .bind (a:=l.length - 1) (.bind (R (.ex 0) _ (fun x=>by simp only[rk];omega)) fun e l1 h1=>.need (by decide) fun e1=>.bind (R (.blk false) _ (fun x=>by simp only[rk,st] at h1⊢;omega)) fun b l2 h2=>?_) fun f l1 h1=>?_
   ·simp only[st] at h1 h2
    show _<_;omega
   ·split
    ·next h=>
     have:=tail_len (l:=l1) (by rw[h];decide)
     exact g_rec ih _ _ (fun x=>by simp only[rk];omega) (by simp only[st];omega)
    ·split
     ·next h=>
      have:=tail_len (l:=l1) (by rw[h];decide)
      refine .bind (R (.blk false) _ (fun x=>by simp only[rk];omega)) fun b l2 h2=>.need (by decide) fun e1=>?_
      simp only[st] at h2
      show _<_;omega
     ·exact .need (by decide) fun e1=>by show _<_;omega
 | asg a=>
   simp only[stp',st,rk,tgt]
   split
   ·next h=>
    have:=tail_len (l:=l) (by rw[h];decide)
    refine .bind (R .suf _ (fun x=>by simp only[rk];omega)) fun f l1 h1=>?_
    simp only[st] at h1
    split
    ·exact g_rec ih _ _ (fun x=>by simp only[rk];omega) (by simp only[st];omega)
    ·exact trivial
   ·show _<_;omega
 | ex a=>
   simp only[stp',st,rk]
   refine .bind (R .opd _ (fun x=>by simp only[rk];omega)) fun f l1 h1=>?_
   simp only[st] at h1
   exact g_rec ih _ _ (fun x=>by simp only[rk];omega) (by simp only[st];omega)
 | exl a f=>
   simp only[stp',st,rk]
   split
   ·next h=>
    have:=tail_len (l:=l) (by intro e;rw[e] at h;exact absurd h (by simp[bnd]))
    refine .bind (R (.ex _) _ (fun x=>by simp only[rk];omega)) fun g l1 h1=>?_
    simp only[st] at h1
    exact g_rec ih _ _ (fun x=>by simp only[rk];omega) (by simp only[st];omega)
   ·show _<_;omega
 | opd=>
   simp only[stp',st,rk]
   have tl:∀c,hc l=c→c≠56→l.tail.length+1=l.length:=fun c h h2=>tail_len (by rw[h];exact h2)
   split
   ·exact g_rec ih _ _ (fun x=>by simp only[rk];omega) (by simp only[st];omega)
   ·split
    ·next h=>
     have:=tl _ h (by decide)
     unfold tabP
     refine .bind (R (.tab .nil) _ (fun x=>by simp only[rk];omega)) fun f l1 h1=>.need (by decide) fun e1=>?_
     simp only[st] at h1
     show _<_;omega
    ·split
     ·next h=>
      have :l.tail.length+1=l.length:=by rcases h with h | h | h<;>exact tl _ h (by decide)
      refine .bind (R .opd _ (fun x=>by simp only[rk];omega)) fun f l1 h1=>?_
      simp only[st] at h1
      show _<_;omega
     ·split
      ·next h=>have:=tl _ h (by decide);show _<_;omega
      ·split
       ·next h=>have:=tl _ h (by decide);show _<_;omega
       ·split
        ·next h=>have:=tl _ h (by decide);show _<_;omega
        ·split
         ·next h=>have:=tl _ h (by decide);show _<_;omega
         ·split
          ·next h=>have:=tl _ h (by decide);show _<_;omega
          ·exact trivial
 | suf=>
   simp only[stp',st,rk,stemP]
   refine .bind (a:=l.length) ?_ fun f l1 h1=>g_rec ih _ _ (fun x=>by simp only[rk];omega) (by simp only[st];omega)
   split
   ·next h=>
    have:=tail_len (l:=l) (by rw[h];decide)
    refine .bind (R (.ex 0) _ (fun x=>by simp only[rk];omega)) fun e l1 h1=>.need (by decide) fun e1=>?_
    simp only[st] at h1
    show _<_;omega
   ·exact .nam fun f e=>by show _<_;omega
 | sufl f=>
   simp only[stp',st,rk,argP]
   split
   ·next h=>
    have:=tail_len (l:=l) (by rw[h];decide)
    refine .bind (R (.ex 0) _ (fun x=>by simp only[rk];omega)) fun e l1 h1=>.need (by decide) fun e1=>?_
    simp only[st] at h1
    exact g_rec ih _ _ (fun x=>by simp only[rk];omega) (by simp only[st];omega)
   ·split
    ·next h=>
     have:=tail_len (l:=l) (by rw[h];decide)
     exact .nam fun f e=>g_rec ih _ _ (fun x=>by simp only[rk];omega) (by simp only[st];omega)
    ·split
     ·next h=>
      have:=tail_len (l:=l) (by rw[h];decide)
      refine .bind (a:=l.length) ?_ fun g l1 h1=>g_rec ih _ _ (fun x=>by simp only[rk];omega) (by simp only[st];omega)
      split
      ·next h2=>have:=tail_len (l:=l.tail) (by rw[h2];decide);show _<_;omega
      ·refine .bind (R (.lst f) _ (fun x=>by simp only[rk];omega)) fun e l1 h1=>.need (by decide) fun e1=>?_
       simp only[st] at h1
       show _<_;omega
     ·show _<_;omega
 | tab a=>
   simp only[stp',st,rk]
   split
   ·show _<_;omega
   ·refine .bind (R .fld _ (fun x=>by simp only[rk];omega)) fun f l1 h1=>?_
    simp only[st] at h1
    split
    ·next h=>
     have :l1.tail.length+1=l1.length:=by rcases h with h | h<;>exact tail_len (by rw[h];decide)
     exact g_rec ih _ _ (fun x=>by simp only[rk];omega) (by simp only[st];omega)
    ·show _<_;omega
 | fld=>
   simp only[stp',st,rk]
   split
   ·next h=>
    have:=tail_len (l:=l) (by rw[h];decide)
    refine .bind (R (.ex 0) _ (fun x=>by simp only[rk];omega)) fun e l1 h1=>.need (by decide) fun e1=>.need (by decide) fun e2=>.bind (R (.ex 0) _ (fun x=>by simp only[rk,st] at h1⊢;omega)) fun v l2 h2=>?_
    simp only[st] at h1 h2
    show _<_;omega
   ·split
    ·next h=>
     have:=tail_len (l:=l) (by rw[h.1];decide)
     have:=tail_len (l:=l.tail) (by rw[h.2];decide)
     refine .bind (R (.ex 0) _ (fun x=>by simp only[rk];omega)) fun v l2 h2=>?_
     simp only[st] at h2
     show _<_;omega
    ·refine .bind (R (.ex 0) _ (fun x=>by simp only[rk];omega)) fun v l2 h2=>?_
     simp only[st] at h2
     show _<_;omega
theorem g_all:∀(n:Nat) (j:J) (l:List Tok),G (8 * l.length+rk j<n) (l.length+1 - st j) (pr n j l)
 | 0,j,l=>by show ¬_;omega
 | n+1,j,l=>g_step (g_all n) j l
theorem pr_enough (n:Nat) (j:J) (l:List Tok) (h:8 * l.length+rk j<n):pr n j l≠ .out:=by
 intro e
 have:=g_all n j l
 rw[e] at this
 exact this h
theorem pr_len {n:Nat} {j:J} {l l':List Tok} {f:F} (h:pr n j l= .ok f l'):l'.length+st j≤l.length:=by
 have:=g_all n j l
 rw[h] at this
 have h2:l'.length<l.length+1 - st j:=this
 have :st j≤1:=by cases j<;>simp[st]
 omega
def chk (l:List Tok):PR:=(pr (8 * l.length+4) (.blk true) l).bind fun f m=>if hc m=56 then .ok f m else .bad (ha m)
theorem chk_some (l:List Tok):chk l≠ .out:=by
 have h:=pr_enough (8 * l.length+4) (.blk true) l (by simp only[rk];omega)
 unfold chk
 cases he:pr (8 * l.length+4) (.blk true) l with
 | out=>exact absurd he h
 | bad p=>simp[PR.bind]
 | ok f m=>simp only[PR.bind];split<;>simp
end Go.Proofs.YtkjbgggghigapaaGreat


namespace Go.Proofs.YtkjbgggghigapaaGreat
open Go.RowKit
theorem enters38 : ∀ args w,(callFunc 84 args).run Tryz.prog w = .ok (.enter 84 args) w:=enters_of Tryz.func84 (by kernel_rfl) rfl
theorem enters52 : ∀ args w,(callFunc 116 args).run Tryz.prog w = .ok (.enter 116 args) w:=enters_of Tryz.func116 (by kernel_rfl) rfl
theorem enters62 : ∀ args w,(callFunc 136 args).run Tryz.prog w = .ok (.enter 136 args) w:=enters_of Tryz.func136 (by kernel_rfl) rfl
set_option maxHeartbeats 400000 in
theorem inComment_any (r : Nat) (w : World) : Calls Tryz.prog 84 #[.int .i32 r] w fun e w'=>e = .returned (.bool (decide (r ≠ 10))) ∧ w' = w:=by
  go_enter Tryz.func84,Tryz.ntmps84
  go_wp2
  go_ret
  refine ⟨ret_bool ?_,rfl⟩
  rw [Bool.eq_iff_iff];simp;omega
set_option maxHeartbeats 400000 in
theorem isDigit_any (r : Nat) (w : World) (hr : r ≤ 1114111) : Calls Tryz.prog 136 #[.int .i32 r] w fun e w'=>e = .returned (.bool (digB r)) ∧ w' = w:=by
  go_enter Tryz.func136,Tryz.ntmps136
  go_wp2_with (go_at_call 87;refine (digit_any _ _).mono ?_;rintro e w' ⟨rfl,rfl⟩)
  go_ret
  exact ⟨rfl,rfl⟩
set_option maxHeartbeats 400000 in
theorem inName_any (r : Nat) (w : World) (hr : r ≤ 1114111) : Calls Tryz.prog 116 #[.int .i32 r] w fun e w'=>e = .returned (.bool (inNm r)) ∧ w' = w:=by
  cases h : letB r
  · go_enter Tryz.func116,Tryz.ntmps116
    go_wp2_with (first | (go_at_call 85;refine (letter_any _ _).mono ?_;rintro e w' ⟨rfl,rfl⟩) | (go_at_call 136;refine (isDigit_any _ _ hr).mono ?_;rintro e w' ⟨rfl,rfl⟩))
    go_ret
    exact ⟨ret_bool (by simp [inNm,h]),rfl⟩
  · go_enter Tryz.func116,Tryz.ntmps116
    go_wp2_with (first | (go_at_call 85;refine (letter_any _ _).mono ?_;rintro e w' ⟨rfl,rfl⟩) | (go_at_call 136;refine (isDigit_any _ _ hr).mono ?_;rintro e w' ⟨rfl,rfl⟩))
    go_ret
    exact ⟨ret_bool (by simp [inNm,h]),rfl⟩
theorem drop_ne (s : ByteArray) (p : Nat) (h : p < s.size) : s.data.toList.drop p ≠ []:=by
  intro e
  have:=congrArg List.length e
  rw [List.length_drop,Array.length_toList] at this
  have : s.data.size = s.size:=rfl
  simp at *
  omega
set_option maxHeartbeats 2000000 in
theorem span_any (s : ByteArray) (g : Nat) (f : Nat → Bool) (eg : ∀ args w,(callFunc g args).run Tryz.prog w = .ok (.enter g args) w)
    (hg : ∀ (r : Nat) (w : World),r ≤ 1114111 → Calls Tryz.prog g #[.int .i32 r] w fun e w'=>e = .returned (.bool (f r)) ∧ w' = w) (w : World) (_hs : s.size ≤ 9223372036854775807) :
    Calls Tryz.prog 83 #[.string s,.func (.func g) #[] #[]] w fun e w'=>e = .returned (.int .i64 (spn f s.data.toList)) ∧ Below w.heap.size w w':=by
  go_enter Tryz.func83,Tryz.ntmps83
  go_wp2
  go_loopg [] (s.size + 1) (fun gf wx=>∃ pos : Nat,pos ≤ s.size ∧ wx.heap[w.heap.size]? = some (.stringIter s pos) ∧ Hid (pos + spn f (s.data.toList.drop pos) = spn f s.data.toList) ∧ Below w.heap.size w wx ∧ s.size < pos + gf)
  case atStart=>exact ⟨0,Nat.zero_le _,World.iter_heap w s 0,by simp [Hid],(Below.refl _ _).alloc (Nat.le_refl _) _,by omega⟩
  case round =>
    obtain ⟨pos,hple,hi,hS,hB,hfu⟩:=hrel
    by_cases hps : pos < s.size
    · obtain ⟨g',rfl⟩ : ∃ g',gk = g' + 1:=⟨gk - 1,by omega⟩
      have hnx : ∀ ty,(Instr.next (.pointer (some ⟨w.heap.size,0,none⟩)) true ty).run Tryz.prog wr = .ok (.tuple #[.bool true,.int .i64 pos,.int .i32 (rn s pos)]) (wr.iterAt w.heap.size s (pos + wd s pos)):=fun ty=>Lib.run_next_any_at wr w.heap.size s pos ty hi hps
      have hwp:=wd_pos s pos
      have hwl:=wd_le s pos hps
      have hrl:=rn_le s pos
      have hi2:=Lib.iterAt_heap wr w.heap.size s pos (pos + wd s pos) hi
      have hB2:=Lib.below_iterAt hB (Nat.le_refl _) s (pos + wd s pos)
      have hlt:=(Array.getElem?_eq_some_iff.1 hi2).1
      obtain ⟨W,hW⟩ : ∃ W,wr.iterAt w.heap.size s (pos + wd s pos) = W:=⟨_,rfl⟩
      rw [hW] at hnx hi2 hB2
      have hC:=hg (rn s pos) W hrl
      cases hf : f (rn s pos)
      · have HN : Hid (spn f s.data.toList = pos):=by
          show _ = _
          rw [← hS.out,spn_no f _ (drop_ne s pos hps) (by rw [← rn_drop];exact hf)];rfl
        rw [hf] at hC
        clear hg hS hi hB hW hi2
        go_wp2_with ((go_at_fn g;refine hC.mono ?_;rintro e W' ⟨rfl,rfl⟩))
        go_ret
        exact ⟨ret1 (by rw [HN.out]),hB2⟩
      · have HN : Hid (pos + wd s pos + spn f (s.data.toList.drop (pos + wd s pos)) = spn f s.data.toList):=by
          show _ = _
          rw [← hS.out,spn_yes f _ (drop_ne s pos hps) (by rw [← rn_drop];exact hf),← wd_drop,List.drop_drop];omega
        rw [hf] at hC
        clear hg hS hi hB hW
        go_wp2_with ((go_at_fn g;refine hC.mono ?_;rintro e W' ⟨rfl,rfl⟩))
        go_roundg g'
        case measure=>omega
        case rel=>exact ⟨pos + wd s pos,hwl,hi2,HN,hB2,by omega⟩
    · have hnx : ∀ ty,(Instr.next (.pointer (some ⟨w.heap.size,0,none⟩)) true ty).run Tryz.prog wr = .ok (.tuple #[.bool false]) wr:=fun ty=>Lib.run_next_end_at wr w.heap.size s pos ty hi hps
      have HN : Hid (spn f s.data.toList = s.size):=by
        show _ = _
        have e : s.data.toList.drop pos = []:=List.drop_of_length_le (by rw [Array.length_toList];show s.size ≤ pos;omega)
        rw [← hS.out,e,spn_nil];omega
      clear hg hS hi
      go_wp2
      go_ret
      exact ⟨ret1 (by rw [HN.out]),hB⟩
def refu (c a : Int) : Ending:=.panicked [{ v:=.iface 107 (.agg #[.int .i64 c,.int .i64 a]),recovered:=false }]
set_option maxHeartbeats 400000 in
theorem refuse_any (c a : Int) (w : World) : Calls Tryz.prog 117 #[.int .i64 c,.int .i64 a] w fun e w'=>e = refu c a ∧ w' = w:=by
  go_enter Tryz.func117,Tryz.ntmps117
  go_wp2
  exact ⟨rfl,rfl,rfl⟩
theorem word_tail (s : ByteArray) (b : Bool) (h : b = wordL.contains s.toList) : b = wordB s.data.toList:=by rw [h,wordB,ByteArray.toList_eq]
set_option maxHeartbeats 4000000 in
theorem isWord_any (s : ByteArray) (w : World) : Calls Tryz.prog 118 #[.string s] w fun e w'=>e = .returned (.bool (wordB s.data.toList)) ∧ w' = w:=by
  go_enter Tryz.func118,Tryz.ntmps118
  go_wp2
  all_goals go_ret
  all_goals (refine ⟨ret_bool (word_tail s _ ?_),rfl⟩;generalize s.toList = l at *;simp only [wordL,List.contains_cons,List.contains_nil,Bool.or_false];simp [*])
  all_goals simp_all
theorem ext2 (s : ByteArray) : (s.extract 0 2).toList = s.data.toList.take 2:=by
  rw [ByteArray.toList_eq];simp
theorem head_at (s : ByteArray) (h : 0 < s.size) : s.data.toList.headD 0 = s[0]:=by
  obtain ⟨⟨l⟩⟩:=s
  cases l with
  | nil=>exact absurd h (by show ¬ 0 < 0;omega)
  | cons a l=>rfl
theorem sgz_two (s : ByteArray) (h : sgn2.contains (s.extract 0 2).toList = true) : (2 : Int) = sgz s.data.toList:=by
  rw [ext2] at h;unfold sgz;rw [if_pos h];rfl
theorem sgz_one (s : ByteArray) (h0 : 0 < s.size) (h : sgn2.contains (s.extract 0 2).toList = false) (h1 : 0 ≤ Lib.indexByte [43,45,42,37,60,62,61,35,40,41,123,125,91,93,59,44,46] s[0]) : (1 : Int) = sgz s.data.toList:=by
  rw [ext2] at h;unfold sgz;rw [h,head_at s h0,Lib.contains_iff_indexByte]
  rw [if_neg (by simp),if_pos (by unfold sgn1;exact decide_eq_true h1)];rfl
theorem sgz_none (s : ByteArray) (h0 : 0 < s.size) (h : sgn2.contains (s.extract 0 2).toList = false) (h1 : Lib.indexByte [43,45,42,37,60,62,61,35,40,41,123,125,91,93,59,44,46] s[0] < 0) : (0 : Int) = sgz s.data.toList:=by
  rw [ext2] at h;unfold sgz;rw [h,head_at s h0,Lib.contains_iff_indexByte]
  rw [if_neg (by simp),if_neg (by unfold sgn1;intro h2;have:=of_decide_eq_true h2;omega)];rfl
theorem sgn2_short (s : ByteArray) (h : ¬ 1 < s.size) : sgn2.contains (s.extract 0 2).toList = false:=by
  rw [ext2]
  cases hc : sgn2.contains (s.data.toList.take 2)
  · rfl
  · have : s.data.toList.take 2 ∈ sgn2:=by simpa using hc
    have h2 : (s.data.toList.take 2).length = 2:=by
      simp only [sgn2,List.mem_cons,List.not_mem_nil,or_false] at this
      rcases this with e | e | e | e | e | e <;> rw [e] <;> rfl
    rw [List.length_take,Array.length_toList] at h2
    have : s.data.size = s.size:=rfl
    omega
set_option maxHeartbeats 4000000 in
theorem signSize_any (s : ByteArray) (w : World) (h0 : 0 < s.size) (hs : s.size ≤ 9223372036854775807) : Calls Tryz.prog 122 #[.string s] w fun e w'=>e = .returned (.int .i64 (sgz s.data.toList)) ∧ w' = w:=by
  by_cases h1 : 1 < s.size
  · go_enter Tryz.func122,Tryz.ntmps122
    go_wp2_with (go_at_call 139;refine (Tryz.strings_IndexByte _ _ _).mono ?_;rintro e w' ⟨rfl,rfl⟩)
    all_goals (go_ret;refine ⟨ret1 ?_,rfl⟩)
    all_goals first
      | (exfalso;exact Bool.false_ne_true ((Eq.symm (by assumption : ((s.extract 0 2).toList == _) = false)).trans (by assumption)))
      | (exact sgz_two s (by simp only [sgn2,List.contains_cons,List.contains_nil,Bool.or_false];simp [*];done))
      | (exact sgz_one s h0 (by simp only [sgn2,List.contains_cons,List.contains_nil,Bool.or_false];simp [*];done) (by assumption))
      | (exact sgz_none s h0 (by simp only [sgn2,List.contains_cons,List.contains_nil,Bool.or_false];simp [*];done) (by assumption))
  · have H2 : Hid (sgn2.contains (s.extract 0 2).toList = false):=sgn2_short s h1
    go_enter Tryz.func122,Tryz.ntmps122
    go_wp2_with (go_at_call 139;refine (Tryz.strings_IndexByte _ _ _).mono ?_;rintro e w' ⟨rfl,rfl⟩)
    all_goals (go_ret;refine ⟨ret1 ?_,rfl⟩)
    all_goals first
      | (exact sgz_one s h0 H2.out (by assumption))
      | (exact sgz_none s h0 H2.out (by assumption))
end Go.Proofs.YtkjbgggghigapaaGreat


namespace Go.Proofs.YtkjbgggghigapaaGreat.W
open Go.RowKit
theorem hexP_dec (l:List UInt8) (h:allDec l=true):hexP l=false:=by
 match l with
 | []=>rfl
 | [_]=>rfl
 | a::b::t=>
   simp only[allDec,List.all_cons,Bool.and_eq_true,decide_eq_true_eq] at h
   have hb:=h.2.1
   simp only[hexP,Bool.and_eq_false_iff,Bool.or_eq_false_iff,decide_eq_false_iff_not]
   right
   constructor
   ·rintro rfl;simp at hb
   ·rintro rfl;simp at hb
theorem num_dec (l:List UInt8) (most:Int) (h:allDec l=true) (hn:l.isEmpty=false):numN l most=(if most<dv l then 0 else (dv l:Int))∧numE l most=(if most<dv l then 14 else 0):=by
 have hx:=hexP_dec l h
 simp[numN,numE,hx,decN,decE,h,hn]
end Go.Proofs.YtkjbgggghigapaaGreat.W


namespace Go.Proofs.YtkjbgggghigapaaGreat
open Go.RowKit
theorem spn_asc (f:Nat→Bool) (hf:∀r,f r=true→r<128):∀l:List UInt8,spn f l=(l.takeWhile fun c=>f c.toNat).length
 | []=>by rw[spn_nil];rfl
 | c::t=>by
   rcases Nat.lt_or_ge c.toNat 128 with h | h
   ·obtain ⟨h1,h2⟩:=asc c t h
    cases hc:f c.toNat
    ·rw[spn_no f _ (by simp) (by rw[h1];exact hc)]
     simp[hc]
    ·rw[spn_yes f _ (by simp) (by rw[h1];exact hc),h2]
     simp only[List.drop_succ_cons,List.drop_zero]
     rw[spn_asc f hf t]
     simp only[List.takeWhile_cons,hc,if_true,List.length_cons];omega
   ·have h1:=hi c t h
    have h2:f (rnL (c::t))=false:=by
     cases e:f (rnL (c::t))
     ·rfl
     ·have:=hf _ e;omega
    have h3:f c.toNat=false:=by
     cases e:f c.toNat
     ·rfl
     ·have:=hf _ e;omega
    rw[spn_no f _ (by simp) h2]
    simp[h3]
theorem takeWhile_take {α:Type} (p:α→Bool):∀(l:List α) (m:Nat),(l.take m).takeWhile p=l.take (min (l.takeWhile p).length m)
 | [],m=>by simp
 | a::l,0=>by simp
 | a::l,m+1=>by
   simp only[List.take_succ_cons,List.takeWhile_cons]
   cases hp:p a
   ·simp
   ·simp only[if_true,List.length_cons]
    rw[takeWhile_take p l m]
    have :min ((l.takeWhile p).length+1) (m+1)=min (l.takeWhile p).length m+1:=by omega
    rw[this,List.take_succ_cons]
theorem mem_tw {α:Type} (p:α→Bool):∀(l:List α) (x:α),x∈l.takeWhile p→p x=true
 | [],x,h=>by simp at h
 | a::l,x,h=>by
   cases hp:p a
   ·simp[hp] at h
   ·simp only[List.takeWhile_cons,hp,if_true,List.mem_cons] at h
    rcases h with rfl | h
    ·exact hp
    ·exact mem_tw p l x h
def digN (r:Nat):Bool:=digB r
theorem digN_lt (r:Nat) (h:digN r=true):r<128:=by simp[digN,digB] at h;omega
theorem dgs_take (l:List UInt8):dgs 3 l=l.take (min (spn digN l) 3):=by
 unfold dgs
 rw[takeWhile_take,spn_asc _ digN_lt]
 rfl
theorem takeWhile_all {α:Type} (p:α→Bool) (l:List α):(l.takeWhile p).all p=true:=by
 rw[List.all_eq_true];intro x hx;exact mem_tw p l x hx
theorem dgs_all (m:Nat) (l:List UInt8):W.allDec (dgs m l)=true:=takeWhile_all _ _
theorem hxs_all (m:Nat) (l:List UInt8):W.allHex (hxs m l)=true:=takeWhile_all _ _
theorem dgs_len (m:Nat) (l:List UInt8):(dgs m l).length≤m:=by
 unfold dgs
 have:=(List.takeWhile_sublist (l:=l.take m) (fun c:UInt8=>decide (48≤(c.toNat:Int)∧(c.toNat:Int)≤57))).length_le
 rw[List.length_take] at this
 omega
theorem hxs_len (m:Nat) (l:List UInt8):(hxs m l).length≤m:=by
 unfold hxs
 have:=(List.takeWhile_sublist (l:=l.take m) (fun c:UInt8=>W.dgB c.toNat)).length_le
 rw[List.length_take] at this
 omega
theorem dv_lt:∀(n:Nat) (l:List UInt8),l.length≤n→W.allDec l=true→W.dv l<10 ^ l.length:=by
 intro n
 induction n with
 | zero=>intro l hl _;cases l with | nil=>simp[W.dv] | cons a l=>simp at hl
 | succ n ih=>
   intro l hl ha
   rcases List.eq_nil_or_concat l with h | ⟨l',c,rfl⟩
   ·subst h;simp[W.dv]
   ·rw[List.concat_eq_append] at *
    rw[W.allDec_snoc] at ha
    simp only[Bool.and_eq_true,decide_eq_true_eq] at ha
    have h1:=ih l' (by simp at hl;omega) ha.1
    rw[W.dv_snoc,(W.dec_val _ ha.2).2]
    simp only[List.length_append,List.length_cons,List.length_nil,Nat.pow_succ]
    omega
theorem hv_lt:∀(n:Nat) (l:List UInt8),l.length≤n→l.length≤8→W.hv l<16 ^ l.length:=by
 intro n
 induction n with
 | zero=>intro l hl _;cases l with | nil=>simp[W.hv] | cons a l=>simp at hl
 | succ n ih=>
   intro l hl h8
   rcases List.eq_nil_or_concat l with h | ⟨l',c,rfl⟩
   ·subst h;simp[W.hv]
   ·rw[List.concat_eq_append] at *
    simp only[List.length_append,List.length_cons,List.length_nil] at hl h8⊢
    have h1:=ih l' (by omega) (by omega)
    have h2:=W.dgV_bound c.toNat
    have h3:=W.hv_bound l'
    rw[W.hv_snoc]
    have h4:(W.hv l' * 16+W.dgV c.toNat) % 18446744073709551616≤W.hv l' * 16+W.dgV c.toNat:=by omega
    rw[Int.pow_succ]
    omega
theorem hv_small (l:List UInt8) (h8:l.length≤8):0≤W.hv l∧W.hv l<4294967296:=by
 refine ⟨(W.hv_bound l).1,?_⟩
 have h:=hv_lt 8 l h8 h8
 have h2:(16:Int) ^ l.length≤16 ^ 8:=by
  have :(16:Nat) ^ l.length≤16 ^ 8:=Nat.pow_le_pow_right (by omega) h8
  exact_mod_cast this
 omega
theorem par_dec (d:List UInt8) (ha:W.allDec d=true) (h3:d.length≤3):(d=[]→W.parE d=4)∧(d≠[]→W.parE d=0∧W.parN d=W.dv d∧W.dv d≤999):=by
 constructor
 ·rintro rfl;rfl
 ·intro hn
  have hne:d.isEmpty=false:=by cases d with | nil=>exact absurd rfl hn | cons a l=>rfl
  have h1:=dv_lt 3 d h3 ha
  have h2:10 ^ d.length≤10 ^ 3:=Nat.pow_le_pow_right (by omega) h3
  obtain ⟨e1,e2⟩:=W.num_dec d 9223372036854775807 ha hne
  unfold W.parE W.parN
  rw[e1,e2,if_neg (by omega),if_neg (by omega)]
  exact ⟨rfl,by unfold wrap64;omega,by omega⟩
theorem par_hex (x:List UInt8):W.parE (48::120::x)=W.hexE x∧W.parN (48::120::x)=wrap64 (W.hexN x):=by
 have hp:W.hexP (48::120::x)=true:=by simp[W.hexP]
 simp[W.parE,W.parN,W.numE,W.numN,hp]
theorem par_hex8 (x:List UInt8) (h8:x.length≤8):(x=[]∨W.allHex x=false→W.parE (48::120::x)=4)∧(x≠[]→W.allHex x=true→W.parE (48::120::x)=0∧W.parN (48::120::x)=W.hv x):=by
 rw[(par_hex x).1,(par_hex x).2]
 constructor
 ·rintro (rfl | h)
  ·rfl
  ·simp[W.hexE,h]
 ·intro hn ha
  have hne:x.isEmpty=false:=by cases x with | nil=>exact absurd rfl hn | cons a l=>rfl
  have:=hv_small x h8
  simp only[W.hexE,W.hexN,hne,ha,Bool.not_true,Bool.or_self,Bool.false_eq_true,if_false]
  exact ⟨trivial,by unfold wrap64;omega⟩
theorem hxs_two (a b:UInt8) (t:List UInt8):(hxs 2 (a::b::t)).length=2↔W.allHex [a,b]=true:=by
 simp only[hxs,List.take_succ_cons,List.take_zero,W.allHex,List.all_cons,List.all_nil,Bool.and_true,Bool.and_eq_true]
 cases ha:W.dgB a.toNat<;>cases hb:W.dgB b.toNat<;>simp[ha,hb]
theorem hxs_two_eq (a b:UInt8) (t:List UInt8) (h:W.allHex [a,b]=true):hxs 2 (a::b::t)=[a,b]:=by
 simp only[W.allHex,List.all_cons,List.all_nil,Bool.and_true,Bool.and_eq_true] at h
 simp[hxs,h.1,h.2]
theorem hxs_short (u:List UInt8) (h:u.length<2):(hxs 2 u).length≠2:=by
 have :(hxs 2 u).length≤u.length:=by
  unfold hxs
  have:=(List.takeWhile_sublist (l:=u.take 2) (fun c:UInt8=>W.dgB c.toNat)).length_le
  rw[List.length_take] at this
  omega
 omega
theorem hxs_brace (v:List UInt8) (e:Nat) (he:e≤8) (h1:v[e]?=some 125) (h2:∀k,k<e→v[k]?≠some 125):
 (W.allHex (v.take e)=true→hxs 8 v=v.take e)∧(W.allHex (v.take e)=false→(v.drop (hxs 8 v).length).headD 0≠125):=by
 have hlen:e<v.length:=by
  rcases Nat.lt_or_ge e v.length with h | h
  ·exact h
  ·rw[List.getElem?_eq_none h] at h1;cases h1
 have hsplit:v=v.take e++125::v.drop (e+1):=by
  have h3:v[e]=125:=by
   rw[List.getElem?_eq_getElem hlen] at h1;exact Option.some.inj h1
  have h4:=List.take_append_drop e v
  rw[List.drop_eq_getElem_cons hlen,h3] at h4
  exact h4.symm
 constructor
 ·intro ha
  have hall:∀x∈v.take e,W.dgB x.toNat=true:=fun x hx=>List.all_eq_true.1 ha x hx
  unfold hxs
  rw[takeWhile_take]
  have htw:v.takeWhile (fun c=>W.dgB c.toNat)=v.take e:=by
   conv=>lhs;rw[hsplit]
   rw[List.takeWhile_append_of_pos hall]
   have :W.dgB 125=false:=by decide
   simp[this]
  rw[htw,List.length_take]
  congr 1
  omega
 ·intro ha
  obtain ⟨x,hx,hxf⟩:=List.all_eq_false.1 ha
  obtain ⟨j,hj,rfl⟩:=List.getElem_of_mem hx
  rw[List.length_take] at hj
  rw[List.getElem_take] at hxf
  have hk:(hxs 8 v).length≤j:=by
   unfold hxs
   rw[takeWhile_take,List.length_take]
   have :(v.takeWhile fun c=>W.dgB c.toNat).length≤j:=by
    rcases Nat.lt_or_ge j (v.takeWhile fun c=>W.dgB c.toNat).length with h | h
    ·exfalso
     apply hxf
     have h5:=mem_tw (fun c:UInt8=>W.dgB c.toNat) v _ (List.getElem_mem h)
     have h6:(v.takeWhile fun c=>W.dgB c.toNat)[j]=v[j]'(by omega):=by
      have:=List.takeWhile_prefix (l:=v) (fun c:UInt8=>W.dgB c.toNat)
      exact this.getElem h
     rw[h6] at h5
     exact h5
    ·exact h
   omega
  intro hc
  have h7:=h2 (hxs 8 v).length (by omega)
  apply h7
  rw[←hc]
  have hl:(hxs 8 v).length<v.length:=by omega
  rw[List.getElem?_eq_getElem hl,List.drop_eq_getElem_cons hl]
  rfl
theorem no_brace (v:List UInt8) (k:Nat) (h:v[k]?≠some 125):(v.drop k).headD 0≠125:=by
 intro hc
 apply h
 rcases Nat.lt_or_ge k v.length with hl | hl
 ·rw[←hc,List.getElem?_eq_getElem hl,List.drop_eq_getElem_cons hl];rfl
 ·rw[List.drop_of_length_le hl] at hc;exact absurd hc (by decide)
end Go.Proofs.YtkjbgggghigapaaGreat


namespace Go.Proofs.YtkjbgggghigapaaGreat
open Go.RowKit
theorem conv_new (xs:List Int) (n:Nat) (hn:xs.length=n) (W:World):(convert 118 9 (.slice (some ⟨W.heap.size,0,none⟩) n n)).run Tryz.prog (W.alloc (.cells (xs.map (Value.int .u8)).toArray 5))= .ok (.string (strOfNums xs)) (W.alloc (.cells (xs.map (Value.int .u8)).toArray 5)):=by
 refine run_convert_bytes_arg _ 118 5 Tryz.underlying118 Tryz.underlying5 W.heap.size 0 n n xs hn (fun i hi=>?_) 9 Tryz.underlying9
 rw[Nat.zero_add]
 exact (new_cell W (xs.map (Value.int .u8)) 5 i _ (by simp[List.getElem?_eq_getElem (show i<xs.length by omega),List.getD])).1
end Go.Proofs.YtkjbgggghigapaaGreat


namespace Go.Proofs.YtkjbgggghigapaaGreat
open Go.RowKit
theorem str_one (n : Nat) : strOfNums [(n : Int)] = ⟨#[UInt8.ofNat n]⟩:=by simp [strOfNums]
set_option maxHeartbeats 1000000 in
theorem oneByte_any (n : Nat) (w : World) (h : n ≤ 255) : Calls Tryz.prog 161 #[.int .i64 n] w fun e w'=>e = .returned (.string ⟨#[UInt8.ofNat n]⟩) ∧ Below w.heap.size w w':=by
  have hcv:=fun W=>conv_new [(n : Int)] 1 rfl W
  simp only [List.map_cons,List.map_nil] at hcv
  rw [str_one] at hcv
  go_enter Tryz.func161,Tryz.ntmps161
  go_wp2
  go_ret
  exact ⟨rfl,(Below.refl _ _).alloc (Nat.le_refl _) _⟩
theorem ret_si' {a b : ByteArray} {c d : Int} (h : a = b) (h' : c = d) : Ending.returned (.tuple #[.string a,.int .i64 c]) = .returned (.tuple #[.string b,.int .i64 d]):=by rw [h,h']
def ansE (x : List UInt8 × Nat) : Value:=.tuple #[.string ⟨x.1.toArray⟩,.int .i64 x.2]
theorem spn_digN (s : ByteArray) : (s.extract 0 (min (spn digN s.data.toList) 3)).data.toList = dgs 3 s.data.toList:=by
  rw [dgs_take];simp
set_option maxHeartbeats 1000000 in
theorem decimal_any (s : ByteArray) (w : World) (hs : s.size ≤ maxLen) : Calls Tryz.prog 156 #[.string s] w fun e w'=>e = .returned (ansE (escD s.data.toList)) ∧ Below w.heap.size w w':=by
  have hs':=hs
  unfold maxLen at hs'
  have hle:=spn_le digN s.data.toList
  rw [Array.length_toList] at hle
  have hle' : spn digN s.data.toList ≤ s.size:=hle
  clear hle
  have hd:=spn_digN s
  obtain ⟨k,hk⟩ : ∃ k,spn digN s.data.toList = k:=⟨_,rfl⟩
  have C1:=span_any s 136 digN enters62 (fun r w hr=>isDigit_any r w hr) w (by omega)
  rw [hk] at C1 hle' hd
  obtain ⟨p1,p2⟩:=par_dec (dgs 3 s.data.toList) (dgs_all _ _) (dgs_len _ _)
  obtain ⟨x,hx⟩ : ∃ x,s.extract 0 (min k 3) = x:=⟨_,rfl⟩
  rw [hx] at hd
  have hxs : x.size ≤ maxLen:=by rw [← hx,ByteArray.size_extract];unfold maxLen;omega
  have C2:=fun w=>W.parse_any x w hxs
  rw [hd] at C2
  have hlen : ((dgs 3 s.data.toList).length : Int) = (min k 3 : Nat):=by
    have:=congrArg List.length hd
    rw [← this,← hx];simp;omega
  clear hk
  have hmin : min (k : Int) 3 = ((min k 3 : Nat) : Int):=by omega
  obtain ⟨q,hq⟩ : ∃ q : Nat,min k 3 = q:=⟨_,rfl⟩
  rw [hq] at hx hlen hmin
  have hq1 : q ≤ s.size:=by omega
  have hq2 : q ≤ 3:=by omega
  clear hq hd
  unfold ansE escD
  by_cases hn : dgs 3 s.data.toList = []
  · rw [p1 hn] at C2
    rw [if_pos (.inl hn)]
    clear p1 p2 hn hlen
    go_enter Tryz.func156,Tryz.ntmps156
    go_wp2_with (first | (go_at_call 83;refine C1.mono ?_;rintro e w1 ⟨rfl,hb⟩) | (go_at_call 119;refine (C2 _).mono ?_;rintro e w' ⟨rfl,rfl⟩))
    go_ret2
    exact ⟨rfl,hb⟩
  · obtain ⟨e1,e2,e3⟩:=p2 hn
    rw [e1,e2] at C2
    obtain ⟨v,hv⟩ : ∃ v,W.dv (dgs 3 s.data.toList) = v:=⟨_,rfl⟩
    rw [hv] at C2 e3 ⊢
    by_cases h255 : 255 < v
    · rw [if_pos (.inr h255)]
      clear p1 p2 hn hlen e1 e2 hv
      go_enter Tryz.func156,Tryz.ntmps156
      go_wp2_with (first | (go_at_call 83;refine C1.mono ?_;rintro e w1 ⟨rfl,hb⟩) | (go_at_call 119;refine (C2 _).mono ?_;rintro e w' ⟨rfl,rfl⟩))
      go_ret2
      exact ⟨rfl,hb⟩
    · have e4 : ((dgs 3 s.data.toList).length : Int) = q:=hlen
      rw [if_neg (by intro h;rcases h with h | h;exact hn h;exact h255 h)]
      have C3:=fun w=>oneByte_any v w (by omega)
      clear p1 p2 hn hlen e1 e2 hv
      go_enter Tryz.func156,Tryz.ntmps156
      go_wp2_with (first | (go_at_call 83;refine C1.mono ?_;rintro e w1 ⟨rfl,hb⟩) | (go_at_call 119;refine (C2 _).mono ?_;rintro e w' ⟨rfl,rfl⟩) | (go_at_call 161;refine (C3 _).mono ?_;rintro e w2 ⟨rfl,hb2⟩))
      go_ret2
      exact ⟨ret_si' rfl (by omega),hb.trans (hb2.mono hb.size)⟩
theorem app_data (a b : ByteArray) : (a ++ b).data.toList = a.data.toList ++ b.data.toList:=by simp
theorem split3 (s : ByteArray) (h : 3 ≤ s.size) : ∃ a b t,s.data.toList.drop 1 = a :: b :: t ∧ (s.extract 1 3).data.toList = [a,b]:=by
  obtain ⟨⟨l⟩⟩:=s
  match l,h with
  | c :: a :: b :: t,_=>exact ⟨a,b,t,rfl,by simp⟩
set_option maxHeartbeats 1000000 in
theorem hexa_any (s : ByteArray) (w : World) (hs : s.size ≤ maxLen) : Calls Tryz.prog 154 #[.string s] w fun e w'=>e = .returned (ansE (escX (s.data.toList.drop 1))) ∧ Below w.heap.size w w':=by
  have hs':=hs
  unfold maxLen at hs'
  unfold ansE escX
  by_cases h3 : s.size < 3
  · rw [if_neg (hxs_short _ (by rw [List.length_drop,Array.length_toList];show s.size - 1 < 2;omega))]
    go_enter Tryz.func154,Tryz.ntmps154
    go_wp2
    go_ret2
    exact ⟨rfl,Below.refl _ _⟩
  · obtain ⟨a,b,t,e1,e2⟩:=split3 s (by omega)
    rw [e1]
    have H2:=hxs_two a b t
    obtain ⟨x,hx⟩ : ∃ x,s.extract 1 3 = x:=⟨_,rfl⟩
    have hz : x.size = 2:=by rw [← hx,ByteArray.size_extract];omega
    rw [hx] at e2
    have C2:=fun w=>W.parse_any (⟨#[48,120]⟩ ++ x) w (by rw [ByteArray.size_append,hz];decide)
    rw [app_data,e2] at C2
    obtain ⟨p1,p2⟩:=par_hex8 [a,b] (by simp)
    simp only [List.cons_append,List.nil_append] at C2
    cases ha : W.allHex [a,b]
    · rw [p1 (.inr ha)] at C2
      rw [if_neg (fun h=>by rw [H2.1 h] at ha;cases ha)]
      clear p1 p2 e1 e2 H2
      go_enter Tryz.func154,Tryz.ntmps154
      go_wp2_with (go_at_call 119;refine (C2 _).mono ?_;rintro e w' ⟨rfl,rfl⟩)
      go_ret2
      exact ⟨rfl,Below.refl _ _⟩
    · obtain ⟨q1,q2⟩:=p2 (by simp) ha
      rw [q1,q2] at C2
      rw [if_pos (H2.2 ha),hxs_two_eq a b t ha]
      have hb:=hv_lt 2 [a,b] (by simp) (by simp)
      have hb0:=(W.hv_bound [a,b]).1
      obtain ⟨v,hv⟩ : ∃ v : Nat,W.hv [a,b] = v:=⟨(W.hv [a,b]).toNat,by omega⟩
      rw [hv] at C2 hb ⊢
      have C3:=fun w=>oneByte_any v w (by simp at hb;omega)
      clear p1 p2 e1 e2 q1 q2 hb hb0 hv H2
      go_enter Tryz.func154,Tryz.ntmps154
      go_wp2_with (first | (go_at_call 119;refine (C2 _).mono ?_;rintro e w' ⟨rfl,rfl⟩) | (go_at_call 161;refine (C3 _).mono ?_;rintro e w2 ⟨rfl,hb2⟩))
      go_ret2
      exact ⟨ret_si' rfl rfl,hb2⟩
theorem ix_brace (v : List UInt8) : Lib.indexByte (117 :: 123 :: v) 125 = if Lib.indexByte v 125 = -1 then -1 else Lib.indexByte v 125 + 2:=by
  have h:=Lib.indexByte_ge v 125
  simp only [Lib.indexByte]
  by_cases h1 : Lib.indexByte v 125 = -1
  · simp [h1]
  · simp [h1]
    split
    · omega
    · omega
set_option maxHeartbeats 2000000 in
theorem codePoint_any (s : ByteArray) (u : List UInt8) (w : World) (hs : s.size ≤ maxLen) (hu : s.data.toList = 117 :: u) : Calls Tryz.prog 155 #[.string s] w fun e w'=>e = .returned (ansE (escU u)) ∧ Below w.heap.size w w':=by
  have hs':=hs
  unfold maxLen at hs'
  have CI:=fun w=>Tryz.strings_IndexByte s 125 w
  have CP:=fun w=>Tryz.strings_HasPrefix s ⟨#[117,123]⟩ w
  have e125 : ((125 : Int).toNat.toUInt8) = 125:=by decide
  rw [e125,hu] at CI
  rw [hu] at CP
  unfold ansE escU
  by_cases h1 : u.headD 0 = 123
  · obtain ⟨v,rfl⟩ : ∃ v,u = 123 :: v:=by
      cases u with
      | nil=>exact absurd h1 (by decide)
      | cons a v=>simp at h1;exact ⟨v,by rw [h1]⟩
    have hp : Lib.hasPrefix (117 :: 123 :: v) [117,123] = true:=by simp [Lib.hasPrefix,List.isPrefixOf]
    rw [show (⟨#[117,123]⟩ : ByteArray).data.toList = [117,123] from rfl,hp] at CP
    have hge:=Lib.indexByte_ge v 125
    rw [ix_brace] at CI
    simp only [List.drop_succ_cons,List.drop_zero]
    by_cases h2 : Lib.indexByte v 125 = -1
    · rw [if_pos h2] at CI
      rw [if_neg (by rintro ⟨_,_,_,h⟩;rw [Nat.add_comm,List.drop_succ_cons] at h;exact no_brace v _ (Lib.indexByte_none h2 _) h)]
      clear hu h1 hp
      go_enter Tryz.func155,Tryz.ntmps155
      go_wp2_with (first | (go_at_call 139;refine (CI _).mono ?_;rintro e w' ⟨rfl,rfl⟩) | (go_at_call 82;refine (CP _).mono ?_;rintro e w' ⟨rfl,rfl⟩))
      go_ret2
      exact ⟨rfl,Below.refl _ _⟩
    · rw [if_neg h2] at CI
      obtain ⟨k,hk⟩ : ∃ k : Nat,Lib.indexByte v 125 = k:=⟨(Lib.indexByte v 125).toNat,by omega⟩
      rw [hk] at CI
      obtain ⟨b1,b2⟩:=Lib.indexByte_some hk
      by_cases h8 : 8 < k
      · rw [if_neg (by rintro ⟨_,_,_,h⟩;rw [Nat.add_comm,List.drop_succ_cons] at h;exact no_brace v _ (b2 _ (by have:=hxs_len 8 v;omega)) h)]
        clear hu h1 hp hk h2 b1 b2
        go_enter Tryz.func155,Tryz.ntmps155
        go_wp2_with (first | (go_at_call 139;refine (CI _).mono ?_;rintro e w' ⟨rfl,rfl⟩) | (go_at_call 82;refine (CP _).mono ?_;rintro e w' ⟨rfl,rfl⟩))
        go_ret2
        exact ⟨rfl,Below.refl _ _⟩
      · have hkl : k < v.length:=by
          rcases Nat.lt_or_ge k v.length with h | h
          · exact h
          · rw [List.getElem?_eq_none h] at b1;cases b1
        have hsz : s.size = v.length + 2:=by
          have:=congrArg List.length hu
          rw [Array.length_toList] at this
          simp at this
          exact this
        obtain ⟨x,hx⟩ : ∃ x,s.extract 2 (k + 2) = x:=⟨_,rfl⟩
        have hz : x.size ≤ 8:=by rw [← hx,ByteArray.size_extract];omega
        have hxl : x.data.toList = v.take k:=by
          rw [← hx]
          have : (s.extract 2 (k + 2)).data.toList = (s.data.toList.drop 2).take k:=by simp
          rw [this,hu];rfl
        obtain ⟨p1,p2⟩:=par_hex8 (v.take k) (by rw [List.length_take];omega)
        obtain ⟨g1,g2⟩:=hxs_brace v k (by omega) b1 b2
        have C2:=fun w=>W.parse_any (⟨#[48,120]⟩ ++ x) w (by rw [ByteArray.size_append];unfold maxLen;have : (⟨#[48,120]⟩ : ByteArray).size = 2:=rfl;omega)
        rw [app_data,hxl] at C2
        simp only [List.cons_append,List.nil_append] at C2
        by_cases hne : v.take k = [] ∨ W.allHex (v.take k) = false
        · rw [p1 hne] at C2
          rw [if_neg (by
            rintro ⟨_,h5,_,h⟩
            rw [Nat.add_comm,List.drop_succ_cons] at h
            rcases hne with hne | hne
            · apply h5;rw [g1 (by rw [hne];rfl)];exact hne
            · exact g2 hne h)]
          clear hu h1 hp hk h2 b1 b2 p1 p2 g1 g2 hxl
          go_enter Tryz.func155,Tryz.ntmps155
          go_wp2_with (first | (go_at_call 139;refine (CI _).mono ?_;rintro e w' ⟨rfl,rfl⟩) | (go_at_call 82;refine (CP _).mono ?_;rintro e w' ⟨rfl,rfl⟩) | (go_at_call 119;refine (C2 _).mono ?_;rintro e w' ⟨rfl,rfl⟩))
          go_ret2
          exact ⟨rfl,Below.refl _ _⟩
        · have hne1 : v.take k ≠ []:=fun h=>hne (.inl h)
          have hne2 : W.allHex (v.take k) = true:=by cases h : W.allHex (v.take k);exact absurd (.inr h) hne;rfl
          obtain ⟨q1,q2⟩:=p2 hne1 hne2
          rw [q1,q2] at C2
          rw [g1 hne2]
          have hl : (v.take k).length = k:=by rw [List.length_take];omega
          have hd : (v.drop k).headD 0 = 125:=by
            rw [List.getElem?_eq_getElem hkl] at b1
            rw [List.drop_eq_getElem_cons hkl,Option.some.inj b1];rfl
          rw [hl]
          have hd' : ((123 :: v).drop (1 + k)).headD 0 = 125:=by rw [Nat.add_comm,List.drop_succ_cons];exact hd
          obtain ⟨r,hr⟩ : ∃ r,W.hv (v.take k) = r:=⟨_,rfl⟩
          rw [hr] at C2 ⊢
          have C4:=fun w=>encode_any r w
          cases he : encB r
          · have e1 : encE r = 3:=by simp [encE,he]
            rw [e1] at C4
            rw [if_neg (by rintro ⟨_,_,h,_⟩;exact Bool.false_ne_true h)]
            clear hu h1 hp hk h2 b1 b2 p1 p2 g1 g2 hxl q1 q2 hd hd' hl hr e1 hne
            go_enter Tryz.func155,Tryz.ntmps155
            go_wp2_with (first | (go_at_call 139;refine (CI _).mono ?_;rintro e w' ⟨rfl,rfl⟩) | (go_at_call 82;refine (CP _).mono ?_;rintro e w' ⟨rfl,rfl⟩) | (go_at_call 119;refine (C2 _).mono ?_;rintro e w' ⟨rfl,rfl⟩) | (go_at_call 162;refine (C4 _).mono ?_;rintro e w' ⟨rfl,rfl⟩))
            go_ret2
            exact ⟨rfl,Below.refl _ _⟩
          · have e1 : encE r = 0:=by simp [encE,he]
            rw [e1] at C4
            rw [if_pos ⟨h1,hne1,rfl,hd'⟩]
            clear hu h1 hp hk h2 b1 b2 p1 p2 g1 g2 hxl q1 q2 hd hd' hl hr e1 hne
            go_enter Tryz.func155,Tryz.ntmps155
            go_wp2_with (first | (go_at_call 139;refine (CI _).mono ?_;rintro e w' ⟨rfl,rfl⟩) | (go_at_call 82;refine (CP _).mono ?_;rintro e w' ⟨rfl,rfl⟩) | (go_at_call 119;refine (C2 _).mono ?_;rintro e w' ⟨rfl,rfl⟩) | (go_at_call 162;refine (C4 _).mono ?_;rintro e w' ⟨rfl,rfl⟩))
            go_ret2
            exact ⟨ret_si' rfl (by omega),Below.refl _ _⟩
  · have hp : Lib.hasPrefix (117 :: u) [117,123] = false:=by
      cases u with
      | nil=>rfl
      | cons a v=>simp at h1;simp [Lib.hasPrefix,List.isPrefixOf];exact fun h=>h1 h.symm
    rw [show (⟨#[117,123]⟩ : ByteArray).data.toList = [117,123] from rfl,hp] at CP
    rw [if_neg (fun h=>h1 h.1)]
    clear hu h1 hp
    go_enter Tryz.func155,Tryz.ntmps155
    go_wp2_with (first | (go_at_call 139;refine (CI _).mono ?_;rintro e w' ⟨rfl,rfl⟩) | (go_at_call 82;refine (CP _).mono ?_;rintro e w' ⟨rfl,rfl⟩))
    go_ret2
    exact ⟨rfl,Below.refl _ _⟩
end Go.Proofs.YtkjbgggghigapaaGreat


namespace Go.Proofs.YtkjbgggghigapaaGreat
open Go.RowKit
theorem beq_t {c n:Nat} (h:c=n):(((c:Nat):Int)==(n:Int))=true:=by simp[h]
theorem beq_f {c n:Nat} (h:¬c=n):(((c:Nat):Int)==(n:Int))=false:=by simp;omega
set_option maxHeartbeats 4000000 in
theorem escaped_any (s:ByteArray) (c:UInt8) (u:List UInt8) (w:World) (hs:s.size≤maxLen) (hl:s.data.toList=c::u):Calls Tryz.prog 138 #[.string s] w fun e w'=>e= .returned (ansE (esc (c::u)))∧Below w.heap.size w w':=by
 have hs':=hs
 unfold maxLen at hs'
 have h0:0<s.size:=by
  have:=congrArg List.length hl
  rw[Array.length_toList] at this
  have h2:s.data.size=s.size:=rfl
  simp at this;omega
 have hc:s[0]=c:=by
  have h:=head_at s h0
  rw[hl] at h;exact h.symm
 have hx1:s.extract 0 1=⟨#[c]⟩:=by
  apply ByteArray.ext
  apply Array.toList_inj.1
  have :(s.extract 0 1).data.toList=s.data.toList.take 1:=by simp
  rw[this,hl];rfl
 have C1:=fun w=>hexa_any s w hs
 rw[hl,List.drop_succ_cons,List.drop_zero] at C1
 have C2:=fun (h:c.toNat=117) w=>codePoint_any s u w hs (by rw[hl];congr 1;exact (toN c 117 (by omega)).1 h)
 have C3:=fun w=>decimal_any s w hs
 rw[hl] at C3
 have hcn:s[0].toNat=c.toNat:=by rw[hc]
 obtain ⟨n,hn⟩:∃n,s[0].toNat=n:=⟨_,rfl⟩
 rw[hn] at hcn
 simp only[esc]
 unfold ansE
 rw[←hcn] at C2⊢
 clear hl hc hcn
 by_cases a1:n=110
 ·have b1:=beq_t a1
  rw[if_pos a1]
  clear a1 C1 C2 C3
  go_enter Tryz.func138,Tryz.ntmps138
  go_wp2
  go_ret2
  exact ⟨rfl,Below.refl _ _⟩
 have b1:=beq_f a1
 rw[if_neg a1]
 by_cases a2:n=116
 ·have b2:=beq_t a2
  rw[if_pos a2]
  clear a1 a2 C1 C2 C3
  go_enter Tryz.func138,Tryz.ntmps138
  go_wp2
  go_ret2
  exact ⟨rfl,Below.refl _ _⟩
 have b2:=beq_f a2
 rw[if_neg a2]
 by_cases a3:n=114
 ·have b3:=beq_t a3
  rw[if_pos a3]
  clear a1 a2 a3 C1 C2 C3
  go_enter Tryz.func138,Tryz.ntmps138
  go_wp2
  go_ret2
  exact ⟨rfl,Below.refl _ _⟩
 have b3:=beq_f a3
 rw[if_neg a3]
 by_cases a4:n=92
 ·have b4:=beq_t a4
  rw[if_pos (.inl a4)]
  clear a1 a2 a3 a4 C1 C2 C3
  go_enter Tryz.func138,Tryz.ntmps138
  go_wp2
  go_ret2
  exact ⟨rfl,Below.refl _ _⟩
 have b4:=beq_f a4
 by_cases a5:n=34
 ·have b5:=beq_t a5
  rw[if_pos (.inr (.inl a5))]
  clear a1 a2 a3 a4 a5 C1 C2 C3
  go_enter Tryz.func138,Tryz.ntmps138
  go_wp2
  go_ret2
  exact ⟨rfl,Below.refl _ _⟩
 have b5:=beq_f a5
 by_cases a6:n=39
 ·have b6:=beq_t a6
  rw[if_pos (.inr (.inr a6))]
  clear a1 a2 a3 a4 a5 a6 C1 C2 C3
  go_enter Tryz.func138,Tryz.ntmps138
  go_wp2
  go_ret2
  exact ⟨rfl,Below.refl _ _⟩
 have b6:=beq_f a6
 rw[if_neg (by omega)]
 by_cases a7:n=120
 ·have b7:=beq_t a7
  rw[if_pos a7]
  unfold ansE at C1
  clear a1 a2 a3 a4 a5 a6 a7 C2 C3
  go_enter Tryz.func138,Tryz.ntmps138
  go_wp2_with (go_at_call 154;refine (C1 _).mono ?_;rintro e w1 ⟨rfl,hb⟩)
  go_ret2
  exact ⟨rfl,hb⟩
 have b7:=beq_f a7
 rw[if_neg a7]
 by_cases a8:n=117
 ·have b8:=beq_t a8
  rw[if_pos a8]
  have C2':=C2 a8
  unfold ansE at C2'
  clear a1 a2 a3 a4 a5 a6 a7 a8 C1 C2 C3
  go_enter Tryz.func138,Tryz.ntmps138
  go_wp2_with (go_at_call 155;refine (C2' _).mono ?_;rintro e w1 ⟨rfl,hb⟩)
  go_ret2
  exact ⟨rfl,hb⟩
 have b8:=beq_f a8
 rw[if_neg a8]
 unfold ansE at C3
 clear a1 a2 a3 a4 a5 a6 a7 a8 C1 C2
 go_enter Tryz.func138,Tryz.ntmps138
 go_wp2_with (go_at_call 156;refine (C3 _).mono ?_;rintro e w1 ⟨rfl,hb⟩)
 go_ret2
 exact ⟨rfl,hb⟩
end Go.Proofs.YtkjbgggghigapaaGreat


namespace Go.Proofs.YtkjbgggghigapaaGreat
open Go.RowKit
set_option maxHeartbeats 400000 in
theorem clone_any (s : ByteArray) (w : World) (h : s.size ≤ 281474976710656) : Calls Tryz.prog 91 #[.string s] w fun e w'=>e = .returned (.string s) ∧ Below w.heap.size w w':=by
  go_enter Tryz.func91,Tryz.ntmps91
  go_wp2_with (go_at_call 123;refine (Tryz.stringslite_Clone _ _ h).mono ?_;rintro e w1 ⟨rfl,hb⟩)
  go_ret
  exact ⟨rfl,hb⟩
theorem step_go {ops : Array Oper} {o : Oper} {ac : Act} {K : Act → World → Prop} {Q : Exit → Act → World → Prop} {E : Prop} {W : World} (hgd : o.guard = none) (f : FuncId) (xs : Array Operand) (ats : Array TypeId)
    (ho : o.op = .call { callee:=.value (.func f),args:=xs,argTypes:=ats }) (args : Array Value) (hx : #[] ++ xs.map ac.eval ++ #[] = args) (eg : ∀ args w,(callFunc f args).run Tryz.prog w = .ok (.enter f args) w)
    {R : Ending → World → Prop} (C : Calls Tryz.prog f args W R) (v : Value) (hv : ∀ e w',R e w' → e = .returned v) (hK : ∀ w',R (.returned v) w' → K (ac.put o.dst v) w') :
    if Region.wanted o (yielded ops ac.tmps) = true then Oper.wp Tryz.prog o ac W K Q else E:=by
  have hw : Region.wanted o (yielded ops ac.tmps) = true:=by simp [Region.wanted,hgd]
  rw [if_pos hw]
  obtain ⟨dst,op,ty,pos,after,guard⟩:=o
  simp only at ho
  subst ho
  unfold Oper.wp
  rw [execOp_call_go,hx,eg,Oper.upon_enter]
  refine C.mono fun e w' h=>?_
  obtain rfl:=hv e w' h
  exact hK w' h
theorem enters45 : ∀ args w,(callFunc 91 args).run Tryz.prog w = .ok (.enter 91 args) w:=enters_of Tryz.func91 (by kernel_rfl) rfl
def cellT (t : Tok) : List Value:=[.int .i64 t.k,.string ⟨t.t.toArray⟩,.int .i64 t.v,.int .i64 t.p]
def cellsT (l : List Tok) : List Value:=l.flatMap cellT
theorem cellsT_snoc (l : List Tok) (t : Tok) : cellsT (l ++ [t]) = cellsT l ++ cellT t:=by simp [cellsT]
theorem own_below {w w' : World} {base : Nat} {e : TypeId} {size : Nat} {v : Value} {n : Nat} {xs : List Value} (h : w.ownsRow base e size v n xs) (hb : Below w.heap.size w w') : w'.ownsRow base e size v n xs:=by
  refine ⟨h.1,?_⟩
  rcases h.2 with h | ⟨g,cap,cur,h1,h2,h3,r⟩
  · exact .inl h
  · refine .inr ⟨g,cap,cur,h1,h2,?_,r⟩
    have hg : g < w.heap.size:=by
      rcases Nat.lt_or_ge g w.heap.size with hl | hl
      · exact hl
      · rw [Array.getElem?_eq_none hl] at h3;cases h3
    rw [hb.block g hg];exact h3
structure Kp (b B : Nat) (W W' : World) : Prop where
  os : W'.os = W.os
  tape : W'.tape = W.tape
  output : W'.output = W.output
  size : W.heap.size ≤ W'.heap.size
  block : ∀ k,k < B → k ≠ b → W'.heap[k]? = W.heap[k]?
theorem Kp.refl (b B : Nat) (W : World) : Kp b B W W:=⟨rfl,rfl,rfl,Nat.le_refl _,fun _ _ _=>rfl⟩
theorem Kp.trans {b B : Nat} {x y z : World} (h : Kp b B x y) (k : Kp b B y z) : Kp b B x z :=
  ⟨k.os.trans h.os,k.tape.trans h.tape,k.output.trans h.output,Nat.le_trans h.size k.size,fun i hi hn=>(k.block i hi hn).trans (h.block i hi hn)⟩
theorem Kp.of_below {b B : Nat} {x y : World} (h : Below x.heap.size x y) (hB : B ≤ x.heap.size) : Kp b B x y :=
  ⟨h.os,h.tape,h.output,h.size,fun k hk _=>h.block k (by omega)⟩
theorem Kp.below {b B : Nat} {x y : World} (h : Kp b B x y) (hb : b ≤ B) : Below b x y :=
  ⟨h.os,h.tape,h.output,h.size,fun k hk=>h.block k (by omega) (by omega)⟩
theorem Kp.grown {b B : Nat} {a w w' : World} {row : Option Nat} (h : Kp b B a w) (hg : w.grownBy w' row) (hB : B ≤ w.heap.size) (hr : ∀ k,row = some k → B ≤ k) : Kp b B a w':=by
  have h2 : Below B w w':=(Below.refl B w).grown hg hB hr
  exact h.trans ⟨h2.os,h2.tape,h2.output,h2.size,fun k hk _=>h2.block k hk⟩
theorem Kp.alloc {b B : Nat} {a w : World} (h : Kp b B a w) (hB : B ≤ w.heap.size) (o : Obj) : Kp b B a (w.alloc o):=by
  have h2 : Below B w (w.alloc o):=(Below.refl B w).alloc hB o
  exact h.trans ⟨h2.os,h2.tape,h2.output,h2.size,fun k hk _=>h2.block k hk⟩
theorem Kp.drew {b B : Nat} {a w : World} (h : Kp b B a w) : Kp b B a w.drew:=⟨h.os,h.tape,h.output,h.size,h.block⟩
theorem Kp.setCell {b B o : Nat} {a w : World} (h : Kp b B a w) (u : Value) : Kp b B a (w.setCell ⟨b,o,none⟩ u) :=
  h.trans ⟨rfl,rfl,rfl,by simp,fun k _ hk=>Below.heap_setCell w _ u k hk⟩
structure SC (b B : Nat) (s : ByteArray) (ts : List Tok) (W : World) : Prop where
  src : W.cell? ⟨b,0,none⟩ = some (.string s)
  tok : ∃ v,W.cell? ⟨b,1,none⟩ = some v ∧ W.ownsRow B 114 4 v ts.length (cellsT ts)
  free : W.frozen? ⟨b,1,none⟩ = false
  lt : b < B ∧ B ≤ W.heap.size
theorem SC.below {b B : Nat} {s : ByteArray} {ts : List Tok} {W W' : World} (h : SC b B s ts W) (hb : Below W.heap.size W W') : SC b B s ts W':=by
  have hl : b < W.heap.size:=by have:=h.lt;omega
  obtain ⟨v,h1,h2⟩:=h.tok
  exact ⟨(hb.cell hl).trans h.src,⟨v,(hb.cell hl).trans h1,own_below h2 hb⟩,(hb.frozen hl).trans h.free,h.lt.1,Nat.le_trans h.lt.2 hb.size⟩
theorem SC.iterAt {b B k : Nat} {s x : ByteArray} {p p' : Nat} {ts : List Tok} {W : World} (h : SC b B s ts W) (hk : W.heap[k]? = some (.stringIter x p)) (hb : k ≠ b) : SC b B s ts (W.iterAt k x p'):=by
  obtain ⟨v,h1,h2⟩:=h.tok
  have hoth : ∀ j,j ≠ k → (W.iterAt k x p').heap[j]? = W.heap[j]?:=fun j hj=>Lib.iterAt_other W k j x p' hj
  refine ⟨(World.cell?_of_block (hoth b (Ne.symm hb))).trans h.src,⟨v,(World.cell?_of_block (hoth b (Ne.symm hb))).trans h1,h2.1,?_⟩,(World.frozen?_of_block (hoth b (Ne.symm hb))).trans h.free,h.lt.1,by rw [Lib.iterAt_size];exact h.lt.2⟩
  rcases h2.2 with h2 | ⟨g,cap,cur,g1,g2,g3,r⟩
  · exact .inl h2
  · refine .inr ⟨g,cap,cur,g1,g2,?_,r⟩
    rw [hoth g (fun e=>by rw [e,hk] at g3;cases g3)];exact g3
theorem Tryz.info114 : (Tryz.prog.info? 114).map (fun i=>(i.zero,i.size,i.bytes)) = some (some (.agg #[.int .i64 0,.string ⟨#[]⟩,.int .i64 0,.int .i64 0]),4,40):=by kernel_rfl
theorem SC.added {b B n : Nat} {s : ByteArray} {ts : List Tok} {t : Tok} {W w : World} {v v' : Value} (h : SC b B s ts W) (K : Kp b B W w) (hs : w.cell? ⟨b,0,none⟩ = some (.string s)) (hv : w.cell? ⟨b,1,none⟩ = some v) (hf : w.frozen? ⟨b,1,none⟩ = false)
    (hn : n = (ts ++ [t]).length) (hown : w.ownsRow B 114 4 v' n (cellsT ts ++ cellT t)) : SC b B s (ts ++ [t]) (w.setCell ⟨b,1,none⟩ v') ∧ Kp b B W (w.setCell ⟨b,1,none⟩ v'):=by
  subst hn
  refine ⟨⟨?_,⟨v',World.cell?_setCell_same _ _ _ hv,?_⟩,?_,h.lt.1,?_⟩,K.setCell _⟩
  · rw [World.cell?_setCell_other _ _ _ _ (fun e=>by injection e with e1 e2;cases e2)];exact hs
  · rw [cellsT_snoc];exact ownsRow_setCell_below hown (by exact h.lt.1) _
  · simpa using hf
  · rw [size_set];exact Nat.le_trans h.lt.2 K.size
theorem Kp.undrew {b B : Nat} {a w : World} (h : Kp b B a.drew w) : Kp b B a w:=⟨h.os,h.tape,h.output,h.size,h.block⟩
set_option maxRecDepth 100000 in
set_option maxHeartbeats 3200000 in
theorem add_any (b B : Nat) (s : ByteArray) (ts : List Tok) (W : World) (h : SC b B s ts W) (k n : Int) (p q : Nat) (hp : p ≤ q) (hq : q ≤ s.size) (hs : s.size ≤ 20000) (hn : ts.length ≤ 20000) :
    Calls Tryz.prog 62 #[.pointer (some ⟨b,0,none⟩),.int .i64 k,.int .i64 p,.int .i64 q,.int .i64 n] W fun e W'=>e = .returned (.tuple #[]) ∧ SC b B s (ts ++ [⟨k,(s.data.toList.drop p).take (q - p),n,p⟩]) W' ∧ Kp b B W W':=by
  obtain ⟨i0,hi0,hz0,hz1,hz2⟩:=info_parts Tryz.info114
  obtain ⟨v,hv,hown⟩:=h.tok
  obtain ⟨a0,c0,rfl⟩:=slice_shape hown
  have hsrc:=h.src
  have hfr:=h.free
  obtain ⟨hbB,hBW⟩:=h.lt
  have hlt : b < W.heap.size:=by omega
  have hx : Hid (s.extract p q = ⟨((s.data.toList.drop p).take (q - p)).toArray⟩):=by
    apply ByteArray.ext
    apply Array.toList_inj.1
    simp
  have hxz : (s.extract p q).size ≤ 281474976710656:=by rw [ByteArray.size_extract];omega
  have p0 : (0 : Int) ≤ (p : Int):=Int.natCast_nonneg _
  have p1 : (p : Int) ≤ (q : Int):=by omega
  have p2 : (q : Int) ≤ (s.size : Int):=by omega
  have hne : some b ≠ (Value.slice a0 ts.length c0).ownBlock:=fun e=>by have:=(hown.lt b e.symm).1;omega
  have hrow : ∀ j,(Value.slice a0 ts.length c0).ownBlock = some j → B ≤ j:=fun j e=>(hown.lt j e).1
  go_enter Tryz.func62,Tryz.ntmps62
  go_wp2_with fail
  go_region_law
    (first
      | (refine step_go (by rfl) 91 _ _ (by rfl) _ (by simp [Act.eval,Act.put]) enters45 (clone_any _ _ hxz) (.string (s.extract p q)) (fun e w' h=>h.1) ?_;rintro w1 ⟨_,hb1⟩;have hown0' : w1.ownsRow B 114 4 (.slice a0 ts.length c0) ts.length (cellsT ts):=(by first | exact own_below hown hb1 | exact own_below hown.drew hb1);have hsz1:=hb1.size;have hs1a:=fun o=>alloc_cell (W:=w1) (b:=b) (by exact Nat.lt_of_lt_of_le hlt hsz1) ((hb1.cell (by exact hlt)).trans hsrc) o;have hv1 : w1.cell? ⟨b,1,none⟩ = some (.slice a0 ts.length c0):=(hb1.cell (by exact hlt)).trans hv;have hf1 : w1.frozen? ⟨b,1,none⟩ = false:=(hb1.frozen (by exact hlt)).trans hfr;have hv1a:=fun o=>alloc_cell (W:=w1) (b:=b) (by exact Nat.lt_of_lt_of_le hlt hsz1) hv1 o;have hf1a:=fun o=>alloc_frozen (W:=w1) (b:=b) (by exact Nat.lt_of_lt_of_le hlt hsz1) hf1 o;try simp at hsz1)
      | (have hown0:=hown0';refine step_append_lies _ (by rfl) _ _ _ (by rfl) B 114 i0 _ 4 40 Tryz.underlying88 hi0 hz0 hz1 hz2 rfl (by omega) (.slice a0 ts.length c0) ts.length (cellsT ts) (by rfl) (by first | exact (hown0.alloc _).drew | exact hown0.alloc _)
          ⟨w1.heap.size,0,none⟩ 1 1 [.int .i64 k,.string (s.extract p q),.int .i64 n,.int .i64 p] (by rfl) (by rfl) (World.news_of_block (cs:=#[.int .i64 k,.string (s.extract p q),.int .i64 n,.int .i64 p]) (t:=114) (fr:=(0,0)) (heap_alloc_new w1 _)) (by simp [Value.oneCell'])
          (by omega) (by unfold maxLen;omega) (by omega) (by simp;omega) (w1.heap.size + 1) (by simp) ?_;intro gg cap w2 hown1 hgrow hat hlt2;have hs2 : w2.cell? ⟨b,0,none⟩ = some (.string s):=(hgrow.cell_far ⟨b,0,none⟩ (by simp;omega) hne).trans (hs1a _);have hv2 : w2.cell? ⟨b,1,none⟩ = some (.slice a0 ts.length c0):=(hgrow.cell_far ⟨b,1,none⟩ (by simp;omega) hne).trans (hv1a _);have hf2 : w2.frozen? ⟨b,1,none⟩ = false:=(hgrow.frozen_far ⟨b,1,none⟩ (by simp;omega) hne).trans (hf1a _)))
  all_goals
    go_wp2
    go_end0
    have K0 : Kp b B W w1:=(Kp.of_below (b:=b) (B:=B) hb1 (by exact hBW)).undrew
    have K2 : Kp b B W w2:=(K0.alloc (by omega) _).grown hgrow (by simp;omega) hrow
    rw [hx.out] at hown1
    exact ⟨rfl,h.added K2 hs2 hv2 hf2 (by simp) hown1⟩
end Go.Proofs.YtkjbgggghigapaaGreat


namespace Go.Proofs.YtkjbgggghigapaaGreat
open Go.RowKit
theorem own_keep {w w':World} {base:Nat} {e:TypeId} {size:Nat} {v:Value} {n:Nat} {xs:List Value} (h:w.ownsRow base e size v n xs) (hb:∀g,v.ownBlock=some g→w'.heap[g]?=w.heap[g]?):w'.ownsRow base e size v n xs:=by
 refine ⟨h.1,?_⟩
 rcases h.2 with h | ⟨g,cap,cur,rfl,h2,h3,r⟩
 ·exact .inl h
 ·exact .inr ⟨g,cap,cur,rfl,h2,by rw[hb g rfl];exact h3,r⟩
inductive KF (E:TypeId) (w:World) (P:Nat→Prop):List Value→F→Prop
 | nil:KF E w P [] .nil
 | cons {k:Int} {t:List UInt8} {n p:Int} {v:Value} {xs rest:List Value} {ks r:F} (own:w.ownsRow 0 E 5 v ks.len xs) (hP:∀g,v.ownBlock=some g→P g) (hk:KF E w P xs ks) (hr:KF E w P rest r):
  KF E w P (.int .i64 k:: .string ⟨t.toArray⟩:: .int .i64 n:: .int .i64 p::v::rest) (.cons k t n p ks r)
section
variable {E:TypeId} {w w':World} {P Q:Nat→Prop} {xs ys:List Value} {f g:F}
theorem KF.keep (h:KF E w P xs f) (hb:∀g,P g→g<w.heap.size→w'.heap[g]?=w.heap[g]?):KF E w' P xs f:=by
 induction h with
 | nil=>exact .nil
 | cons own hP _ _ i1 i2=>exact .cons (own_keep own fun g hg=>hb g (hP g hg) (own.lt g hg).2) hP i1 i2
theorem KF.mono (h:KF E w P xs f) (hb:∀g,P g→g<w.heap.size→Q g):KF E w Q xs f:=by
 induction h with
 | nil=>exact .nil
 | cons own hP _ _ i1 i2=>exact .cons own (fun g hg=>hb g (hP g hg) (own.lt g hg).2) i1 i2
theorem KF.app (h:KF E w P xs f) (k:KF E w P ys g):KF E w P (xs++ys) (f.app g):=by
 induction h with
 | nil=>exact k
 | cons own hP h1 _ _ i2=>exact .cons own hP h1 i2
theorem KF.len (h:KF E w P xs f):xs.length=f.len * 5:=by
 induction h with
 | nil=>rfl
 | cons own hP h1 _ _ i2=>simp only[List.length_cons,F.len,i2];omega
end
structure TN (E:TypeId) (w:World) (P:Nat→Prop) (k:Int) (t:List UInt8) (n p:Int) (v:Value) (ks:F):Prop where
 kf:KF E w P [.int .i64 k,.string ⟨t.toArray⟩,.int .i64 n,.int .i64 p,v] (one k t n p ks)
theorem TN.out {E:TypeId} {w:World} {P:Nat→Prop} {k:Int} {t:List UInt8} {n p:Int} {v:Value} {ks:F} (h:TN E w P k t n p v ks):(∀g,v.ownBlock=some g→P g)∧∃xs,w.ownsRow 0 E 5 v ks.len xs∧KF E w P xs ks:=by
 have h:=h.kf
 unfold one at h
 cases h with
 | cons own hP hk hr=>exact ⟨hP,_,own,hk⟩
theorem TN.keep {E:TypeId} {w w':World} {P:Nat→Prop} {k:Int} {t:List UInt8} {n p:Int} {v:Value} {ks:F} (h:TN E w P k t n p v ks) (hb:∀g,P g→g<w.heap.size→w'.heap[g]?=w.heap[g]?):TN E w' P k t n p v ks:=⟨h.kf.keep hb⟩
theorem TN.mono {E:TypeId} {w:World} {P Q:Nat→Prop} {k:Int} {t:List UInt8} {n p:Int} {v:Value} {ks:F} (h:TN E w P k t n p v ks) (hb:∀g,P g→g<w.heap.size→Q g):TN E w Q k t n p v ks:=⟨h.kf.mono hb⟩
theorem TN.leaf (E:TypeId) (w:World) (P:Nat→Prop) (k:Int) (t:List UInt8) (n p:Int):TN E w P k t n p (.slice none 0 0) .nil:=
 ⟨.cons (World.ownsRow_nil _ _ _ _) (fun g hg=>by simp[Value.ownBlock] at hg) .nil .nil⟩
structure KL (E:TypeId) (P:Nat→Prop) (w:World) (v:Value) (f:F):Prop where
 out:∃xs,w.ownsRow 0 E 5 v f.len xs∧(∀g,v.ownBlock=some g→P g)∧KF E w (fun g=>P g∧some g≠v.ownBlock) xs f
theorem KL.nil (E:TypeId) (P:Nat→Prop) (w:World):KL E P w (.slice none 0 0) .nil:=⟨[],World.ownsRow_nil _ _ _ _,fun g hg=>by simp[Value.ownBlock] at hg,.nil⟩
theorem KL.keep {E:TypeId} {P:Nat→Prop} {w w':World} {v:Value} {f:F} (h:KL E P w v f) (hb:∀g,P g→g<w.heap.size→w'.heap[g]?=w.heap[g]?):KL E P w' v f:=by
 obtain ⟨xs,h1,h2,h3⟩:=h.out
 exact ⟨xs,own_keep h1 fun g hg=>hb g (h2 g hg) (h1.lt g hg).2,h2,h3.keep fun g hg hl=>hb g hg.1 hl⟩
theorem KL.node {E:TypeId} {P:Nat→Prop} {w:World} {v:Value} {f:F} (h:KL E P w v f) (k:Int) (t:List UInt8) (n p:Int):TN E w P k t n p v f:=by
 obtain ⟨xs,h1,h2,h3⟩:=h.out
 exact ⟨.cons h1 h2 (h3.mono fun g hg _=>hg.1) .nil⟩
theorem KL.snoc {E:TypeId} {P:Nat→Prop} {g c:Nat} {w w':World} {v:Value} {f n:F} {xs ys:List Value} (h1:∀g,v.ownBlock=some g→P g) (h2:KF E w (fun g=>P g∧some g≠v.ownBlock) xs f)
 (h3:KF E w (fun g=>P g∧some g≠v.ownBlock) ys n) (own:w'.ownsRow 0 E 5 (.slice (some ⟨g,0,none⟩) (f.len+n.len) c) (f.len+n.len) (xs++ys))
 (hg:∀k,k<w.heap.size→some k≠v.ownBlock→w'.heap[k]?=w.heap[k]?) (hnew:∀x,w.heap.size≤x→P x) (hat:v.ownBlock=some g∨w.heap.size≤g):KL E P w' (.slice (some ⟨g,0,none⟩) (f.len+n.len) c) (f.app n):=by
 have h4:=((h2.app h3).mono (Q:=fun k=>(P k∧some k≠v.ownBlock)∧k<w.heap.size) fun k hk hl=>⟨hk,hl⟩).keep (w':=w') fun k hk _=>hg k hk.2 hk.1.2
 refine ⟨xs++ys,by rw[F.len_app];exact own,fun x hx=>?_,h4.mono fun k hk _=>⟨hk.1.1,?_⟩⟩
 ·have e2:g=x:=by simpa [Value.ownBlock] using hx
  subst e2
  exact hat.elim (h1 g) (hnew g)
 ·rcases hat with hat | hat
  ·exact fun e=>hk.1.2 (e.trans hat.symm)
  ·intro e
   have e2:k=g:=by simpa [Value.ownBlock] using e
   have:=hk.2
   omega
theorem KL.made {E:TypeId} {P:Nat→Prop} {n:Nat} {w:World} {cur:Array Value} {f:F} (h:KF E w P cur.toList f) (hm:P w.heap.size) (hn:f.len=n) (hl:n≤maxLen):KL E P (w.alloc (.cells cur E)) (.slice (some ⟨w.heap.size,0,none⟩) n n) f:=by
 subst hn
 have hs:cur.size=f.len * 5:=by rw[←h.len];simp
 refine ⟨cur.toList,⟨by simpa using hs,.inr ⟨w.heap.size,f.len,cur,rfl,Nat.zero_le _,heap_alloc_new w _,Nat.le_refl _,hl,hs,by rw[←hs];exact List.take_of_length_le (by simp)⟩⟩,fun g hg=>?_,?_⟩
 ·have e2:w.heap.size=g:=by simpa [Value.ownBlock] using hg
  rw[←e2];exact hm
 have h4:=(h.mono (Q:=fun k=>P k∧k<w.heap.size) fun k hk hl=>⟨hk,hl⟩).keep (w':=w.alloc (.cells cur E)) fun k hk _=>(World.grownBy_alloc w _ none).block k hk.2 (by simp)
 refine h4.mono fun k hk _=>⟨hk.1,fun e=>?_⟩
 have e2:k=w.heap.size:=by simpa [Value.ownBlock] using e
 have:=hk.2
 omega
end Go.Proofs.YtkjbgggghigapaaGreat
