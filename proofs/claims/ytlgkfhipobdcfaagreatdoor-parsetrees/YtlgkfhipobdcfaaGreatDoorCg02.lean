import Derived.Test.YtlgkfhipobdcfaaGreatDoorCg01
import Derived.Test.YtlgkfhipobdcfaaGreatDoorCg00
import Derived.Test.YtlgkfhipobdcfaaGreatDoorRows
import Derived.WalkKit
import Derived.WalkSpells
import Derived.WalkLawsBesides
import Derived.WalkSmall
import Derived.Lib.OthersKept
import Derived.Deep.LoopGhost
import Derived.Lib.IndexAny
import Derived.Lib.ItoaNum
import Derived.Lib.IndexLaws
import Derived.Laws.BytesArg
namespace Go.Proofs.YtlgkfhipobdcfaaGreatDoor
def G (b : Prop) (m : Nat) : PR → Prop
  | .ok _ l=>l.length < m
  | .bad _=>True
  | .out=>¬ b
theorem G.mono {b b' : Prop} {m m' : Nat} {x : PR} (h : G b' m' x) (hb : b → b') (hm : m' ≤ m) : G b m x:=by
  cases x with
  | ok f l=>exact Nat.lt_of_lt_of_le h hm
  | bad p=>exact trivial
  | out=>exact fun e=>h (hb e)
theorem G.bind {b : Prop} {a m : Nat} {x : PR} {k : F → List Tok → PR} (h : G b a x) (hk : ∀ f l,l.length < a → G b m (k f l)) : G b m (x.bind k):=by
  cases x with
  | ok f l=>exact hk f l h
  | bad p=>exact trivial
  | out=>exact h
theorem tail_len {l : List Tok} (h : hc l ≠ 56) : l.tail.length + 1 = l.length:=by
  cases l with
  | nil=>exact absurd rfl h
  | cons t l=>rfl
theorem G.need {b : Prop} {m c : Nat} {l : List Tok} {k : List Tok → PR} (hc' : c ≠ 56) (h : l.tail.length + 1 = l.length → G b m (k l.tail)) : G b m (need c l k):=by
  unfold Go.Proofs.YtlgkfhipobdcfaaGreatDoor.need
  split
  · next e=>exact h (tail_len (by rw [e];exact hc'))
  · exact trivial
theorem G.nam {b : Prop} {m : Nat} {q : Int} {l : List Tok} {k : F → List Tok → PR} (h : ∀ f,l.tail.length + 1 = l.length → G b m (k f l.tail)) : G b m (nam q l k):=by
  unfold Go.Proofs.YtlgkfhipobdcfaaGreatDoor.nam
  split
  · next e=>exact h _ (tail_len (by rw [e];decide))
  · exact trivial
def rk : J → Nat
  | .blk _=>3 | .bk _ _=>2 | .stat=>1 | .lst _=>3 | .nms _=>0 | .ifs _=>3 | .asg _=>0
  | .ex _=>2 | .exl _ _=>0 | .opd=>1 | .suf=>0 | .sufl _=>0 | .tab _=>4 | .fld=>3
def st : J → Nat
  | .blk _=>0 | .bk _ _=>0 | .stat=>1 | .lst _=>1 | .nms _=>0 | .ifs _=>1 | .asg _=>0
  | .ex _=>1 | .exl _ _=>0 | .opd=>1 | .suf=>1 | .sufl _=>0 | .tab _=>0 | .fld=>1
section
variable {rec : J → List Tok → PR} {n : Nat} (ih : ∀ j l,G (8 * l.length + rk j < n) (l.length + 1 - st j) (rec j l))
include ih
theorem g_rec {b : Prop} {m : Nat} (j : J) (l : List Tok) (hb : b → 8 * l.length + rk j < n) (hm : l.length + 1 - st j ≤ m) : G b m (rec j l):=(ih j l).mono hb hm
theorem g_body {b : Prop} {m : Nat} {l : List Tok} {k : F → List Tok → PR} (hb : b → 8 * l.length < n + 2) (h : ∀ f l1,l1.length + 1 < l.length → G b m (k f l1)) : G b m (bodyP rec l k):=by
  unfold bodyP
  refine .need (by decide) fun e=>.bind (g_rec ih (.blk false) _ (fun x=>by have:=hb x;simp only [rk];omega) (Nat.le_refl _)) fun f l1 h1=>.need (by decide) fun e1=>h f _ (by simp only [st] at h1;omega)
end
set_option maxHeartbeats 1000000 in
theorem g_step {rec : J → List Tok → PR} {n : Nat} (ih : ∀ j l,G (8 * l.length + rk j < n) (l.length + 1 - st j) (rec j l)) (j : J) (l : List Tok) :
    G (8 * l.length + rk j < n + 1) (l.length + 1 - st j) (stp' rec j l):=by
  have R:=fun {b : Prop} (j : J) (l : List Tok) (hb : b → 8 * l.length + rk j < n)=>g_rec ih (b:=b) j l hb (Nat.le_refl _)
  have lastG : l.tail.length + 1 = l.length → ∀ m,l.length ≤ m → G (8 * l.length < n + 1) m (lastP rec l):=by
    intro e m hm
    unfold lastP
    split
    · next h=>have:=tail_len (l:=l.tail) (by rw [h];decide);show _ < _;omega
    · split
      · show _ < _;omega
      · refine .bind (R (.lst .nil) _ (fun x=>by simp only [rk];omega)) fun f l1 h1=>?_
        show _ < _
        simp only [st] at h1
        split
        · have : l1.tail.length ≤ l1.length:=by simp
          omega
        · omega
  have nmsG : ∀ (f : F) (l1 : List Tok),l1.length < l.length → G (8 * l.length < n + 1) l.length (rec (.nms f) l1):=fun f l1 h=>g_rec ih _ _ (fun x=>by simp only [rk];omega) (by simp only [st];omega)
  have funG : l.tail.length + 1 = l.length → G (8 * l.length < n + 1) l.length (funP rec l):=by
    intro e
    unfold funP parP
    refine .nam fun m e1=>.need (by decide) fun e2=>.bind (a:=l.length - 1) ?_ fun ps l1 h1=>.need (by decide) fun e3=>.bind (R (.blk false) _ (fun x=>by simp only [rk];omega)) fun b l2 h2=>.need (by decide) fun e4=>?_
    · split
      · show _ < _;omega
      · exact .nam fun f e5=>g_rec ih _ _ (fun x=>by simp only [rk];omega) (by simp only [st];omega)
    · show _ < _
      simp only [st] at h2
      omega
  cases j with
  | blk c =>
    refine .bind (R _ _ (fun x=>by simp only [rk] at x ⊢;omega)) fun f l1 h1=>?_
    show _ < _
    simp only [st] at h1 ⊢;omega
  | bk c a =>
    simp only [stp',st,rk]
    split
    · next h=>have:=tail_len (l:=l) (by rw [h];decide);exact g_rec ih _ _ (fun x=>by simp only [rk];omega) (by simp only [st];omega)
    · split
      · next h=>exact .bind ((lastG (tail_len (by rw [h];decide)) l.length (Nat.le_refl _)).mono (fun x=>by omega) (Nat.le_refl _)) fun f l1 h1=>by show _ < _;omega
      · split
        · next h =>
          refine .bind ((funG (tail_len (by rw [h.2];decide))).mono (fun x=>by omega) (Nat.le_refl _)) fun f l1 h1=>?_
          exact g_rec ih _ _ (fun x=>by simp only [rk];omega) (by simp only [st];omega)
        · split
          · show _ < _;omega
          · refine .bind (R .stat l (fun x=>by simp only [rk];omega)) fun f l1 h1=>?_
            simp only [st] at h1
            exact g_rec ih _ _ (fun x=>by simp only [rk];omega) (by simp only [st];omega)
  | stat =>
    simp only [stp',st,rk]
    split
    · exact g_body ih (fun x=>by omega) fun f l1 h1=>by show _ < _;omega
    · split
      · next h =>
        have:=tail_len (l:=l) (by rw [h];decide)
        unfold whileP
        refine .bind (R (.ex 0) _ (fun x=>by simp only [rk];omega)) fun f l1 h1=>?_
        simp only [st] at h1
        exact g_body ih (fun x=>by omega) fun f l1 h1=>by show _ < _;omega
      · split
        · next h =>
          have:=tail_len (l:=l) (by rw [h];decide)
          unfold ifP
          refine .bind (R (.ifs .nil) _ (fun x=>by simp only [rk];omega)) fun f l1 h1=>?_
          simp only [st] at h1
          show _ < _;omega
        · split
          · next h =>
            have:=tail_len (l:=l) (by rw [h];decide)
            unfold forP
            refine .nam fun m e1=>?_
            split
            · next h2 =>
              have:=tail_len (l:=l.tail.tail) (by rw [h2];decide)
              unfold numP
              refine .bind (R (.ex 0) _ (fun x=>by simp only [rk];omega)) fun f l1 h1=>.need (by decide) fun e2=>.bind (R (.ex 0) _ (fun x=>by simp only [rk,st] at h1 ⊢;omega)) fun g l2 h3=>?_
              simp only [st] at h1 h3
              split
              · next h4 =>
                have:=tail_len (l:=l2) (by rw [h4];decide)
                refine .bind (R (.ex 0) _ (fun x=>by simp only [rk];omega)) fun f l1 h1=>?_
                simp only [st] at h1
                exact g_body ih (fun x=>by omega) fun f l1 h1=>by show _ < _;omega
              · exact g_body ih (fun x=>by omega) fun f l1 h1=>by show _ < _;omega
            · refine .bind (R (.nms m) _ (fun x=>by simp only [rk];omega)) fun ns l1 h1=>.need (by decide) fun e2=>.bind (R (.lst ns) _ (fun x=>by simp only [rk,st] at h1 ⊢;omega)) fun g l2 h3=>?_
              simp only [st] at h1 h3
              exact g_body ih (fun x=>by omega) fun f l1 h1=>by show _ < _;omega
          · split
            · next h =>
              have:=tail_len (l:=l) (by rw [h];decide)
              unfold locP
              refine .nam fun m e1=>.bind (R (.nms m) _ (fun x=>by simp only [rk];omega)) fun ns l1 h1=>?_
              simp only [st] at h1
              split
              · next h2 =>
                have:=tail_len (l:=l1) (by rw [h2];decide)
                refine .bind (R (.lst ns) _ (fun x=>by simp only [rk];omega)) fun f l2 h3=>?_
                simp only [st] at h3
                show _ < _;omega
              · show _ < _;omega
            · split
              · next h =>
                have:=tail_len (l:=l) (by rw [h];decide)
                show _ < _;omega
              · unfold asgP tgt
                refine .bind (R .suf _ (fun x=>by simp only [rk];omega)) fun f l1 h1=>?_
                simp only [st] at h1
                split
                · split
                  · refine .bind (R (.asg f) _ (fun x=>by simp only [rk];omega)) fun ts l2 h2=>.need (by decide) fun e2=>.bind (R (.lst ts) _ (fun x=>by simp only [rk,st] at h2 ⊢;omega)) fun g l3 h3=>?_
                    simp only [st] at h2 h3
                    show _ < _;omega
                  · exact trivial
                · split
                  · show _ < _;omega
                  · exact trivial
  | lst a =>
    simp only [stp',st,rk]
    refine .bind (R (.ex 0) _ (fun x=>by simp only [rk];omega)) fun f l1 h1=>?_
    simp only [st] at h1
    split
    · next h =>
      have:=tail_len (l:=l1) (by rw [h];decide)
      exact g_rec ih _ _ (fun x=>by simp only [rk];omega) (by simp only [st];omega)
    · show _ < _;omega
  | nms a =>
    simp only [stp',st,rk]
    split
    · next h =>
      have:=tail_len (l:=l) (by rw [h];decide)
      exact .nam fun f e=>g_rec ih _ _ (fun x=>by simp only [rk];omega) (by simp only [st];omega)
    · show _ < _;omega
  | ifs a =>
    simp only [stp',st,rk,brP]
    refine .bind (a:=l.length - 1) (.bind (R (.ex 0) _ (fun x=>by simp only [rk];omega)) fun e l1 h1=>.need (by decide) fun e1=>.bind (R (.blk false) _ (fun x=>by simp only [rk,st] at h1 ⊢;omega)) fun b l2 h2=>?_) fun f l1 h1=>?_
    · simp only [st] at h1 h2
      show _ < _;omega
    · split
      · next h =>
        have:=tail_len (l:=l1) (by rw [h];decide)
        exact g_rec ih _ _ (fun x=>by simp only [rk];omega) (by simp only [st];omega)
      · split
        · next h =>
          have:=tail_len (l:=l1) (by rw [h];decide)
          refine .bind (R (.blk false) _ (fun x=>by simp only [rk];omega)) fun b l2 h2=>.need (by decide) fun e1=>?_
          simp only [st] at h2
          show _ < _;omega
        · exact .need (by decide) fun e1=>by show _ < _;omega
  | asg a =>
    simp only [stp',st,rk,tgt]
    split
    · next h =>
      have:=tail_len (l:=l) (by rw [h];decide)
      refine .bind (R .suf _ (fun x=>by simp only [rk];omega)) fun f l1 h1=>?_
      simp only [st] at h1
      split
      · exact g_rec ih _ _ (fun x=>by simp only [rk];omega) (by simp only [st];omega)
      · exact trivial
    · show _ < _;omega
  | ex a =>
    simp only [stp',st,rk]
    refine .bind (R .opd _ (fun x=>by simp only [rk];omega)) fun f l1 h1=>?_
    simp only [st] at h1
    exact g_rec ih _ _ (fun x=>by simp only [rk];omega) (by simp only [st];omega)
  | exl a f =>
    simp only [stp',st,rk]
    split
    · next h =>
      have:=tail_len (l:=l) (by intro e;rw [e] at h;exact absurd h (by simp [bnd]))
      refine .bind (R (.ex _) _ (fun x=>by simp only [rk];omega)) fun g l1 h1=>?_
      simp only [st] at h1
      exact g_rec ih _ _ (fun x=>by simp only [rk];omega) (by simp only [st];omega)
    · show _ < _;omega
  | opd =>
    simp only [stp',st,rk]
    have tl : ∀ c,hc l = c → c ≠ 56 → l.tail.length + 1 = l.length:=fun c h h2=>tail_len (by rw [h];exact h2)
    split
    · exact g_rec ih _ _ (fun x=>by simp only [rk];omega) (by simp only [st];omega)
    · split
      · next h =>
        have:=tl _ h (by decide)
        unfold tabP
        refine .bind (R (.tab .nil) _ (fun x=>by simp only [rk];omega)) fun f l1 h1=>.need (by decide) fun e1=>?_
        simp only [st] at h1
        show _ < _;omega
      · split
        · next h =>
          have : l.tail.length + 1 = l.length:=by rcases h with h | h | h <;> exact tl _ h (by decide)
          refine .bind (R .opd _ (fun x=>by simp only [rk];omega)) fun f l1 h1=>?_
          simp only [st] at h1
          show _ < _;omega
        · split
          · next h=>have:=tl _ h (by decide);show _ < _;omega
          · split
            · next h=>have:=tl _ h (by decide);show _ < _;omega
            · split
              · next h=>have:=tl _ h (by decide);show _ < _;omega
              · split
                · next h=>have:=tl _ h (by decide);show _ < _;omega
                · split
                  · next h=>have:=tl _ h (by decide);show _ < _;omega
                  · exact trivial
  | suf =>
    simp only [stp',st,rk,stemP]
    refine .bind (a:=l.length) ?_ fun f l1 h1=>g_rec ih _ _ (fun x=>by simp only [rk];omega) (by simp only [st];omega)
    split
    · next h =>
      have:=tail_len (l:=l) (by rw [h];decide)
      refine .bind (R (.ex 0) _ (fun x=>by simp only [rk];omega)) fun e l1 h1=>.need (by decide) fun e1=>?_
      simp only [st] at h1
      show _ < _;omega
    · exact .nam fun f e=>by show _ < _;omega
  | sufl f =>
    simp only [stp',st,rk,argP]
    split
    · next h =>
      have:=tail_len (l:=l) (by rw [h];decide)
      refine .bind (R (.ex 0) _ (fun x=>by simp only [rk];omega)) fun e l1 h1=>.need (by decide) fun e1=>?_
      simp only [st] at h1
      exact g_rec ih _ _ (fun x=>by simp only [rk];omega) (by simp only [st];omega)
    · split
      · next h =>
        have:=tail_len (l:=l) (by rw [h];decide)
        exact .nam fun f e=>g_rec ih _ _ (fun x=>by simp only [rk];omega) (by simp only [st];omega)
      · split
        · next h =>
          have:=tail_len (l:=l) (by rw [h];decide)
          refine .bind (a:=l.length) ?_ fun g l1 h1=>g_rec ih _ _ (fun x=>by simp only [rk];omega) (by simp only [st];omega)
          split
          · next h2=>have:=tail_len (l:=l.tail) (by rw [h2];decide);show _ < _;omega
          · refine .bind (R (.lst f) _ (fun x=>by simp only [rk];omega)) fun e l1 h1=>.need (by decide) fun e1=>?_
            simp only [st] at h1
            show _ < _;omega
        · show _ < _;omega
  | tab a =>
    simp only [stp',st,rk]
    split
    · show _ < _;omega
    · refine .bind (R .fld _ (fun x=>by simp only [rk];omega)) fun f l1 h1=>?_
      simp only [st] at h1
      split
      · next h =>
        have : l1.tail.length + 1 = l1.length:=by rcases h with h | h <;> exact tail_len (by rw [h];decide)
        exact g_rec ih _ _ (fun x=>by simp only [rk];omega) (by simp only [st];omega)
      · show _ < _;omega
  | fld =>
    simp only [stp',st,rk]
    split
    · next h =>
      have:=tail_len (l:=l) (by rw [h];decide)
      refine .bind (R (.ex 0) _ (fun x=>by simp only [rk];omega)) fun e l1 h1=>.need (by decide) fun e1=>.need (by decide) fun e2=>.bind (R (.ex 0) _ (fun x=>by simp only [rk,st] at h1 ⊢;omega)) fun v l2 h2=>?_
      simp only [st] at h1 h2
      show _ < _;omega
    · split
      · next h =>
        have:=tail_len (l:=l) (by rw [h.1];decide)
        have:=tail_len (l:=l.tail) (by rw [h.2];decide)
        refine .bind (R (.ex 0) _ (fun x=>by simp only [rk];omega)) fun v l2 h2=>?_
        simp only [st] at h2
        show _ < _;omega
      · refine .bind (R (.ex 0) _ (fun x=>by simp only [rk];omega)) fun v l2 h2=>?_
        simp only [st] at h2
        show _ < _;omega
theorem g_all : ∀ (n : Nat) (j : J) (l : List Tok),G (8 * l.length + rk j < n) (l.length + 1 - st j) (pr n j l)
  | 0,j,l=>by show ¬ _;omega
  | n + 1,j,l=>g_step (g_all n) j l
theorem pr_enough (n : Nat) (j : J) (l : List Tok) (h : 8 * l.length + rk j < n) : pr n j l ≠ .out:=by
  intro e
  have:=g_all n j l
  rw [e] at this
  exact this h
theorem pr_len {n : Nat} {j : J} {l l' : List Tok} {f : F} (h : pr n j l = .ok f l') : l'.length + st j ≤ l.length:=by
  have:=g_all n j l
  rw [h] at this
  have h2 : l'.length < l.length + 1 - st j:=this
  have : st j ≤ 1:=by cases j <;> simp [st]
  omega
def chk (l : List Tok) : PR:=(pr (8 * l.length + 4) (.blk true) l).bind fun f m=>if hc m = 56 then .ok f m else .bad (ha m)
theorem chk_some (l : List Tok) : chk l ≠ .out:=by
  have h:=pr_enough (8 * l.length + 4) (.blk true) l (by simp only [rk];omega)
  unfold chk
  cases he : pr (8 * l.length + 4) (.blk true) l with
  | out=>exact absurd he h
  | bad p=>simp [PR.bind]
  | ok f m=>simp only [PR.bind];split <;> simp
end Go.Proofs.YtlgkfhipobdcfaaGreatDoor


namespace Go.Proofs.YtlgkfhipobdcfaaGreatDoor
open Go.RowKit
theorem enters38 : ∀ args w,(callFunc 86 args).run Tryz.prog w = .ok (.enter 86 args) w:=enters_of Tryz.func86 (by kernel_rfl) rfl
theorem enters52 : ∀ args w,(callFunc 119 args).run Tryz.prog w = .ok (.enter 119 args) w:=enters_of Tryz.func119 (by kernel_rfl) rfl
theorem enters62 : ∀ args w,(callFunc 135 args).run Tryz.prog w = .ok (.enter 135 args) w:=enters_of Tryz.func135 (by kernel_rfl) rfl
set_option maxHeartbeats 400000 in
theorem inComment_any (r : Nat) (w : World) : Calls Tryz.prog 86 #[.int .i32 r] w fun e w'=>e = .returned (.bool (decide (r ≠ 10))) ∧ w' = w:=by
  go_enter Tryz.func86,Tryz.ntmps86
  go_wp2
  go_ret
  refine ⟨ret_bool ?_,rfl⟩
  rw [Bool.eq_iff_iff];simp;omega
set_option maxHeartbeats 400000 in
theorem isDigit_any (r : Nat) (w : World) (hr : r ≤ 1114111) : Calls Tryz.prog 135 #[.int .i32 r] w fun e w'=>e = .returned (.bool (digB r)) ∧ w' = w:=by
  go_enter Tryz.func135,Tryz.ntmps135
  go_wp2_with (go_at_call 89;refine (digit_any _ _).mono ?_;rintro e w' ⟨rfl,rfl⟩)
  go_ret
  exact ⟨rfl,rfl⟩
set_option maxHeartbeats 400000 in
theorem inName_any (r : Nat) (w : World) (hr : r ≤ 1114111) : Calls Tryz.prog 119 #[.int .i32 r] w fun e w'=>e = .returned (.bool (inNm r)) ∧ w' = w:=by
  cases h : letB r
  · go_enter Tryz.func119,Tryz.ntmps119
    go_wp2_with (first | (go_at_call 87;refine (letter_any _ _).mono ?_;rintro e w' ⟨rfl,rfl⟩) | (go_at_call 135;refine (isDigit_any _ _ hr).mono ?_;rintro e w' ⟨rfl,rfl⟩))
    go_ret
    exact ⟨ret_bool (by simp [inNm,h]),rfl⟩
  · go_enter Tryz.func119,Tryz.ntmps119
    go_wp2_with (first | (go_at_call 87;refine (letter_any _ _).mono ?_;rintro e w' ⟨rfl,rfl⟩) | (go_at_call 135;refine (isDigit_any _ _ hr).mono ?_;rintro e w' ⟨rfl,rfl⟩))
    go_ret
    exact ⟨ret_bool (by simp [inNm,h]),rfl⟩
theorem drop_ne (s : ByteArray) (p : Nat) (h : p < s.size) : s.data.toList.drop p ≠ []:=by
  intro e
  have:=congrArg List.length e
  rw [List.length_drop,Array.length_toList] at this
  have : s.data.size = s.size:=rfl
  simp at *
  omega
set_option maxHeartbeats 2000000 in
theorem span_any (s : ByteArray) (g : Nat) (f : Nat → Bool) (eg : ∀ args w,(callFunc g args).run Tryz.prog w = .ok (.enter g args) w)
    (hg : ∀ (r : Nat) (w : World),r ≤ 1114111 → Calls Tryz.prog g #[.int .i32 r] w fun e w'=>e = .returned (.bool (f r)) ∧ w' = w) (w : World) (_hs : s.size ≤ 9223372036854775807) :
    Calls Tryz.prog 85 #[.string s,.func (.func g) #[] #[]] w fun e w'=>e = .returned (.int .i64 (spn f s.data.toList)) ∧ Below w.heap.size w w':=by
  go_enter Tryz.func85,Tryz.ntmps85
  go_wp2
  go_loopg [] (s.size + 1) (fun gf wx=>∃ pos : Nat,pos ≤ s.size ∧ wx.heap[w.heap.size]? = some (.stringIter s pos) ∧ Hid (pos + spn f (s.data.toList.drop pos) = spn f s.data.toList) ∧ Below w.heap.size w wx ∧ s.size < pos + gf)
  case atStart=>exact ⟨0,Nat.zero_le _,World.iter_heap w s 0,by simp [Hid],(Below.refl _ _).alloc (Nat.le_refl _) _,by omega⟩
  case round =>
    obtain ⟨pos,hple,hi,hS,hB,hfu⟩:=hrel
    by_cases hps : pos < s.size
    · obtain ⟨g',rfl⟩ : ∃ g',gk = g' + 1:=⟨gk - 1,by omega⟩
      have hnx : ∀ ty,(Instr.next (.pointer (some ⟨w.heap.size,0,none⟩)) true ty).run Tryz.prog wr = .ok (.tuple #[.bool true,.int .i64 pos,.int .i32 (rn s pos)]) (wr.iterAt w.heap.size s (pos + wd s pos)):=fun ty=>Lib.run_next_any_at wr w.heap.size s pos ty hi hps
      have hwp:=wd_pos s pos
      have hwl:=wd_le s pos hps
      have hrl:=rn_le s pos
      have hi2:=Lib.iterAt_heap wr w.heap.size s pos (pos + wd s pos) hi
      have hB2:=Lib.below_iterAt hB (Nat.le_refl _) s (pos + wd s pos)
      have hlt:=(Array.getElem?_eq_some_iff.1 hi2).1
      obtain ⟨W,hW⟩ : ∃ W,wr.iterAt w.heap.size s (pos + wd s pos) = W:=⟨_,rfl⟩
      rw [hW] at hnx hi2 hB2
      have hC:=hg (rn s pos) W hrl
      cases hf : f (rn s pos)
      · have HN : Hid (spn f s.data.toList = pos):=by
          show _ = _
          rw [← hS.out,spn_no f _ (drop_ne s pos hps) (by rw [← rn_drop];exact hf)];rfl
        rw [hf] at hC
        clear hg hS hi hB hW hi2
        go_wp2_with ((go_at_fn g;refine hC.mono ?_;rintro e W' ⟨rfl,rfl⟩))
        go_ret
        exact ⟨ret1 (by rw [HN.out]),hB2⟩
      · have HN : Hid (pos + wd s pos + spn f (s.data.toList.drop (pos + wd s pos)) = spn f s.data.toList):=by
          show _ = _
          rw [← hS.out,spn_yes f _ (drop_ne s pos hps) (by rw [← rn_drop];exact hf),← wd_drop,List.drop_drop];omega
        rw [hf] at hC
        clear hg hS hi hB hW
        go_wp2_with ((go_at_fn g;refine hC.mono ?_;rintro e W' ⟨rfl,rfl⟩))
        go_roundg g'
        case measure=>omega
        case rel=>exact ⟨pos + wd s pos,hwl,hi2,HN,hB2,by omega⟩
    · have hnx : ∀ ty,(Instr.next (.pointer (some ⟨w.heap.size,0,none⟩)) true ty).run Tryz.prog wr = .ok (.tuple #[.bool false]) wr:=fun ty=>Lib.run_next_end_at wr w.heap.size s pos ty hi hps
      have HN : Hid (spn f s.data.toList = s.size):=by
        show _ = _
        have e : s.data.toList.drop pos = []:=List.drop_of_length_le (by rw [Array.length_toList];show s.size ≤ pos;omega)
        rw [← hS.out,e,spn_nil];omega
      clear hg hS hi
      go_wp2
      go_ret
      exact ⟨ret1 (by rw [HN.out]),hB⟩
def refu (c a : Int) : Ending:=.panicked [{ v:=.iface 73 (.agg #[.int .i64 c,.int .i64 a]),recovered:=false }]
set_option maxHeartbeats 400000 in
theorem refuse_any (c a : Int) (w : World) : Calls Tryz.prog 120 #[.int .i64 c,.int .i64 a] w fun e w'=>e = refu c a ∧ w' = w:=by
  go_enter Tryz.func120,Tryz.ntmps120
  go_wp2
  exact ⟨rfl,rfl,rfl⟩
theorem word_tail (s : ByteArray) (b : Bool) (h : b = wordL.contains s.toList) : b = wordB s.data.toList:=by rw [h,wordB,ByteArray.toList_eq]
set_option maxHeartbeats 4000000 in
theorem isWord_any (s : ByteArray) (w : World) : Calls Tryz.prog 121 #[.string s] w fun e w'=>e = .returned (.bool (wordB s.data.toList)) ∧ w' = w:=by
  go_enter Tryz.func121,Tryz.ntmps121
  go_wp2
  all_goals go_ret
  all_goals (refine ⟨ret_bool (word_tail s _ ?_),rfl⟩;generalize s.toList = l at *;simp only [wordL,List.contains_cons,List.contains_nil,Bool.or_false];simp [*])
  all_goals simp_all
set_option maxHeartbeats 4000000 in
theorem rIsWord_any (s : ByteArray) (w : World) : Calls Tryz.prog 39 #[.string s] w fun e w'=>e = .returned (.bool (wordB s.data.toList)) ∧ w' = w:=by
  go_enter Tryz.func39,Tryz.ntmps39
  go_wp2
  all_goals go_ret
  all_goals (refine ⟨ret_bool (word_tail s _ ?_),rfl⟩;generalize s.toList = l at *;simp only [wordL,List.contains_cons,List.contains_nil,Bool.or_false];simp [*])
  all_goals simp_all
theorem ext2 (s : ByteArray) : (s.extract 0 2).toList = s.data.toList.take 2:=by
  rw [ByteArray.toList_eq];simp
theorem head_at (s : ByteArray) (h : 0 < s.size) : s.data.toList.headD 0 = s[0]:=by
  obtain ⟨⟨l⟩⟩:=s
  cases l with
  | nil=>exact absurd h (by show ¬ 0 < 0;omega)
  | cons a l=>rfl
theorem sgz_two (s : ByteArray) (h : sgn2.contains (s.extract 0 2).toList = true) : (2 : Int) = sgz s.data.toList:=by
  rw [ext2] at h;unfold sgz;rw [if_pos h];rfl
theorem sgz_one (s : ByteArray) (h0 : 0 < s.size) (h : sgn2.contains (s.extract 0 2).toList = false) (h1 : 0 ≤ Lib.indexByte [43,45,42,37,60,62,61,35,40,41,123,125,91,93,59,44,46] s[0]) : (1 : Int) = sgz s.data.toList:=by
  rw [ext2] at h;unfold sgz;rw [h,head_at s h0,Lib.contains_iff_indexByte]
  rw [if_neg (by simp),if_pos (by unfold sgn1;exact decide_eq_true h1)];rfl
theorem sgz_none (s : ByteArray) (h0 : 0 < s.size) (h : sgn2.contains (s.extract 0 2).toList = false) (h1 : Lib.indexByte [43,45,42,37,60,62,61,35,40,41,123,125,91,93,59,44,46] s[0] < 0) : (0 : Int) = sgz s.data.toList:=by
  rw [ext2] at h;unfold sgz;rw [h,head_at s h0,Lib.contains_iff_indexByte]
  rw [if_neg (by simp),if_neg (by unfold sgn1;intro h2;have:=of_decide_eq_true h2;omega)];rfl
theorem sgn2_short (s : ByteArray) (h : ¬ 1 < s.size) : sgn2.contains (s.extract 0 2).toList = false:=by
  rw [ext2]
  cases hc : sgn2.contains (s.data.toList.take 2)
  · rfl
  · have : s.data.toList.take 2 ∈ sgn2:=by simpa using hc
    have h2 : (s.data.toList.take 2).length = 2:=by
      simp only [sgn2,List.mem_cons,List.not_mem_nil,or_false] at this
      rcases this with e | e | e | e | e | e <;> rw [e] <;> rfl
    rw [List.length_take,Array.length_toList] at h2
    have : s.data.size = s.size:=rfl
    omega
set_option maxHeartbeats 4000000 in
theorem signSize_any (s : ByteArray) (w : World) (h0 : 0 < s.size) (hs : s.size ≤ 9223372036854775807) : Calls Tryz.prog 125 #[.string s] w fun e w'=>e = .returned (.int .i64 (sgz s.data.toList)) ∧ w' = w:=by
  by_cases h1 : 1 < s.size
  · go_enter Tryz.func125,Tryz.ntmps125
    go_wp2_with (go_at_call 138;refine (Tryz.strings_IndexByte _ _ _).mono ?_;rintro e w' ⟨rfl,rfl⟩)
    all_goals (go_ret;refine ⟨ret1 ?_,rfl⟩)
    all_goals first
      | (exfalso;exact Bool.false_ne_true ((Eq.symm (by assumption : ((s.extract 0 2).toList == _) = false)).trans (by assumption)))
      | (exact sgz_two s (by simp only [sgn2,List.contains_cons,List.contains_nil,Bool.or_false];simp [*];done))
      | (exact sgz_one s h0 (by simp only [sgn2,List.contains_cons,List.contains_nil,Bool.or_false];simp [*];done) (by assumption))
      | (exact sgz_none s h0 (by simp only [sgn2,List.contains_cons,List.contains_nil,Bool.or_false];simp [*];done) (by assumption))
  · have H2 : Hid (sgn2.contains (s.extract 0 2).toList = false):=sgn2_short s h1
    go_enter Tryz.func125,Tryz.ntmps125
    go_wp2_with (go_at_call 138;refine (Tryz.strings_IndexByte _ _ _).mono ?_;rintro e w' ⟨rfl,rfl⟩)
    all_goals (go_ret;refine ⟨ret1 ?_,rfl⟩)
    all_goals first
      | (exact sgz_one s h0 H2.out (by assumption))
      | (exact sgz_none s h0 H2.out (by assumption))
end Go.Proofs.YtlgkfhipobdcfaaGreatDoor


namespace Go.Proofs.YtlgkfhipobdcfaaGreatDoor.W
open Go.RowKit
theorem ret2 {a b c d : Int} (h : a = b) (h' : c = d) : Ending.returned (.tuple #[.int .i64 a,.int .i64 c]) = .returned (.tuple #[.int .i64 b,.int .i64 d]):=by rw [h,h']
def negN (l : List UInt8) : Int:=wrap64 (-(wrap64 (numN l 9223372036854775808)))
theorem hexP_dec (l : List UInt8) (h : allDec l = true) : hexP l = false:=by
  match l with
  | []=>rfl
  | [_]=>rfl
  | a :: b :: t =>
    simp only [allDec,List.all_cons,Bool.and_eq_true,decide_eq_true_eq] at h
    have hb:=h.2.1
    simp only [hexP,Bool.and_eq_false_iff,Bool.or_eq_false_iff,decide_eq_false_iff_not]
    right
    constructor
    · rintro rfl;simp at hb
    · rintro rfl;simp at hb
theorem num_dec (l : List UInt8) (most : Int) (h : allDec l = true) (hn : l.isEmpty = false) : numN l most = (if most < dv l then 0 else (dv l : Int)) ∧ numE l most = (if most < dv l then 14 else 0):=by
  have hx:=hexP_dec l h
  simp [numN,numE,hx,decN,decE,h,hn]
end Go.Proofs.YtlgkfhipobdcfaaGreatDoor.W


namespace Go.Proofs.YtlgkfhipobdcfaaGreatDoor
open Go.RowKit
theorem spn_asc (f : Nat → Bool) (hf : ∀ r,f r = true → r < 128) : ∀ l : List UInt8,spn f l = (l.takeWhile fun c=>f c.toNat).length
  | []=>by rw [spn_nil];rfl
  | c :: t=>by
    rcases Nat.lt_or_ge c.toNat 128 with h | h
    · obtain ⟨h1,h2⟩:=asc c t h
      cases hc : f c.toNat
      · rw [spn_no f _ (by simp) (by rw [h1];exact hc)]
        simp [hc]
      · rw [spn_yes f _ (by simp) (by rw [h1];exact hc),h2]
        simp only [List.drop_succ_cons,List.drop_zero]
        rw [spn_asc f hf t]
        simp only [List.takeWhile_cons,hc,if_true,List.length_cons];omega
    · have h1:=hi c t h
      have h2 : f (rnL (c :: t)) = false:=by
        cases e : f (rnL (c :: t))
        · rfl
        · have:=hf _ e;omega
      have h3 : f c.toNat = false:=by
        cases e : f c.toNat
        · rfl
        · have:=hf _ e;omega
      rw [spn_no f _ (by simp) h2]
      simp [h3]
theorem takeWhile_take {α : Type} (p : α → Bool) : ∀ (l : List α) (m : Nat),(l.take m).takeWhile p = l.take (min (l.takeWhile p).length m)
  | [],m=>by simp
  | a :: l,0=>by simp
  | a :: l,m + 1=>by
    simp only [List.take_succ_cons,List.takeWhile_cons]
    cases hp : p a
    · simp
    · simp only [if_true,List.length_cons]
      rw [takeWhile_take p l m]
      have : min ((l.takeWhile p).length + 1) (m + 1) = min (l.takeWhile p).length m + 1:=by omega
      rw [this,List.take_succ_cons]
theorem mem_tw {α : Type} (p : α → Bool) : ∀ (l : List α) (x : α),x ∈ l.takeWhile p → p x = true
  | [],x,h=>by simp at h
  | a :: l,x,h=>by
    cases hp : p a
    · simp [hp] at h
    · simp only [List.takeWhile_cons,hp,if_true,List.mem_cons] at h
      rcases h with rfl | h
      · exact hp
      · exact mem_tw p l x h
def digN (r : Nat) : Bool:=digB r
theorem digN_lt (r : Nat) (h : digN r = true) : r < 128:=by simp [digN,digB] at h;omega
theorem dgs_take (l : List UInt8) : dgs 3 l = l.take (min (spn digN l) 3):=by
  unfold dgs
  rw [takeWhile_take,spn_asc _ digN_lt]
  rfl
theorem takeWhile_all {α : Type} (p : α → Bool) (l : List α) : (l.takeWhile p).all p = true:=by
  rw [List.all_eq_true];intro x hx;exact mem_tw p l x hx
theorem dgs_all (m : Nat) (l : List UInt8) : W.allDec (dgs m l) = true:=takeWhile_all _ _
theorem hxs_all (m : Nat) (l : List UInt8) : W.allHex (hxs m l) = true:=takeWhile_all _ _
theorem dgs_len (m : Nat) (l : List UInt8) : (dgs m l).length ≤ m:=by
  unfold dgs
  have:=(List.takeWhile_sublist (l:=l.take m) (fun c : UInt8=>decide (48 ≤ (c.toNat : Int) ∧ (c.toNat : Int) ≤ 57))).length_le
  rw [List.length_take] at this
  omega
theorem hxs_len (m : Nat) (l : List UInt8) : (hxs m l).length ≤ m:=by
  unfold hxs
  have:=(List.takeWhile_sublist (l:=l.take m) (fun c : UInt8=>W.dgB c.toNat)).length_le
  rw [List.length_take] at this
  omega
theorem dv_lt : ∀ (n : Nat) (l : List UInt8),l.length ≤ n → W.allDec l = true → W.dv l < 10 ^ l.length:=by
  intro n
  induction n with
  | zero=>intro l hl _;cases l with | nil=>simp [W.dv] | cons a l=>simp at hl
  | succ n ih =>
    intro l hl ha
    rcases List.eq_nil_or_concat l with h | ⟨l',c,rfl⟩
    · subst h;simp [W.dv]
    · rw [List.concat_eq_append] at *
      rw [W.allDec_snoc] at ha
      simp only [Bool.and_eq_true,decide_eq_true_eq] at ha
      have h1:=ih l' (by simp at hl;omega) ha.1
      rw [W.dv_snoc,(W.dec_val _ ha.2).2]
      simp only [List.length_append,List.length_cons,List.length_nil,Nat.pow_succ]
      omega
theorem hv_lt : ∀ (n : Nat) (l : List UInt8),l.length ≤ n → l.length ≤ 8 → W.hv l < 16 ^ l.length:=by
  intro n
  induction n with
  | zero=>intro l hl _;cases l with | nil=>simp [W.hv] | cons a l=>simp at hl
  | succ n ih =>
    intro l hl h8
    rcases List.eq_nil_or_concat l with h | ⟨l',c,rfl⟩
    · subst h;simp [W.hv]
    · rw [List.concat_eq_append] at *
      simp only [List.length_append,List.length_cons,List.length_nil] at hl h8 ⊢
      have h1:=ih l' (by omega) (by omega)
      have h2:=W.dgV_bound c.toNat
      have h3:=W.hv_bound l'
      rw [W.hv_snoc]
      have h4 : (W.hv l' * 16 + W.dgV c.toNat) % 18446744073709551616 ≤ W.hv l' * 16 + W.dgV c.toNat:=by omega
      rw [Int.pow_succ]
      omega
theorem hv_small (l : List UInt8) (h8 : l.length ≤ 8) : 0 ≤ W.hv l ∧ W.hv l < 4294967296:=by
  refine ⟨(W.hv_bound l).1,?_⟩
  have h:=hv_lt 8 l h8 h8
  have h2 : (16 : Int) ^ l.length ≤ 16 ^ 8:=by
    have : (16 : Nat) ^ l.length ≤ 16 ^ 8:=Nat.pow_le_pow_right (by omega) h8
    exact_mod_cast this
  omega
theorem par_dec (d : List UInt8) (ha : W.allDec d = true) (h3 : d.length ≤ 3) : (d = [] → W.parE d = 4) ∧ (d ≠ [] → W.parE d = 0 ∧ W.parN d = W.dv d ∧ W.dv d ≤ 999):=by
  constructor
  · rintro rfl;rfl
  · intro hn
    have hne : d.isEmpty = false:=by cases d with | nil=>exact absurd rfl hn | cons a l=>rfl
    have h1:=dv_lt 3 d h3 ha
    have h2 : 10 ^ d.length ≤ 10 ^ 3:=Nat.pow_le_pow_right (by omega) h3
    obtain ⟨e1,e2⟩:=W.num_dec d 9223372036854775807 ha hne
    unfold W.parE W.parN
    rw [e1,e2,if_neg (by omega),if_neg (by omega)]
    exact ⟨rfl,by unfold wrap64;omega,by omega⟩
theorem par_hex (x : List UInt8) : W.parE (48 :: 120 :: x) = W.hexE x ∧ W.parN (48 :: 120 :: x) = wrap64 (W.hexN x):=by
  have hp : W.hexP (48 :: 120 :: x) = true:=by simp [W.hexP]
  simp [W.parE,W.parN,W.numE,W.numN,hp]
theorem par_hex8 (x : List UInt8) (h8 : x.length ≤ 8) : (x = [] ∨ W.allHex x = false → W.parE (48 :: 120 :: x) = 4) ∧ (x ≠ [] → W.allHex x = true → W.parE (48 :: 120 :: x) = 0 ∧ W.parN (48 :: 120 :: x) = W.hv x):=by
  rw [(par_hex x).1,(par_hex x).2]
  constructor
  · rintro (rfl | h)
    · rfl
    · simp [W.hexE,h]
  · intro hn ha
    have hne : x.isEmpty = false:=by cases x with | nil=>exact absurd rfl hn | cons a l=>rfl
    have:=hv_small x h8
    simp only [W.hexE,W.hexN,hne,ha,Bool.not_true,Bool.or_self,Bool.false_eq_true,if_false]
    exact ⟨trivial,by unfold wrap64;omega⟩
theorem hxs_two (a b : UInt8) (t : List UInt8) : (hxs 2 (a :: b :: t)).length = 2 ↔ W.allHex [a,b] = true:=by
  simp only [hxs,List.take_succ_cons,List.take_zero,W.allHex,List.all_cons,List.all_nil,Bool.and_true,Bool.and_eq_true]
  cases ha : W.dgB a.toNat <;> cases hb : W.dgB b.toNat <;> simp [ha,hb]
theorem hxs_two_eq (a b : UInt8) (t : List UInt8) (h : W.allHex [a,b] = true) : hxs 2 (a :: b :: t) = [a,b]:=by
  simp only [W.allHex,List.all_cons,List.all_nil,Bool.and_true,Bool.and_eq_true] at h
  simp [hxs,h.1,h.2]
theorem hxs_short (u : List UInt8) (h : u.length < 2) : (hxs 2 u).length ≠ 2:=by
  have : (hxs 2 u).length ≤ u.length:=by
    unfold hxs
    have:=(List.takeWhile_sublist (l:=u.take 2) (fun c : UInt8=>W.dgB c.toNat)).length_le
    rw [List.length_take] at this
    omega
  omega
theorem hxs_brace (v : List UInt8) (e : Nat) (he : e ≤ 8) (h1 : v[e]? = some 125) (h2 : ∀ k,k < e → v[k]? ≠ some 125) :
    (W.allHex (v.take e) = true → hxs 8 v = v.take e) ∧ (W.allHex (v.take e) = false → (v.drop (hxs 8 v).length).headD 0 ≠ 125):=by
  have hlen : e < v.length:=by
    rcases Nat.lt_or_ge e v.length with h | h
    · exact h
    · rw [List.getElem?_eq_none h] at h1;cases h1
  have hsplit : v = v.take e ++ 125 :: v.drop (e + 1):=by
    have h3 : v[e] = 125:=by
      rw [List.getElem?_eq_getElem hlen] at h1;exact Option.some.inj h1
    have h4:=List.take_append_drop e v
    rw [List.drop_eq_getElem_cons hlen,h3] at h4
    exact h4.symm
  constructor
  · intro ha
    have hall : ∀ x ∈ v.take e,W.dgB x.toNat = true:=fun x hx=>List.all_eq_true.1 ha x hx
    unfold hxs
    rw [takeWhile_take]
    have htw : v.takeWhile (fun c=>W.dgB c.toNat) = v.take e:=by
      conv=>lhs;rw [hsplit]
      rw [List.takeWhile_append_of_pos hall]
      have : W.dgB 125 = false:=by decide
      simp [this]
    rw [htw,List.length_take]
    congr 1
    omega
  · intro ha
    obtain ⟨x,hx,hxf⟩:=List.all_eq_false.1 ha
    obtain ⟨j,hj,rfl⟩:=List.getElem_of_mem hx
    rw [List.length_take] at hj
    rw [List.getElem_take] at hxf
    have hk : (hxs 8 v).length ≤ j:=by
      unfold hxs
      rw [takeWhile_take,List.length_take]
      have : (v.takeWhile fun c=>W.dgB c.toNat).length ≤ j:=by
        rcases Nat.lt_or_ge j (v.takeWhile fun c=>W.dgB c.toNat).length with h | h
        · exfalso
          apply hxf
          have h5:=mem_tw (fun c : UInt8=>W.dgB c.toNat) v _ (List.getElem_mem h)
          have h6 : (v.takeWhile fun c=>W.dgB c.toNat)[j] = v[j]'(by omega):=by
            have:=List.takeWhile_prefix (l:=v) (fun c : UInt8=>W.dgB c.toNat)
            exact this.getElem h
          rw [h6] at h5
          exact h5
        · exact h
      omega
    intro hc
    have h7:=h2 (hxs 8 v).length (by omega)
    apply h7
    rw [← hc]
    have hl : (hxs 8 v).length < v.length:=by omega
    rw [List.getElem?_eq_getElem hl,List.drop_eq_getElem_cons hl]
    rfl
theorem no_brace (v : List UInt8) (k : Nat) (h : v[k]? ≠ some 125) : (v.drop k).headD 0 ≠ 125:=by
  intro hc
  apply h
  rcases Nat.lt_or_ge k v.length with hl | hl
  · rw [← hc,List.getElem?_eq_getElem hl,List.drop_eq_getElem_cons hl];rfl
  · rw [List.drop_of_length_le hl] at hc;exact absurd hc (by decide)
end Go.Proofs.YtlgkfhipobdcfaaGreatDoor


namespace Go.Proofs.YtlgkfhipobdcfaaGreatDoor
open Go.RowKit
def byN (r : Int) : Int:=if r < 128 then 1 else if r < 2048 then 2 else if r < 65536 then 3 else 4
set_option maxHeartbeats 400000 in
theorem bytes_any (r : Int) (w : World) : Calls Tryz.prog 69 #[.int .i64 r] w fun e w'=>e = .returned (.int .i64 (byN r)) ∧ w' = w:=by
  go_enter Tryz.func69,Tryz.ntmps69
  go_wp2
  all_goals (go_ret;exact ⟨ret1 (by unfold byN;(repeat' split) <;> omega),rfl⟩)
theorem conv_new (xs : List Int) (n : Nat) (hn : xs.length = n) (W : World) : (convert 72 9 (.slice (some ⟨W.heap.size,0,none⟩) n n)).run Tryz.prog (W.alloc (.cells (xs.map (Value.int .u8)).toArray 5)) = .ok (.string (strOfNums xs)) (W.alloc (.cells (xs.map (Value.int .u8)).toArray 5)):=by
  refine run_convert_bytes_arg _ 72 5 Tryz.underlying72 Tryz.underlying5 W.heap.size 0 n n xs hn (fun i hi=>?_) 9 Tryz.underlying9
  rw [Nat.zero_add]
  exact (new_cell W (xs.map (Value.int .u8)) 5 i _ (by simp [List.getElem?_eq_getElem (show i < xs.length by omega),List.getD])).1
set_option maxHeartbeats 1000000 in
theorem renc1 (r : Int) (w : World) (he : encB r = true) (h0 : 0 ≤ r) (h : r < 128) : Calls Tryz.prog 108 #[.int .i64 r] w fun e w'=>e = .returned (.tuple #[.string (strOfNums [r]),.int .i64 0]) ∧ Below w.heap.size w w':=by
  have hn : byN r = 1:=by unfold byN;simp [h]
  have hcv:=fun W=>conv_new [r] 1 rfl W
  simp only [List.map_cons,List.map_nil] at hcv
  go_enter Tryz.func108,Tryz.ntmps108
  go_wp2_with (first | (go_at_call 68;refine (good_any _ _).mono ?_;rintro e w' ⟨rfl,rfl⟩) | (go_at_call 69;refine (bytes_any _ _).mono ?_;rintro e w' ⟨rfl,rfl⟩))
  go_ret2
  exact ⟨rfl,(Below.refl _ _).alloc (Nat.le_refl _) _⟩
set_option maxHeartbeats 1000000 in
theorem renc2 (r : Int) (w : World) (he : encB r = true) (h0 : 128 ≤ r) (h : r < 2048) : Calls Tryz.prog 108 #[.int .i64 r] w fun e w'=>e = .returned (.tuple #[.string (strOfNums [192 + r / 64,128 + r % 64]),.int .i64 0]) ∧ Below w.heap.size w w':=by
  have hn : byN r = 2:=by unfold byN;rw [if_neg (by omega),if_pos h]
  have hmk : ∀ w,(Instr.makeSlice 72 (.int .i64 2) (.int .i64 2)).run Tryz.prog w = .ok (.slice (some ⟨w.heap.size,0,none⟩) 2 2) (w.alloc (.cells #[.int .u8 0,.int .u8 0] 5)):=fun _=>by kernel_rfl
  have hcv:=fun a b W=>conv_new [a,b] 2 rfl W
  simp only [List.map_cons,List.map_nil] at hcv
  go_enter Tryz.func108,Tryz.ntmps108
  go_wp2_with (first | (go_at_call 68;refine (good_any _ _).mono ?_;rintro e w' ⟨rfl,rfl⟩) | (go_at_call 69;refine (bytes_any _ _).mono ?_;rintro e w' ⟨rfl,rfl⟩))
  refine wp_loop_rounds 2 ?_
  rw [rounds_succ]
  go_wp2
  rw [rounds_succ]
  go_wp2
  go_ret2
  exact ⟨rfl,(Below.refl _ _).alloc (Nat.le_refl _) _⟩
set_option maxHeartbeats 1000000 in
theorem renc3 (r : Int) (w : World) (he : encB r = true) (h0 : 2048 ≤ r) (h : r < 65536) : Calls Tryz.prog 108 #[.int .i64 r] w fun e w'=>e = .returned (.tuple #[.string (strOfNums [224 + r / 64 / 64,128 + r / 64 % 64,128 + r % 64]),.int .i64 0]) ∧ Below w.heap.size w w':=by
  have hn : byN r = 3:=by unfold byN;rw [if_neg (by omega),if_neg (by omega),if_pos h]
  have hmk : ∀ w,(Instr.makeSlice 72 (.int .i64 3) (.int .i64 3)).run Tryz.prog w = .ok (.slice (some ⟨w.heap.size,0,none⟩) 3 3) (w.alloc (.cells #[.int .u8 0,.int .u8 0,.int .u8 0] 5)):=fun _=>by kernel_rfl
  have hcv:=fun a b c W=>conv_new [a,b,c] 3 rfl W
  simp only [List.map_cons,List.map_nil] at hcv
  go_enter Tryz.func108,Tryz.ntmps108
  go_wp2_with (first | (go_at_call 68;refine (good_any _ _).mono ?_;rintro e w' ⟨rfl,rfl⟩) | (go_at_call 69;refine (bytes_any _ _).mono ?_;rintro e w' ⟨rfl,rfl⟩))
  refine wp_loop_rounds 3 ?_
  rw [rounds_succ]
  go_wp2
  rw [rounds_succ]
  go_wp2
  rw [rounds_succ]
  go_wp2
  go_ret2
  exact ⟨rfl,(Below.refl _ _).alloc (Nat.le_refl _) _⟩
set_option maxHeartbeats 1000000 in
theorem renc4 (r : Int) (w : World) (he : encB r = true) (h0 : 65536 ≤ r) (h : r ≤ 1114111) : Calls Tryz.prog 108 #[.int .i64 r] w fun e w'=>e = .returned (.tuple #[.string (strOfNums [240 + r / 64 / 64 / 64,128 + r / 64 / 64 % 64,128 + r / 64 % 64,128 + r % 64]),.int .i64 0]) ∧ Below w.heap.size w w':=by
  have hn : byN r = 4:=by unfold byN;rw [if_neg (by omega),if_neg (by omega),if_neg (by omega)]
  have hmk : ∀ w,(Instr.makeSlice 72 (.int .i64 4) (.int .i64 4)).run Tryz.prog w = .ok (.slice (some ⟨w.heap.size,0,none⟩) 4 4) (w.alloc (.cells #[.int .u8 0,.int .u8 0,.int .u8 0,.int .u8 0] 5)):=fun _=>by kernel_rfl
  have hcv:=fun a b c d W=>conv_new [a,b,c,d] 4 rfl W
  simp only [List.map_cons,List.map_nil] at hcv
  go_enter Tryz.func108,Tryz.ntmps108
  go_wp2_with (first | (go_at_call 68;refine (good_any _ _).mono ?_;rintro e w' ⟨rfl,rfl⟩) | (go_at_call 69;refine (bytes_any _ _).mono ?_;rintro e w' ⟨rfl,rfl⟩))
  refine wp_loop_rounds 4 ?_
  rw [rounds_succ]
  go_wp2
  rw [rounds_succ]
  go_wp2
  rw [rounds_succ]
  go_wp2
  rw [rounds_succ]
  go_wp2
  go_ret2
  exact ⟨rfl,(Below.refl _ _).alloc (Nat.le_refl _) _⟩
end Go.Proofs.YtlgkfhipobdcfaaGreatDoor
