/- Two chunks, one behind the other: the trees of both (no program in it). -/
import Derived.Test.YtlgkfhipobdcfaaGreatDoorCg39
import Derived.Test.YtlgkfhipobdcfaaGreatDoorCg05
import Derived.Test.YtlgkfhipobdcfaaGreatDoorCg15
import Derived.Test.YtlgkfhipobdcfaaGreatDoorCg38
namespace Go.Proofs.YtlgkfhipobdcfaaGreatDoor

/-- More steps change nothing once they were enough. -/
def Le (x y : PR) : Prop := x = .out ∨ x = y
theorem Le.rfl' (x : PR) : Le x x := .inr rfl
theorem Le.bind {x y : PR} {k k' : F → List Tok → PR} (h : Le x y) (hk : ∀ f l, Le (k f l) (k' f l)) : Le (x.bind k) (y.bind k') := by
  rcases h with h | h
  · rw [h]; exact .inl rfl
  · subst h
    cases x with
    | ok f l => exact hk f l
    | bad p => exact .inr rfl
    | out => exact .inl rfl
theorem Le.need {c : Nat} {l : List Tok} {k k' : List Tok → PR} (h : ∀ l, Le (k l) (k' l)) : Le (need c l k) (need c l k') := by
  unfold Go.Proofs.YtlgkfhipobdcfaaGreatDoor.need; split
  · exact h _
  · exact .inr rfl
theorem Le.nam {q : Int} {l : List Tok} {k k' : F → List Tok → PR} (h : ∀ f l, Le (k f l) (k' f l)) : Le (nam q l k) (nam q l k') := by
  unfold Go.Proofs.YtlgkfhipobdcfaaGreatDoor.nam; split
  · exact h _ _
  · exact .inr rfl
theorem Le.tgt {f : F} {x y : PR} (h : Le x y) : Le (tgt f x) (tgt f y) := by
  unfold Go.Proofs.YtlgkfhipobdcfaaGreatDoor.tgt; split
  · exact h
  · exact .inr rfl
theorem Le.cnd {c : Prop} {i : Decidable c} {a b a' b' : PR} (h1 : Le a a') (h2 : Le b b') : Le (@ite _ c i a b) (@ite _ c i a' b') := by
  split
  · exact h1
  · exact h2
section
variable {rec rec' : J → List Tok → PR} (ih : ∀ j l, Le (rec j l) (rec' j l))
include ih
theorem le_body {l : List Tok} {k k' : F → List Tok → PR} (h : ∀ f l, Le (k f l) (k' f l)) : Le (bodyP rec l k) (bodyP rec' l k') :=
  .need fun l => .bind (ih _ l) fun f _ => .need fun l => h f l
theorem le_step (j : J) (l : List Tok) : Le (stp' rec j l) (stp' rec' j l) := by
  cases j with
  | blk c => exact .bind (ih _ _) fun _ _ => .inr rfl
  | bk c a => exact .cnd (ih _ _) (.cnd (.bind (.cnd (.inr rfl) (.cnd (.inr rfl) (.bind (ih _ _) fun _ _ => .inr rfl))) fun _ _ => .inr rfl) (.cnd (.bind (.nam fun _ _ => .need fun l => .bind (.cnd (.inr rfl) (.nam fun _ _ => ih _ _)) fun _ _ => .need fun _ => .bind (ih _ _) fun _ _ => .need fun _ => .inr rfl) fun _ _ => ih _ _) (.cnd (.inr rfl) (.bind (ih _ _) fun _ _ => ih _ _))))
  | stat => exact .cnd (le_body ih fun _ _ => .inr rfl) (.cnd (.bind (ih _ _) fun _ _ => le_body ih fun _ _ => .inr rfl) (.cnd (.bind (ih _ _) fun _ _ => .inr rfl) (.cnd (.nam fun _ _ => .cnd (.bind (ih _ _) fun _ _ => .need fun _ => .bind (ih _ _) fun _ _ => .cnd (.bind (ih _ _) fun _ _ => le_body ih fun _ _ => .inr rfl) (le_body ih fun _ _ => .inr rfl)) (.bind (ih _ _) fun _ _ => .need fun _ => .bind (ih _ _) fun _ _ => le_body ih fun _ _ => .inr rfl)) (.cnd (.nam fun _ _ => .bind (ih _ _) fun _ _ => .cnd (.bind (ih _ _) fun _ _ => .inr rfl) (.inr rfl)) (.cnd (.inr rfl) (.bind (ih _ _) fun _ _ => .cnd (.tgt (.bind (ih _ _) fun _ _ => .need fun _ => .bind (ih _ _) fun _ _ => .inr rfl)) (.inr rfl)))))))
  | lst a => exact .bind (ih _ _) fun _ _ => .cnd (ih _ _) (.inr rfl)
  | nms a => exact .cnd (.nam fun _ _ => ih _ _) (.inr rfl)
  | ifs a => exact .bind (.bind (ih _ _) fun _ _ => .need fun _ => .bind (ih _ _) fun _ _ => .inr rfl) fun _ _ => .cnd (ih _ _) (.cnd (.bind (ih _ _) fun _ _ => .need fun _ => .inr rfl) (.inr rfl))
  | asg a => exact .cnd (.bind (ih _ _) fun _ _ => .tgt (ih _ _)) (.inr rfl)
  | ex a => exact .bind (ih _ _) fun _ _ => ih _ _
  | exl a f => exact .cnd (.bind (ih _ _) fun _ _ => ih _ _) (.inr rfl)
  | opd => exact .cnd (ih _ _) (.cnd (.bind (ih _ _) fun _ _ => .inr rfl) (.cnd (.bind (ih _ _) fun _ _ => .inr rfl) (.inr rfl)))
  | suf => exact .bind (.cnd (.bind (ih _ _) fun _ _ => .inr rfl) (.inr rfl)) fun _ _ => ih _ _
  | sufl f => exact .cnd (.bind (ih _ _) fun _ _ => .need fun _ => ih _ _) (.cnd (.nam fun _ _ => ih _ _) (.cnd (.bind (.cnd (.inr rfl) (.bind (ih _ _) fun _ _ => .inr rfl)) fun _ _ => ih _ _) (.inr rfl)))
  | tab a => exact .cnd (.inr rfl) (.bind (ih _ _) fun _ _ => .cnd (ih _ _) (.inr rfl))
  | fld => exact .cnd (.bind (ih _ _) fun _ _ => .need fun _ => .need fun _ => .bind (ih _ _) fun _ _ => .inr rfl) (.cnd (.bind (ih _ _) fun _ _ => .inr rfl) (.bind (ih _ _) fun _ _ => .inr rfl))
end
theorem pr_le1 : ∀ (n : Nat) (j : J) (l : List Tok), Le (pr n j l) (pr (n + 1) j l)
  | 0, _, _ => .inl rfl
  | n + 1, j, l => le_step (pr_le1 n) j l
theorem pr_le (n : Nat) (j : J) (l : List Tok) : ∀ d, Le (pr n j l) (pr (n + d) j l)
  | 0 => .inr rfl
  | d + 1 => by
    rcases pr_le n j l d with h | h
    · exact .inl h
    · rcases pr_le1 (n + d) j l with h2 | h2
      · exact .inl (h.trans h2)
      · exact .inr (h.trans h2)
theorem pr_same {n m : Nat} {j : J} {l : List Tok} (h1 : pr n j l ≠ .out) (h2 : pr m j l ≠ .out) : pr n j l = pr m j l := by
  have a : pr n j l = pr (n + m) j l := (pr_le n j l m).resolve_left h1
  have b : pr m j l = pr (m + n) j l := (pr_le m j l n).resolve_left h2
  rw [a, b, Nat.add_comm]

/-- What is there already stands ahead of what is told. -/
theorem bk_acc : ∀ (n : Nat) (c : Bool) (a b : F) (l : List Tok), pr n (.bk c (a.app b)) l = (pr n (.bk c b) l).bind fun f m => .ok (a.app f) m
  | 0, _, _, _, _ => rfl
  | n + 1, c, a, b, l => by
    have ih := bk_acc n c
    have bb : ∀ (x : PR) (k : F → List Tok → PR) (k' : F → List Tok → PR), (x.bind k).bind k' = x.bind fun f m => (k f m).bind k' := fun x k k' => by cases x <;> rfl
    have bc : ∀ {x : PR} {k k' : F → List Tok → PR}, (∀ f m, k f m = k' f m) → x.bind k = x.bind k' := fun {x k k'} h => by
      cases x with
      | ok f m => exact h f m
      | bad p => rfl
      | out => rfl
    simp only [pr_succ, stp']
    split
    · exact ih _ _ _
    · split
      · rw [bb]; exact bc fun f m => by rw [F.app_assoc]; rfl
      · split
        · rw [bb]; exact bc fun f m => by rw [F.app_assoc]; exact ih _ _ _
        · split
          · rfl
          · rw [bb]; exact bc fun f m => by rw [F.app_assoc]; exact ih _ _ _

/-- The last tree's kind. -/
def F.lk : F → Int
  | .nil => 0
  | .cons k _ _ _ _ .nil => k
  | .cons _ _ _ _ _ r => r.lk
theorem F.lk_app : ∀ (a : F) (k : Int) (t : List UInt8) (n p : Int) (ks : F), (a.app (one k t n p ks)).lk = k
  | .nil, _, _, _, _, _ => rfl
  | .cons _ _ _ _ _ .nil, _, _, _, _, _ => rfl
  | .cons _ _ _ _ _ (.cons k2 t2 n2 p2 ks2 r), k, t, n, p, ks => by
    have := F.lk_app (.cons k2 t2 n2 p2 ks2 r) k t n p ks
    simpa [F.app, F.lk] using this

section
variable {e : Tok} {v : List Tok} (he : cls e = 56) (hv : hc v = 1 ∨ hc v = 4 ∨ hc v = 18) (hp : ha v = e.p)
include he hv hp
/-- A chunk up to the end, no Return last: behind it what goes on is told. -/
theorem bk_top : ∀ (n : Nat) (c : Bool) (a : F) (u : List Tok) (f : F), pr n (.bk c a) (u ++ [e]) = .ok f [e] → f.lk ≠ 30 → ∃ k, pr n (.bk c a) (u ++ v) = pr k (.bk c f) v
  | 0, _, _, _, _, h, _ => by cases h
  | n + 1, c, a, [], f, h, _ => by
    rw [pr_succ] at h
    have c56 : closes [e] = true := by unfold closes; rw [hc_e he]; rfl
    simp only [stp', List.nil_append] at h
    rw [if_neg (show ¬ hc [e] = 1 by rw [hc_e he]; decide), if_neg (show ¬ hc [e] = 2 by rw [hc_e he]; decide), if_neg (show ¬ (c = true ∧ hc [e] = 3) by rw [hc_e he]; exact fun x => absurd x.2 (by decide)), if_pos c56] at h
    injection h with h1 _
    exact ⟨n + 1, by rw [h1]; rfl⟩
  | n + 1, c, a, t :: u, f, h, hk => by
    have XA := x_all he hv hp n
    rw [pr_succ] at h ⊢
    simp only [stp'] at h ⊢
    have z : ∀ z, hc (t :: u ++ z) = cls t := fun _ => rfl
    have y : ∀ z, (t :: u ++ z).tail = u ++ z := fun _ => rfl
    have w : ∀ z, closes (t :: u ++ z) = closes [t] := fun _ => rfl
    rw [z, w] at h ⊢
    split at h
    · next h1 => rw [if_pos h1]; exact bk_top n c a u f h hk
    · next h1 =>
      rw [if_neg h1]
      split at h
      · next h2 =>
        exfalso
        have hl : ∀ (l : List Tok) (f m), lastP (pr n) l = .ok f m → ∃ ks, f = one 30 [] 0 (ha l) ks := by
          intro l f m h
          unfold lastP at h
          split at h
          · injection h with h _; exact ⟨_, h.symm⟩
          · split at h
            · injection h with h _; exact ⟨_, h.symm⟩
            · cases hx : pr n (.lst .nil) l.tail with
              | ok f' m' => rw [hx] at h; injection h with h _; exact ⟨_, h.symm⟩
              | bad p => rw [hx] at h; cases h
              | out => rw [hx] at h; cases h
        cases hx : lastP (pr n) (t :: u ++ [e]) with
        | ok f' m' =>
          rw [hx] at h
          obtain ⟨ks, rfl⟩ := hl _ _ _ hx
          injection h with h _
          rw [← h, F.lk_app] at hk
          exact hk rfl
        | bad p => rw [hx] at h; cases h
        | out => rw [hx] at h; cases h
      · next h2 =>
        rw [if_neg h2]
        split at h
        · next h3 =>
          rw [if_pos h3]
          cases hx : funP (pr n) (t :: u ++ [e]) with
          | ok f' m' =>
            rw [hx] at h
            obtain ⟨u', e1, e2⟩ := x_fun he XA t u f' m' hx
            rw [e1] at h
            rw [show funP (pr n) (t :: u ++ v) = _ from e2 (.inl trivial)]
            exact bk_top n c (a.app f') u' f h hk
          | bad p => rw [hx] at h; cases h
          | out => rw [hx] at h; cases h
        · next h3 =>
          rw [if_neg h3]
          split at h
          · injection h with _ h
            have := congrArg List.length h
            simp at this
          · next h4 =>
            rw [if_neg h4]
            cases hx : pr n .stat (t :: u ++ [e]) with
            | ok f' m' =>
              rw [hx] at h
              obtain ⟨u', e1, e2⟩ := XA .stat (t :: u) f' m' hx
              rw [e1] at h
              rw [e2 (.inl trivial)]
              exact bk_top n c (a.app f') u' f h hk
            | bad p => rw [hx] at h; cases h
            | out => rw [hx] at h; cases h
end
end Go.Proofs.YtlgkfhipobdcfaaGreatDoor

/- What is left of the tokens ends with the end, too. -/
namespace Go.Proofs.YtlgkfhipobdcfaaGreatDoor

/-- The tokens end with the end, and no other is one. -/
def E1 (l : List Tok) : Prop := ∃ pre e, l = pre ++ [e] ∧ e.k = 6 ∧ ∀ t ∈ pre, cls t ≠ 56
/-- So do those that are left. -/
def EM : PR → Prop
  | .ok _ l => E1 l
  | _ => True
theorem EM.bind {x : PR} {k : F → List Tok → PR} (h : EM x) (hk : ∀ f l, E1 l → EM (k f l)) : EM (x.bind k) := by
  cases x with
  | ok f l => exact hk f l h
  | bad p => exact trivial
  | out => exact trivial
theorem E1.tl {l : List Tok} (h : E1 l) (hn : hc l ≠ 56) : E1 l.tail := by
  obtain ⟨p, e, rfl, he, hp⟩ := h
  cases p with
  | nil => exact absurd (cls_of_kind e 6 he (by decide)) hn
  | cons t p => exact ⟨p, e, rfl, he, fun x hx => hp x (List.mem_cons_of_mem _ hx)⟩
theorem EM.need {c : Nat} {l : List Tok} {k : List Tok → PR} (hl : E1 l) (hc' : c ≠ 56) (h : E1 l.tail → EM (k l.tail)) : EM (need c l k) := by
  unfold Go.Proofs.YtlgkfhipobdcfaaGreatDoor.need
  split
  · next e => exact h (hl.tl (by rw [e]; exact hc'))
  · exact trivial
theorem EM.nam {q : Int} {l : List Tok} {k : F → List Tok → PR} (hl : E1 l) (h : ∀ f, E1 l.tail → EM (k f l.tail)) : EM (nam q l k) := by
  unfold Go.Proofs.YtlgkfhipobdcfaaGreatDoor.nam
  split
  · next e => exact h _ (hl.tl (by rw [e]; decide))
  · exact trivial
section
variable {rec : J → List Tok → PR} (ih : ∀ j l, E1 l → EM (rec j l))
include ih
theorem em_body {l : List Tok} {k : F → List Tok → PR} (hl : E1 l) (h : ∀ f l1, E1 l1 → EM (k f l1)) : EM (bodyP rec l k) :=
  .need hl (by decide) fun h1 => .bind (ih _ _ h1) fun f _ h2 => .need h2 (by decide) fun h3 => h f _ h3
theorem em_last {l : List Tok} (h1 : E1 l.tail) : EM (lastP rec l) := by
  unfold lastP
  split
  · next e => exact h1.tl (by rw [e]; decide)
  · split
    · exact h1
    · refine .bind (ih _ _ h1) fun f m h2 => ?_
      show E1 _
      split
      · next e => exact h2.tl (by rw [e]; decide)
      · exact h2
theorem em_fun {l : List Tok} (h1 : E1 l.tail) : EM (funP rec l) := by
  unfold funP parP
  refine .nam h1 fun m h2 => .need h2 (by decide) fun h3 => .bind ?_ fun ps l1 h4 => .need h4 (by decide) fun h5 => .bind (ih _ _ h5) fun b l2 h6 => .need h6 (by decide) fun h7 => h7
  split
  · exact h3
  · exact .nam h3 fun f h4 => ih _ _ h4
theorem em_num {at' : Int} {a : F} {l : List Tok} (hl : E1 l) : EM (numP rec at' a l) := by
  unfold numP
  refine .bind (ih _ _ hl) fun e1 l1 h1 => .need h1 (by decide) fun h2 => .bind (ih _ _ h2) fun e2 l2 h3 => ?_
  split
  · next e => exact .bind (ih _ _ (h3.tl (by rw [e]; decide))) fun e3 l3 h4 => em_body ih h4 fun _ _ h5 => h5
  · exact em_body ih h3 fun _ _ h5 => h5
theorem em_for {l : List Tok} (hl : E1 l.tail) : EM (forP rec l) := by
  unfold forP
  refine .nam hl fun m h1 => ?_
  split
  · next e => exact em_num ih (h1.tl (by rw [e]; decide))
  · exact .bind (ih _ _ h1) fun ns l1 h2 => .need h2 (by decide) fun h3 => .bind (ih _ _ h3) fun f l2 h4 => em_body ih h4 fun _ _ h5 => h5
theorem em_loc {l : List Tok} (hl : E1 l.tail) : EM (locP rec l) := by
  unfold locP
  refine .nam hl fun m h1 => .bind (ih _ _ h1) fun ns l1 h2 => ?_
  split
  · next e => exact .bind (ih _ _ (h2.tl (by rw [e]; decide))) fun _ _ h3 => h3
  · exact h2
theorem em_asg {l : List Tok} (hl : E1 l) : EM (asgP rec l) := by
  unfold asgP tgt
  refine .bind (ih _ _ hl) fun f l1 h1 => ?_
  split
  · split
    · exact .bind (ih _ _ h1) fun ts l2 h2 => .need h2 (by decide) fun h3 => .bind (ih _ _ h3) fun _ _ h4 => h4
    · exact trivial
  · split
    · exact h1
    · exact trivial
theorem em_arg {a : F} {l : List Tok} (hl : E1 l) : EM (argP rec a l) := by
  unfold argP
  split
  · next e => exact hl.tl (by rw [e]; decide)
  · exact .bind (ih _ _ hl) fun f l1 h1 => .need h1 (by decide) fun h2 => h2
theorem em_stem {l : List Tok} (hl : E1 l) : EM (stemP rec l) := by
  unfold stemP
  split
  · next e => exact .bind (ih _ _ (hl.tl (by rw [e]; decide))) fun f l1 h1 => .need h1 (by decide) fun h2 => h2
  · exact .nam hl fun f h => h
theorem em_br {a : F} {l : List Tok} (hl : E1 l) : EM (brP rec a l) := by
  unfold brP
  exact .bind (ih _ _ hl) fun e l1 h1 => .need h1 (by decide) fun h2 => .bind (ih _ _ h2) fun b l2 h3 => h3
theorem em_step (j : J) (l : List Tok) (hl : E1 l) : EM (stp' rec j l) := by
  have tl : ∀ c, hc l = c → c ≠ 56 → E1 l.tail := fun c h h2 => hl.tl (by rw [h]; exact h2)
  cases j with
  | blk c => exact .bind (ih _ _ hl) fun _ _ h => h
  | bk c a =>
    simp only [stp']
    split
    · next h => exact ih _ _ (tl _ h (by decide))
    · split
      · next h => exact .bind (em_last ih (tl _ h (by decide))) fun _ _ h => h
      · split
        · next h => exact .bind (em_fun ih (tl _ h.2 (by decide))) fun _ _ h => ih _ _ h
        · split
          · exact hl
          · exact .bind (ih _ _ hl) fun _ _ h => ih _ _ h
  | stat =>
    simp only [stp']
    split
    · exact em_body ih hl fun _ _ h => h
    · split
      · next h => exact .bind (ih _ _ (tl _ h (by decide))) fun _ _ h => em_body ih h fun _ _ h => h
      · split
        · next h => exact .bind (ih _ _ (tl _ h (by decide))) fun _ _ h => h
        · split
          · next h => exact em_for ih (tl _ h (by decide))
          · split
            · next h => exact em_loc ih (tl _ h (by decide))
            · split
              · next h => exact tl _ h (by decide)
              · exact em_asg ih hl
  | lst a =>
    simp only [stp']
    refine .bind (ih _ _ hl) fun f l1 h1 => ?_
    split
    · next e => exact ih _ _ (h1.tl (by rw [e]; decide))
    · exact h1
  | nms a =>
    simp only [stp']
    split
    · next h => exact .nam (tl _ h (by decide)) fun f h => ih _ _ h
    · exact hl
  | ifs a =>
    simp only [stp']
    refine .bind (em_br ih hl) fun f l1 h1 => ?_
    split
    · next e => exact ih _ _ (h1.tl (by rw [e]; decide))
    · split
      · next e => exact .bind (ih _ _ (h1.tl (by rw [e]; decide))) fun _ _ h => .need h (by decide) fun h => h
      · exact .need h1 (by decide) fun h => h
  | asg a =>
    simp only [stp', tgt]
    split
    · next h =>
      refine .bind (ih _ _ (tl _ h (by decide))) fun f l1 h1 => ?_
      split
      · exact ih _ _ h1
      · exact trivial
    · exact hl
  | ex a => exact .bind (ih _ _ hl) fun _ _ h => ih _ _ h
  | exl a f =>
    simp only [stp']
    split
    · next h => exact .bind (ih _ _ (hl.tl (by intro e; rw [e] at h; exact absurd h (by simp [bnd])))) fun _ _ h => ih _ _ h
    · exact hl
  | opd =>
    simp only [stp', tabP]
    split
    · exact ih _ _ hl
    · split
      · next h => exact .bind (ih _ _ (tl _ h (by decide))) fun _ _ h => .need h (by decide) fun h => h
      · split
        · next h => exact .bind (ih _ _ (by rcases h with h | h | h <;> exact tl _ h (by decide))) fun _ _ h => h
        · split
          · next h => exact tl _ h (by decide)
          · split
            · next h => exact tl _ h (by decide)
            · split
              · next h => exact tl _ h (by decide)
              · split
                · next h => exact tl _ h (by decide)
                · split
                  · next h => exact tl _ h (by decide)
                  · exact trivial
  | suf => exact .bind (em_stem ih hl) fun _ _ h => ih _ _ h
  | sufl f =>
    simp only [stp']
    split
    · next h => exact .bind (ih _ _ (tl _ h (by decide))) fun _ _ h => .need h (by decide) fun h => ih _ _ h
    · split
      · next h => exact .nam (tl _ h (by decide)) fun _ h => ih _ _ h
      · split
        · next h => exact .bind (em_arg ih (tl _ h (by decide))) fun _ _ h => ih _ _ h
        · exact hl
  | tab a =>
    simp only [stp']
    split
    · exact hl
    · refine .bind (ih _ _ hl) fun f l1 h1 => ?_
      split
      · next e => exact ih _ _ (h1.tl (by rcases e with e | e <;> rw [e] <;> decide))
      · exact h1
  | fld =>
    simp only [stp']
    split
    · next h => exact .bind (ih _ _ (tl _ h (by decide))) fun _ _ h => .need h (by decide) fun h => .need h (by decide) fun h => .bind (ih _ _ h) fun _ _ h => h
    · split
      · next h => exact .bind (ih _ _ ((tl _ h.1 (by decide)).tl (by rw [h.2]; decide))) fun _ _ h => h
      · exact .bind (ih _ _ hl) fun _ _ h => h
end
theorem em_all : ∀ (n : Nat) (j : J) (l : List Tok), E1 l → EM (pr n j l)
  | 0, _, _, _ => trivial
  | n + 1, j, l, h => em_step (em_all n) j l h
theorem pr_e1 {n : Nat} {j : J} {l l' : List Tok} {f : F} (h : pr n j l = .ok f l') (hl : E1 l) : E1 l' := by
  have := em_all n j l hl
  rw [h] at this
  exact this
theorem E1.last {l : List Tok} (h : E1 l) (h2 : hc l = 56) : ∃ e, l = [e] ∧ e.k = 6 := by
  obtain ⟨p, e, rfl, he, hp⟩ := h
  cases p with
  | nil => exact ⟨e, rfl, he⟩
  | cons t p => exact absurd h2 (hp t (by simp))
end Go.Proofs.YtlgkfhipobdcfaaGreatDoor

/- The tokens of two texts with a newline, ';' and a newline between; the tree of both (no program in it). -/
namespace Go.Proofs.YtlgkfhipobdcfaaGreatDoor
open Go.RowKit

theorem scT_eq (l : List UInt8) (h : l.length ≤ 20000) : scT l = match scn l 0 [] with | .ok ts => (ts, 0, 0) | .bad c p => ([], c, (p : Int)) := by
  unfold scT; rw [if_neg (by omega)]
  all_goals (cases scn l 0 [] <;> rfl)
theorem stp_semi (l : List UInt8) : stp (59 :: 10 :: l) = .tok 5 [59] 0 1 := by
  have hr := (asc 59 (10 :: l) (by decide)).1
  have hp : Lib.hasPrefix (59 :: 10 :: l) [45, 45] = false := by simp [Lib.hasPrefix, List.isPrefixOf]
  have hs : sgz (59 :: 10 :: l) = 1 := by
    show (if sgn2.contains [59, 10] then 2 else if sgn1.contains 59 then 1 else 0) = 1
    decide
  have := stp_sign (59 :: 10 :: l) _ hr (by decide) hp (by decide) (by decide) (by decide)
  rw [hs] at this
  simpa using this
/-- A text, newline, ';', newline, a text. -/
theorem scn_semi (a b : List UInt8) (ts : List Tok) (h : scn a 0 [] = .ok ts) :
    ∃ body, ts = body ++ [⟨6, [], 0, a.length⟩] ∧ scn (a ++ 10 :: 59 :: 10 :: b) 0 [] = match scn b 0 [] with | .ok us => .ok (body ++ ⟨5, [59], 0, a.length + 1⟩ :: us.map (sh (a.length + 3))) | .bad c q => .bad c (q + (a.length + 3)) := by
  obtain ⟨body, e1, e2⟩ := scn_app 10 (59 :: 10 :: b) (.inr (.inl rfl)) a.length a 0 [] ts (Nat.le_refl _) (NC.nl a) h
  simp only [List.nil_append, Nat.zero_add] at e1 e2
  refine ⟨body, e1, ?_⟩
  rw [e2, gap_blank 10 _ _ _ (by decide), scn_tok (by simp) (stp_semi b)]
  show scn (10 :: b) _ _ = _
  rw [gap_blank 10 _ _ _ (by decide)]
  have := scn_shift (a.length + 3) (body ++ [⟨5, [59], 0, a.length + 1⟩]) b.length b 0 [] (Nat.le_refl _)
  simp only [List.map_nil, List.append_nil, Nat.zero_add] at this
  rw [show a.length + 1 + 1 + 1 = a.length + 3 by omega, this]
  cases scn b 0 [] with
  | ok us => simp
  | bad c q => rfl
theorem scT_semi (a b : List UInt8) (ha : a.length ≤ 9000) (hb : b.length ≤ 9000) (h0 : (scT a).2.1 = 0) (h1 : (scT b).2.1 = 0) :
    ∃ body, (scT a).1 = body ++ [⟨6, [], 0, a.length⟩] ∧ scT (a ++ 10 :: 59 :: 10 :: b) = (body ++ ⟨5, [59], 0, a.length + 1⟩ :: (scT b).1.map (sh (a.length + 3)), 0, 0) := by
  have ea := scT_eq a (by omega)
  have eb := scT_eq b (by omega)
  have ez := scT_eq (a ++ 10 :: 59 :: 10 :: b) (by simp only [List.length_append, List.length_cons]; omega)
  cases hs : scn a 0 [] with
  | bad c p =>
    rw [hs] at ea
    rw [ea] at h0
    exact absurd h0 (scn_badc a.length a 0 [] (Nat.le_refl _) c p hs).1
  | ok ts =>
    rw [hs] at ea
    obtain ⟨body, e1, e2⟩ := scn_semi a b ts hs
    refine ⟨body, by rw [ea]; exact e1, ?_⟩
    cases ht : scn b 0 [] with
    | bad c p =>
      rw [ht] at eb
      rw [eb] at h1
      exact absurd h1 (scn_badc b.length b 0 [] (Nat.le_refl _) c p ht).1
    | ok us =>
      rw [ht] at e2 eb
      simp only at e2 eb
      rw [ez, e2, eb]

/-- What Parse tells of a text without a fault. -/
theorem prT_chk (l : List UInt8) (f : F) (h : prT l = (f, 0, 0)) : (scT l).2.1 = 0 ∧ ∃ m, chk (scT l).1 = .ok f m := by
  unfold prT at h
  split at h
  · next hc =>
    injection h with h1 h2
    injection h2 with h2 h3
    exact absurd h2 hc
  · next hc =>
    refine ⟨Classical.byContradiction hc, ?_⟩
    cases hk : chk (scT l).1 with
    | ok g m =>
      rw [hk] at h
      injection h with h1 h2
      exact ⟨m, by rw [h1]⟩
    | bad p =>
      rw [hk] at h
      injection h with h1 h2
      injection h2 with h2 h3
      exact absurd h2 (by decide)
    | out => exact absurd hk (chk_some _)
/-- A chunk's trees, with any number of steps that is enough. -/
theorem chk_bk (l : List Tok) (f : F) (m : List Tok) (h : chk l = .ok f m) : ∃ ks, f = one 20 [] 0 (ha l) ks ∧ hc m = 56 ∧ pr (8 * l.length + 3) (.bk true .nil) l = .ok ks m := by
  unfold chk at h
  cases hx : pr (8 * l.length + 4) (.blk true) l with
  | ok f' m' =>
    rw [hx] at h
    rw [show 8 * l.length + 4 = (8 * l.length + 3) + 1 from rfl, pr_succ] at hx
    simp only [stp'] at hx
    cases hy : pr (8 * l.length + 3) (.bk true .nil) l with
    | ok ks m2 =>
      rw [hy] at hx
      simp only [PR.bind] at hx h
      injection hx with h1 h2
      split at h
      · next h56 =>
        injection h with h3 h4
        subst h1 h2 h3 h4
        exact ⟨ks, rfl, h56, rfl⟩
      · cases h
    | bad p => rw [hy] at hx; cases hx
    | out => rw [hy] at hx; cases hx
  | bad p => rw [hx] at h; cases h
  | out => rw [hx] at h; cases h
theorem bk_chk (l : List Tok) (n : Nat) (ks : F) (m : List Tok) (h : pr n (.bk true .nil) l = .ok ks m) (hm : hc m = 56) : chk l = .ok (one 20 [] 0 (ha l) ks) m := by
  have h1 : pr (8 * l.length + 3) (.bk true .nil) l ≠ .out := pr_enough _ _ _ (by simp only [rk]; omega)
  have h2 := pr_same h1 (m := n) (by rw [h]; exact fun x => by cases x)
  unfold chk
  rw [show 8 * l.length + 4 = (8 * l.length + 3) + 1 from rfl, pr_succ]
  simp only [stp']
  rw [h2, h]
  simp only [PR.bind]
  rw [if_pos hm]
theorem lz_sh (d : Nat) (l : List Tok) : lz (l.map (sh d)) = lz l := by
  unfold lz
  rw [List.map_map]
  rfl
theorem lz_app (l m : List Tok) : lz (l ++ m) = lz l ++ lz m := List.map_append
theorem F.sam_trans : ∀ f g h : F, f.sam g → g.sam h → f.sam h
  | .nil, .nil, .nil, _, _ => trivial
  | .cons _ _ _ _ ks r, .cons _ _ _ _ ks' r', .cons _ _ _ _ ks'' r'', h1, h2 => ⟨⟨h1.1.1.trans h2.1.1, h1.1.2.1.trans h2.1.2.1, h1.1.2.2.1.trans h2.1.2.2.1, F.sam_trans ks ks' ks'' h1.1.2.2.2 h2.1.2.2.2⟩, F.sam_trans r r' r'' h1.2 h2.2⟩
  | .nil, .cons _ _ _ _ _ _, _, h, _ => h.elim
  | .cons _ _ _ _ _ _, .nil, _, h, _ => h.elim
  | .nil, .nil, .cons _ _ _ _ _ _, _, h => h.elim
  | .cons _ _ _ _ _ _, .cons _ _ _ _ _ _, .nil, _, h => h.elim
theorem F.lk_z : ∀ f : F, f.z.lk = f.lk
  | .nil => rfl
  | .cons _ _ _ _ _ .nil => rfl
  | .cons _ _ _ _ _ (.cons k t n p ks r) => F.lk_z (.cons k t n p ks r)
theorem GT.e1 {l : List UInt8} : ∀ (r : List Tok) (a : Nat), GT l a r → E1 r
  | [], _, h => h.elim
  | [t], _, h => ⟨[], t, rfl, h.1, fun x hx => by cases hx⟩
  | t :: u :: r, a, h => by
    obtain ⟨p, e, h1, h2, h3⟩ := GT.e1 (u :: r) _ h.2
    refine ⟨t :: p, e, by rw [h1]; rfl, h2, fun x hx => ?_⟩
    rcases List.mem_cons.1 hx with rfl | hx
    · intro h6
      have := cls_kind x 56 h6 (by decide)
      exact h.1.kd (by rw [this]; rfl)
    · exact h3 x hx
/-- Two chunks, the first without a return at its end: the trees of both, but for the places. -/
theorem prT_join (a b : List UInt8) (ha' : a.length ≤ 9000) (hb : b.length ≤ 9000) {pa pb : Int} {A B : F} (hA : prT a = (one 20 [] 0 pa A, 0, 0)) (hB : prT b = (one 20 [] 0 pb B, 0, 0)) (hk : A.lk ≠ 30) :
    ∃ p C, prT (a ++ 10 :: 59 :: 10 :: b) = (one 20 [] 0 p C, 0, 0) ∧ C.sam (A.app B) := by
  obtain ⟨a0, am, a1⟩ := prT_chk _ _ hA
  obtain ⟨b0, bm, b1⟩ := prT_chk _ _ hB
  obtain ⟨body, t1, t2⟩ := scT_semi a b ha' hb a0 b0
  obtain ⟨A', e1, a2, a3⟩ := chk_bk _ _ _ a1
  obtain ⟨B', e2, b2, b3⟩ := chk_bk _ _ _ b1
  have eA : A' = A := by injection e1 with _ _ _ _ e _; exact e.symm
  have eB : B' = B := by injection e2 with _ _ _ _ e _; exact e.symm
  subst eA eB
  have gA := (scT_ok a a0).1.e1
  have gB := (scT_ok b b0).1.e1
  obtain ⟨ea, rfl, ka⟩ := (pr_e1 a3 gA).last a2
  obtain ⟨eb, rfl, kb⟩ := (pr_e1 b3 gB).last b2
  -- without places
  obtain ⟨E, hE⟩ : ∃ E : Tok, E = ⟨6, [], 0, 0⟩ := ⟨_, rfl⟩
  have hz := pr_z (8 * (scT a).1.length + 3) (.bk true .nil) (scT a).1
  rw [a3] at hz
  have hza : pr (8 * (scT a).1.length + 3) (.bk true .nil) (lz body ++ [E]) = .ok A'.z [⟨6, ea.t, ea.v, 0⟩] := by
    have : lz (scT a).1 = lz body ++ [E] := by rw [t1, lz_app, hE]; rfl
    rw [this] at hz
    have k2 : (PR.ok A' [ea]).z = .ok A'.z [⟨6, ea.t, ea.v, 0⟩] := by
      show PR.ok A'.z [⟨ea.k, ea.t, ea.v, 0⟩] = _
      rw [ka]
    rw [← k2]
    exact hz
  have hzb : pr (8 * (scT b).1.length + 3) (.bk true .nil) (lz (scT b).1) = .ok B'.z [⟨6, eb.t, eb.v, 0⟩] := by
    have h := pr_z (8 * (scT b).1.length + 3) (.bk true .nil) (scT b).1
    rw [b3] at h
    have k2 : (PR.ok B' [eb]).z = .ok B'.z [⟨6, eb.t, eb.v, 0⟩] := by
      show PR.ok B'.z [⟨eb.k, eb.t, eb.v, 0⟩] = _
      rw [kb]
    rw [← k2]
    exact h
  obtain ⟨v, hv⟩ : ∃ v : List Tok, v = ⟨5, [59], 0, 0⟩ :: lz (scT b).1 := ⟨_, rfl⟩
  have cE : cls E = 56 := by rw [hE]; rfl
  have cv : hc v = 1 := by rw [hv]; show cls ⟨5, [59], 0, 0⟩ = 1; decide
  have pE : ha v = E.p := by rw [hv, hE]; rfl
  -- the first up to its end
  obtain ⟨N, hN⟩ : ∃ N, N = 8 * (lz body ++ v).length + 8 * (scT a).1.length + 10 := ⟨_, rfl⟩
  have hza2 : pr N (.bk true .nil) (lz body ++ [E]) = .ok A'.z [⟨6, ea.t, ea.v, 0⟩] := by
    have h := pr_le (8 * (scT a).1.length + 3) (.bk true .nil) (lz body ++ [E]) (N - (8 * (scT a).1.length + 3))
    rw [hza] at h
    rcases h with h | h
    · cases h
    · rw [h]; congr 1; omega
  have hlast : (⟨6, ea.t, ea.v, 0⟩ : Tok) = E := by
    obtain ⟨u, h1, _⟩ := x_all cE (.inl cv) pE N (.bk true .nil) (lz body) _ _ hza2
    cases u with
    | nil => injection h1
    | cons t u => have := congrArg List.length h1; simp at this
  rw [hlast] at hza2
  obtain ⟨k, hk2⟩ := bk_top cE (.inl cv) pE N true .nil (lz body) A'.z hza2 (by rw [F.lk_z]; exact hk)
  have hno : pr N (.bk true .nil) (lz body ++ v) ≠ .out := pr_enough _ _ _ (by rw [hN]; simp only [rk]; omega)
  rw [hk2] at hno
  have hkk : pr k (.bk true A'.z) v = pr (8 * (scT b).1.length + 3 + 1 + k) (.bk true A'.z) v := by
    rcases pr_le k (.bk true A'.z) v (8 * (scT b).1.length + 3 + 1) with h | h
    · exact absurd h hno
    · rw [h, Nat.add_comm k]
  have hfin : pr N (.bk true .nil) (lz body ++ v) = .ok (A'.z.app B'.z) [⟨6, eb.t, eb.v, 0⟩] := by
    rw [hk2, hkk, show 8 * (scT b).1.length + 3 + 1 + k = (8 * (scT b).1.length + 3 + k) + 1 by omega, pr_succ]
    simp only [stp']
    rw [if_pos cv, hv]
    show pr _ (.bk true A'.z) (lz (scT b).1) = _
    have hacc := bk_acc (8 * (scT b).1.length + 3 + k) true A'.z .nil (lz (scT b).1)
    rw [F.app_nil] at hacc
    rw [hacc]
    have h := pr_le (8 * (scT b).1.length + 3) (.bk true .nil) (lz (scT b).1) k
    rw [hzb] at h
    rcases h with h | h
    · cases h
    · rw [← h]; rfl
  -- the joint tokens
  obtain ⟨T, hT⟩ : ∃ T, T = body ++ (⟨5, [59], 0, a.length + 1⟩ : Tok) :: (scT b).1.map (sh (a.length + 3)) := ⟨_, rfl⟩
  have hlz : lz T = lz body ++ v := by
    rw [hT, hv, lz_app]
    show lz body ++ tz _ :: lz ((scT b).1.map (sh (a.length + 3))) = _
    rw [lz_sh]
    rfl
  have hzT := pr_z N (.bk true .nil) T
  rw [show J.z (.bk true .nil) = .bk true .nil from rfl, hlz, hfin] at hzT
  cases hp : pr N (.bk true .nil) T with
  | bad p => rw [hp] at hzT; cases hzT
  | out => rw [hp] at hzT; cases hzT
  | ok C m =>
    rw [hp] at hzT
    injection hzT with h1 h2
    have hm : hc m = 56 := by rw [← hc_z, ← h2]; rfl
    refine ⟨ha T, C, ?_, F.sam_of_z _ _ (by rw [← h1, F.z_app])⟩
    unfold prT
    rw [t2]
    simp only [ne_eq, not_true_eq_false, if_false]
    rw [← hT, bk_chk T N C m hp hm]
    rfl
end Go.Proofs.YtlgkfhipobdcfaaGreatDoor

/- Rows of trees by their places; rows that are the same but for places. -/
namespace Go.Proofs.YtlgkfhipobdcfaaGreatDoor
open Go.RowKit

theorem Rw.nth {w : World} {P : Nat → Prop} : ∀ (r : F) (j i : Nat) {a : Option Addr} {k : Int} {t : List UInt8} {n p : Int} {ks : F}, Rw w P a i r → r.get? j = some (k, t, n, p, ks) → ∃ g a' c', a = some ⟨g, 0, none⟩ ∧ g < w.heap.size ∧ w.cell? ⟨g, (i + j) * 5, none⟩ = some (.int .i64 k) ∧ w.cell? ⟨g, (i + j) * 5 + 1, none⟩ = some (.string ⟨t.toArray⟩) ∧ w.cell? ⟨g, (i + j) * 5 + 2, none⟩ = some (.int .i64 n) ∧ w.cell? ⟨g, (i + j) * 5 + 3, none⟩ = some (.int .i64 p) ∧ w.cell? ⟨g, (i + j) * 5 + 4, none⟩ = some (.slice a' ks.len c') ∧ TN 24 w P k t n p (.slice a' ks.len c') ks
  | .nil, j, i, a, k, t, n, p, ks, _, h => by cases j <;> cases h
  | .cons k' t' n' p' ks' r, 0, i, a, k, t, n, p, ks, hR, h => by
    have h : some (k', t', n', p', ks') = some (k, t, n, p, ks) := h
    simp only [Option.some.injEq, Prod.mk.injEq] at h
    obtain ⟨rfl, rfl, rfl, rfl, rfl⟩ := h
    obtain ⟨g, a', c', e, hg, c0, c1, c2, c3, c4, hT, -⟩ := hR.next
    exact ⟨g, a', c', e, hg, c0, c1, c2, c3, c4, hT⟩
  | .cons k' t' n' p' ks' r, j + 1, i, a, k, t, n, p, ks, hR, h => by
    obtain ⟨g, a', c', e, hg, c0, c1, c2, c3, c4, hT, hr⟩ := hR.next
    have := Rw.nth r j (i + 1) hr h
    rw [show i + 1 + j = i + (j + 1) by omega] at this
    exact this
theorem F.sam_get : ∀ (f g : F) (j : Nat) {k : Int} {t : List UInt8} {n p : Int} {ks : F}, f.sam g → f.get? j = some (k, t, n, p, ks) → ∃ p' ks', g.get? j = some (k, t, n, p', ks') ∧ ks.sam ks'
  | .nil, .nil, j, _, _, _, _, _, _, h => by cases j <;> cases h
  | .nil, .cons _ _ _ _ _ _, _, _, _, _, _, _, h, _ => h.elim
  | .cons _ _ _ _ _ _, .nil, _, _, _, _, _, _, h, _ => h.elim
  | .cons k' t' n' p' ks' r, .cons k2 t2 n2 p2 ks2 r2, 0, k, t, n, p, ks, hs, h => by
    have h : some (k', t', n', p', ks') = some (k, t, n, p, ks) := h
    simp only [Option.some.injEq, Prod.mk.injEq] at h
    obtain ⟨rfl, rfl, rfl, rfl, rfl⟩ := h
    obtain ⟨⟨rfl, rfl, rfl, h4⟩, _⟩ := hs
    exact ⟨p2, ks2, rfl, h4⟩
  | .cons k' t' n' p' ks' r, .cons k2 t2 n2 p2 ks2 r2, j + 1, k, t, n, p, ks, hs, h => F.sam_get r r2 j hs.2 h
theorem F.get_app : ∀ (f g : F) (j : Nat), (f.app g).get? j = if j < f.len then f.get? j else g.get? (j - f.len)
  | .nil, g, j => by simp [F.app, F.len]
  | .cons k t n p ks r, g, 0 => by simp [F.app, F.len, F.get?]
  | .cons k t n p ks r, g, j + 1 => by
    have := F.get_app r g j
    simp only [F.app, F.len, F.get?, Nat.add_lt_add_iff_right, Nat.add_sub_add_right]
    exact this
theorem F.lk_get : ∀ (f : F) (m : Nat), f.len = m + 1 → ∃ t n p ks, f.get? m = some (f.lk, t, n, p, ks)
  | .nil, m, h => by simp [F.len] at h
  | .cons k t n p ks .nil, m, h => by
    simp only [F.len] at h
    obtain rfl : m = 0 := by omega
    exact ⟨t, n, p, ks, rfl⟩
  | .cons k t n p ks (.cons k2 t2 n2 p2 ks2 r), m, h => by
    obtain ⟨m', rfl⟩ : ∃ m', m = m' + 1 := ⟨m - 1, by simp only [F.len] at h; omega⟩
    exact F.lk_get (.cons k2 t2 n2 p2 ks2 r) m' (by simp only [F.len] at h ⊢; omega)
theorem prT_zero (l : List UInt8) (f : F) (x : Int) (h : prT l = (f, 0, x)) : x = 0 := by
  unfold prT at h
  split at h
  · next hc =>
    injection h with _ h2
    injection h2 with h2 _
    exact absurd h2 hc
  · cases hk : chk (scT l).1 with
    | ok g m =>
      rw [hk] at h
      injection h with _ h2
      injection h2 with _ h3
      exact h3.symm
    | bad p =>
      rw [hk] at h
      injection h with _ h2
      injection h2 with h2 _
      exact absurd h2 (by decide)
    | out => exact absurd hk (chk_some _)
theorem F.lk_nil (f : F) (h : f.len = 0) : f.lk = 0 := by
  cases f with
  | nil => rfl
  | cons k t n p ks r => simp [F.len] at h
end Go.Proofs.YtlgkfhipobdcfaaGreatDoor
