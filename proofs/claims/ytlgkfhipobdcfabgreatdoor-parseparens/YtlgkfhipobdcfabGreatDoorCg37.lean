/- What holds of the tokens and of their tails holds of those that are left. -/
import Derived.Test.YtlgkfhipobdcfabGreatDoorCg09
import Derived.Test.YtlgkfhipobdcfabGreatDoorCg08
import Derived.Test.YtlgkfhipobdcfabGreatDoorCg36
import Derived.Test.YtlgkfhipobdcfabGreatDoorCg14
namespace Go.Proofs.YtlgkfhipobdcfabGreatDoor

/-- It holds of the tokens left. -/
def EM (Q : List Tok → Prop) : PR → Prop
  | .ok _ l => Q l
  | _ => True
theorem EM.bind {Q : List Tok → Prop} {x : PR} {k : F → List Tok → PR} (h : EM Q x) (hk : ∀ f l, Q l → EM Q (k f l)) : EM Q (x.bind k) := by
  cases x with
  | ok f l => exact hk f l h
  | bad p => exact trivial
  | out => exact trivial
theorem EM.need {Q : List Tok → Prop} (htl : ∀ l, Q l → hc l ≠ 56 → Q l.tail) {c : Nat} {l : List Tok} {k : List Tok → PR} (hl : Q l) (hc' : c ≠ 56) (h : Q l.tail → EM Q (k l.tail)) : EM Q (need c l k) := by
  unfold Go.Proofs.YtlgkfhipobdcfabGreatDoor.need
  split
  · next e => exact h (htl _ hl (by rw [e]; exact hc'))
  · exact trivial
theorem EM.nam {Q : List Tok → Prop} (htl : ∀ l, Q l → hc l ≠ 56 → Q l.tail) {q : Int} {l : List Tok} {k : F → List Tok → PR} (hl : Q l) (h : ∀ f, Q l.tail → EM Q (k f l.tail)) : EM Q (nam q l k) := by
  unfold Go.Proofs.YtlgkfhipobdcfabGreatDoor.nam
  split
  · next e => exact h _ (htl _ hl (by rw [e]; decide))
  · exact trivial
section
variable {Q : List Tok → Prop} (htl : ∀ l, Q l → hc l ≠ 56 → Q l.tail) {rec : J → List Tok → PR} (ih : ∀ j l, Q l → EM Q (rec j l))
include htl ih
theorem em_body {l : List Tok} {k : F → List Tok → PR} (hl : Q l) (h : ∀ f l1, Q l1 → EM Q (k f l1)) : EM Q (bodyP rec l k) :=
  .need htl hl (by decide) fun h1 => .bind (ih _ _ h1) fun f _ h2 => .need htl h2 (by decide) fun h3 => h f _ h3
theorem em_last {l : List Tok} (h1 : Q l.tail) : EM Q (lastP rec l) := by
  unfold lastP
  split
  · next e => exact htl _ h1 (by rw [e]; decide)
  · split
    · exact h1
    · refine .bind (ih _ _ h1) fun f m h2 => ?_
      show Q _
      split
      · next e => exact htl _ h2 (by rw [e]; decide)
      · exact h2
theorem em_fun {l : List Tok} (h1 : Q l.tail) : EM Q (funP rec l) := by
  unfold funP parP
  refine .nam htl h1 fun m h2 => .need htl h2 (by decide) fun h3 => .bind ?_ fun ps l1 h4 => .need htl h4 (by decide) fun h5 => .bind (ih _ _ h5) fun b l2 h6 => .need htl h6 (by decide) fun h7 => h7
  split
  · exact h3
  · exact .nam htl h3 fun f h4 => ih _ _ h4
theorem em_num {at' : Int} {a : F} {l : List Tok} (hl : Q l) : EM Q (numP rec at' a l) := by
  unfold numP
  refine .bind (ih _ _ hl) fun e1 l1 h1 => .need htl h1 (by decide) fun h2 => .bind (ih _ _ h2) fun e2 l2 h3 => ?_
  split
  · next e => exact .bind (ih _ _ (htl _ h3 (by rw [e]; decide))) fun e3 l3 h4 => em_body htl ih h4 fun _ _ h5 => h5
  · exact em_body htl ih h3 fun _ _ h5 => h5
theorem em_for {l : List Tok} (hl : Q l.tail) : EM Q (forP rec l) := by
  unfold forP
  refine .nam htl hl fun m h1 => ?_
  split
  · next e => exact em_num htl ih (htl _ h1 (by rw [e]; decide))
  · exact .bind (ih _ _ h1) fun ns l1 h2 => .need htl h2 (by decide) fun h3 => .bind (ih _ _ h3) fun f l2 h4 => em_body htl ih h4 fun _ _ h5 => h5
theorem em_loc {l : List Tok} (hl : Q l.tail) : EM Q (locP rec l) := by
  unfold locP
  refine .nam htl hl fun m h1 => .bind (ih _ _ h1) fun ns l1 h2 => ?_
  split
  · next e => exact .bind (ih _ _ (htl _ h2 (by rw [e]; decide))) fun _ _ h3 => h3
  · exact h2
theorem em_asg {l : List Tok} (hl : Q l) : EM Q (asgP rec l) := by
  unfold asgP tgt
  refine .bind (ih _ _ hl) fun f l1 h1 => ?_
  split
  · split
    · exact .bind (ih _ _ h1) fun ts l2 h2 => .need htl h2 (by decide) fun h3 => .bind (ih _ _ h3) fun _ _ h4 => h4
    · exact trivial
  · split
    · exact h1
    · exact trivial
theorem em_arg {a : F} {l : List Tok} (hl : Q l) : EM Q (argP rec a l) := by
  unfold argP
  split
  · next e => exact htl _ hl (by rw [e]; decide)
  · exact .bind (ih _ _ hl) fun f l1 h1 => .need htl h1 (by decide) fun h2 => h2
theorem em_stem {l : List Tok} (hl : Q l) : EM Q (stemP rec l) := by
  unfold stemP
  split
  · next e => exact .bind (ih _ _ (htl _ hl (by rw [e]; decide))) fun f l1 h1 => .need htl h1 (by decide) fun h2 => h2
  · exact .nam htl hl fun f h => h
theorem em_br {a : F} {l : List Tok} (hl : Q l) : EM Q (brP rec a l) := by
  unfold brP
  exact .bind (ih _ _ hl) fun e l1 h1 => .need htl h1 (by decide) fun h2 => .bind (ih _ _ h2) fun b l2 h3 => h3
theorem em_step (j : J) (l : List Tok) (hl : Q l) : EM Q (stp' rec j l) := by
  have tl : ∀ c, hc l = c → c ≠ 56 → Q l.tail := fun c h h2 => htl _ hl (by rw [h]; exact h2)
  cases j with
  | blk c => exact .bind (ih _ _ hl) fun _ _ h => h
  | bk c a =>
    simp only [stp']
    split
    · next h => exact ih _ _ (tl _ h (by decide))
    · split
      · next h => exact .bind (em_last htl ih (tl _ h (by decide))) fun _ _ h => h
      · split
        · next h => exact .bind (em_fun htl ih (tl _ h.2 (by decide))) fun _ _ h => ih _ _ h
        · split
          · exact hl
          · exact .bind (ih _ _ hl) fun _ _ h => ih _ _ h
  | stat =>
    simp only [stp']
    split
    · exact em_body htl ih hl fun _ _ h => h
    · split
      · next h => exact .bind (ih _ _ (tl _ h (by decide))) fun _ _ h => em_body htl ih h fun _ _ h => h
      · split
        · next h => exact .bind (ih _ _ (tl _ h (by decide))) fun _ _ h => h
        · split
          · next h => exact em_for htl ih (tl _ h (by decide))
          · split
            · next h => exact em_loc htl ih (tl _ h (by decide))
            · split
              · next h => exact tl _ h (by decide)
              · exact em_asg htl ih hl
  | lst a =>
    simp only [stp']
    refine .bind (ih _ _ hl) fun f l1 h1 => ?_
    split
    · next e => exact ih _ _ (htl _ h1 (by rw [e]; decide))
    · exact h1
  | nms a =>
    simp only [stp']
    split
    · next h => exact .nam htl (tl _ h (by decide)) fun f h => ih _ _ h
    · exact hl
  | ifs a =>
    simp only [stp']
    refine .bind (em_br htl ih hl) fun f l1 h1 => ?_
    split
    · next e => exact ih _ _ (htl _ h1 (by rw [e]; decide))
    · split
      · next e => exact .bind (ih _ _ (htl _ h1 (by rw [e]; decide))) fun _ _ h => .need htl h (by decide) fun h => h
      · exact .need htl h1 (by decide) fun h => h
  | asg a =>
    simp only [stp', tgt]
    split
    · next h =>
      refine .bind (ih _ _ (tl _ h (by decide))) fun f l1 h1 => ?_
      split
      · exact ih _ _ h1
      · exact trivial
    · exact hl
  | ex a => exact .bind (ih _ _ hl) fun _ _ h => ih _ _ h
  | exl a f =>
    simp only [stp']
    split
    · next h => exact .bind (ih _ _ (htl _ hl (by intro e; rw [e] at h; exact absurd h (by simp [bnd])))) fun _ _ h => ih _ _ h
    · exact hl
  | opd =>
    simp only [stp', tabP]
    split
    · exact ih _ _ hl
    · split
      · next h => exact .bind (ih _ _ (tl _ h (by decide))) fun _ _ h => .need htl h (by decide) fun h => h
      · split
        · next h => exact .bind (ih _ _ (by rcases h with h | h | h <;> exact tl _ h (by decide))) fun _ _ h => h
        · split
          · next h => exact tl _ h (by decide)
          · split
            · next h => exact tl _ h (by decide)
            · split
              · next h => exact tl _ h (by decide)
              · split
                · next h => exact tl _ h (by decide)
                · split
                  · next h => exact tl _ h (by decide)
                  · exact trivial
  | suf => exact .bind (em_stem htl ih hl) fun _ _ h => ih _ _ h
  | sufl f =>
    simp only [stp']
    split
    · next h => exact .bind (ih _ _ (tl _ h (by decide))) fun _ _ h => .need htl h (by decide) fun h => ih _ _ h
    · split
      · next h => exact .nam htl (tl _ h (by decide)) fun _ h => ih _ _ h
      · split
        · next h => exact .bind (em_arg htl ih (tl _ h (by decide))) fun _ _ h => ih _ _ h
        · exact hl
  | tab a =>
    simp only [stp']
    split
    · exact hl
    · refine .bind (ih _ _ hl) fun f l1 h1 => ?_
      split
      · next e => exact ih _ _ (htl _ h1 (by rcases e with e | e <;> rw [e] <;> decide))
      · exact h1
  | fld =>
    simp only [stp']
    split
    · next h => exact .bind (ih _ _ (tl _ h (by decide))) fun _ _ h => .need htl h (by decide) fun h => .need htl h (by decide) fun h => .bind (ih _ _ h) fun _ _ h => h
    · split
      · next h => exact .bind (ih _ _ (htl _ (tl _ h.1 (by decide)) (by rw [h.2]; decide))) fun _ _ h => h
      · exact .bind (ih _ _ hl) fun _ _ h => h
end
theorem em_all {Q : List Tok → Prop} (htl : ∀ l, Q l → hc l ≠ 56 → Q l.tail) : ∀ (n : Nat) (j : J) (l : List Tok), Q l → EM Q (pr n j l)
  | 0, _, _, _ => trivial
  | n + 1, j, l, h => em_step htl (em_all htl n) j l h
theorem pr_keep {Q : List Tok → Prop} (htl : ∀ l, Q l → hc l ≠ 56 → Q l.tail) {n : Nat} {j : J} {l l' : List Tok} {f : F} (h : pr n j l = .ok f l') (hl : Q l) : Q l' := by
  have := em_all htl n j l hl
  rw [h] at this
  exact this
/-- The tokens end with the end, and no other is one. -/
def E1 (l : List Tok) : Prop := ∃ pre e, l = pre ++ [e] ∧ e.k = 6 ∧ ∀ t ∈ pre, cls t ≠ 56
theorem E1.tl (l : List Tok) (h : E1 l) (hn : hc l ≠ 56) : E1 l.tail := by
  obtain ⟨p, e, rfl, he, hp⟩ := h
  cases p with
  | nil => exact absurd (cls_of_kind e 6 he (by decide)) hn
  | cons t p => exact ⟨p, e, rfl, he, fun x hx => hp x (List.mem_cons_of_mem _ hx)⟩
theorem pr_e1 {n : Nat} {j : J} {l l' : List Tok} {f : F} (h : pr n j l = .ok f l') (hl : E1 l) : E1 l' := pr_keep E1.tl h hl
theorem E1.last {l : List Tok} (h : E1 l) (h2 : hc l = 56) : ∃ e, l = [e] ∧ e.k = 6 := by
  obtain ⟨p, e, rfl, he, hp⟩ := h
  cases p with
  | nil => exact ⟨e, rfl, he⟩
  | cons t p => exact absurd h2 (hp t (by simp))
end Go.Proofs.YtlgkfhipobdcfabGreatDoor

/- The tokens of two texts with a newline, ';' and a newline between; the tree of both (no program in it). -/
namespace Go.Proofs.YtlgkfhipobdcfabGreatDoor
open Go.RowKit

theorem scT_eq (l : List UInt8) (h : l.length ≤ 20000) : scT l = match scn l 0 [] with | .ok ts => (ts, 0, 0) | .bad c p => ([], c, (p : Int)) := by
  unfold scT; rw [if_neg (by omega)]
  all_goals (cases scn l 0 [] <;> rfl)
theorem stp_semi (l : List UInt8) : stp (59 :: 10 :: l) = .tok 5 [59] 0 1 := by
  have hr := (asc 59 (10 :: l) (by decide)).1
  have hp : Lib.hasPrefix (59 :: 10 :: l) [45, 45] = false := by simp [Lib.hasPrefix, List.isPrefixOf]
  have hs : sgz (59 :: 10 :: l) = 1 := by
    show (if sgn2.contains [59, 10] then 2 else if sgn1.contains 59 then 1 else 0) = 1
    decide
  have := stp_sign (59 :: 10 :: l) _ hr (by decide) hp (by decide) (by decide) (by decide)
  rw [hs] at this
  simpa using this
/-- A text, newline, ';', newline, a text. -/
theorem scn_semi (a b : List UInt8) (ts : List Tok) (h : scn a 0 [] = .ok ts) :
    ∃ body, ts = body ++ [⟨6, [], 0, a.length⟩] ∧ scn (a ++ 10 :: 59 :: 10 :: b) 0 [] = match scn b 0 [] with | .ok us => .ok (body ++ ⟨5, [59], 0, a.length + 1⟩ :: us.map (sh (a.length + 3))) | .bad c q => .bad c (q + (a.length + 3)) := by
  obtain ⟨body, e1, e2⟩ := scn_app 10 (59 :: 10 :: b) (.inr (.inl rfl)) a.length a 0 [] ts (Nat.le_refl _) (NC.nl a) h
  simp only [List.nil_append, Nat.zero_add] at e1 e2
  refine ⟨body, e1, ?_⟩
  rw [e2, gap_blank 10 _ _ _ (by decide), scn_tok (by simp) (stp_semi b)]
  show scn (10 :: b) _ _ = _
  rw [gap_blank 10 _ _ _ (by decide)]
  have := scn_shift (a.length + 3) (body ++ [⟨5, [59], 0, a.length + 1⟩]) b.length b 0 [] (Nat.le_refl _)
  simp only [List.map_nil, List.append_nil, Nat.zero_add] at this
  rw [show a.length + 1 + 1 + 1 = a.length + 3 by omega, this]
  cases scn b 0 [] with
  | ok us => simp
  | bad c q => rfl
theorem scT_semi (a b : List UInt8) (ha : a.length ≤ 9000) (hb : b.length ≤ 9000) (h0 : (scT a).2.1 = 0) (h1 : (scT b).2.1 = 0) :
    ∃ body, (scT a).1 = body ++ [⟨6, [], 0, a.length⟩] ∧ scT (a ++ 10 :: 59 :: 10 :: b) = (body ++ ⟨5, [59], 0, a.length + 1⟩ :: (scT b).1.map (sh (a.length + 3)), 0, 0) := by
  have ea := scT_eq a (by omega)
  have eb := scT_eq b (by omega)
  have ez := scT_eq (a ++ 10 :: 59 :: 10 :: b) (by simp only [List.length_append, List.length_cons]; omega)
  cases hs : scn a 0 [] with
  | bad c p =>
    rw [hs] at ea
    rw [ea] at h0
    exact absurd h0 (scn_badc a.length a 0 [] (Nat.le_refl _) c p hs).1
  | ok ts =>
    rw [hs] at ea
    obtain ⟨body, e1, e2⟩ := scn_semi a b ts hs
    refine ⟨body, by rw [ea]; exact e1, ?_⟩
    cases ht : scn b 0 [] with
    | bad c p =>
      rw [ht] at eb
      rw [eb] at h1
      exact absurd h1 (scn_badc b.length b 0 [] (Nat.le_refl _) c p ht).1
    | ok us =>
      rw [ht] at e2 eb
      simp only at e2 eb
      rw [ez, e2, eb]

/-- What Parse tells of a text without a fault. -/
theorem prT_chk (l : List UInt8) (f : F) (h : prT l = (f, 0, 0)) : (scT l).2.1 = 0 ∧ ∃ m, chk (scT l).1 = .ok f m := by
  unfold prT at h
  split at h
  · next hc =>
    injection h with h1 h2
    injection h2 with h2 h3
    exact absurd h2 hc
  · next hc =>
    refine ⟨Classical.byContradiction hc, ?_⟩
    cases hk : chk (scT l).1 with
    | ok g m =>
      rw [hk] at h
      injection h with h1 h2
      exact ⟨m, by rw [h1]⟩
    | bad p =>
      rw [hk] at h
      injection h with h1 h2
      injection h2 with h2 h3
      exact absurd h2 (by decide)
    | out => exact absurd hk (chk_some _)
/-- A chunk's trees, with any number of steps that is enough. -/
theorem chk_bk (l : List Tok) (f : F) (m : List Tok) (h : chk l = .ok f m) : ∃ ks, f = one 20 [] 0 (ha l) ks ∧ hc m = 56 ∧ pr (8 * l.length + 3) (.bk true .nil) l = .ok ks m := by
  unfold chk at h
  cases hx : pr (8 * l.length + 4) (.blk true) l with
  | ok f' m' =>
    rw [hx] at h
    rw [show 8 * l.length + 4 = (8 * l.length + 3) + 1 from rfl, pr_succ] at hx
    simp only [stp'] at hx
    cases hy : pr (8 * l.length + 3) (.bk true .nil) l with
    | ok ks m2 =>
      rw [hy] at hx
      simp only [PR.bind] at hx h
      injection hx with h1 h2
      split at h
      · next h56 =>
        injection h with h3 h4
        subst h1 h2 h3 h4
        exact ⟨ks, rfl, h56, rfl⟩
      · cases h
    | bad p => rw [hy] at hx; cases hx
    | out => rw [hy] at hx; cases hx
  | bad p => rw [hx] at h; cases h
  | out => rw [hx] at h; cases h
theorem bk_chk (l : List Tok) (n : Nat) (ks : F) (m : List Tok) (h : pr n (.bk true .nil) l = .ok ks m) (hm : hc m = 56) : chk l = .ok (one 20 [] 0 (ha l) ks) m := by
  have h1 : pr (8 * l.length + 3) (.bk true .nil) l ≠ .out := pr_enough _ _ _ (by simp only [rk]; omega)
  have h2 := pr_same h1 (m := n) (by rw [h]; exact fun x => by cases x)
  unfold chk
  rw [show 8 * l.length + 4 = (8 * l.length + 3) + 1 from rfl, pr_succ]
  simp only [stp']
  rw [h2, h]
  simp only [PR.bind]
  rw [if_pos hm]
theorem lz_sh (d : Nat) (l : List Tok) : lz (l.map (sh d)) = lz l := by
  unfold lz
  rw [List.map_map]
  rfl
theorem lz_app (l m : List Tok) : lz (l ++ m) = lz l ++ lz m := List.map_append
theorem F.sam_trans : ∀ f g h : F, f.sam g → g.sam h → f.sam h
  | .nil, .nil, .nil, _, _ => trivial
  | .cons _ _ _ _ ks r, .cons _ _ _ _ ks' r', .cons _ _ _ _ ks'' r'', h1, h2 => ⟨⟨h1.1.1.trans h2.1.1, h1.1.2.1.trans h2.1.2.1, h1.1.2.2.1.trans h2.1.2.2.1, F.sam_trans ks ks' ks'' h1.1.2.2.2 h2.1.2.2.2⟩, F.sam_trans r r' r'' h1.2 h2.2⟩
  | .nil, .cons _ _ _ _ _ _, _, h, _ => h.elim
  | .cons _ _ _ _ _ _, .nil, _, h, _ => h.elim
  | .nil, .nil, .cons _ _ _ _ _ _, _, h => h.elim
  | .cons _ _ _ _ _ _, .cons _ _ _ _ _ _, .nil, _, h => h.elim
theorem F.lk_z : ∀ f : F, f.z.lk = f.lk
  | .nil => rfl
  | .cons _ _ _ _ _ .nil => rfl
  | .cons _ _ _ _ _ (.cons k t n p ks r) => F.lk_z (.cons k t n p ks r)
theorem GT.e1 {l : List UInt8} : ∀ (r : List Tok) (a : Nat), GT l a r → E1 r
  | [], _, h => h.elim
  | [t], _, h => ⟨[], t, rfl, h.1, fun x hx => by cases hx⟩
  | t :: u :: r, a, h => by
    obtain ⟨p, e, h1, h2, h3⟩ := GT.e1 (u :: r) _ h.2
    refine ⟨t :: p, e, by rw [h1]; rfl, h2, fun x hx => ?_⟩
    rcases List.mem_cons.1 hx with rfl | hx
    · intro h6
      have := cls_kind x 56 h6 (by decide)
      exact h.1.kd (by rw [this]; rfl)
    · exact h3 x hx
/-- Two chunks, the first without a return at its end: the trees of both, but for the places. -/
theorem prT_join (a b : List UInt8) (ha' : a.length ≤ 9000) (hb : b.length ≤ 9000) {pa pb : Int} {A B : F} (hA : prT a = (one 20 [] 0 pa A, 0, 0)) (hB : prT b = (one 20 [] 0 pb B, 0, 0)) (hk : A.lk ≠ 30) :
    ∃ p C, prT (a ++ 10 :: 59 :: 10 :: b) = (one 20 [] 0 p C, 0, 0) ∧ C.sam (A.app B) := by
  obtain ⟨a0, am, a1⟩ := prT_chk _ _ hA
  obtain ⟨b0, bm, b1⟩ := prT_chk _ _ hB
  obtain ⟨body, t1, t2⟩ := scT_semi a b ha' hb a0 b0
  obtain ⟨A', e1, a2, a3⟩ := chk_bk _ _ _ a1
  obtain ⟨B', e2, b2, b3⟩ := chk_bk _ _ _ b1
  have eA : A' = A := by injection e1 with _ _ _ _ e _; exact e.symm
  have eB : B' = B := by injection e2 with _ _ _ _ e _; exact e.symm
  subst eA eB
  have gA := (scT_ok a a0).1.e1
  have gB := (scT_ok b b0).1.e1
  obtain ⟨ea, rfl, ka⟩ := (pr_e1 a3 gA).last a2
  obtain ⟨eb, rfl, kb⟩ := (pr_e1 b3 gB).last b2
  -- without places
  obtain ⟨E, hE⟩ : ∃ E : Tok, E = ⟨6, [], 0, 0⟩ := ⟨_, rfl⟩
  have hz := pr_z (8 * (scT a).1.length + 3) (.bk true .nil) (scT a).1
  rw [a3] at hz
  have hza : pr (8 * (scT a).1.length + 3) (.bk true .nil) (lz body ++ [E]) = .ok A'.z [⟨6, ea.t, ea.v, 0⟩] := by
    have : lz (scT a).1 = lz body ++ [E] := by rw [t1, lz_app, hE]; rfl
    rw [this] at hz
    have k2 : (PR.ok A' [ea]).z = .ok A'.z [⟨6, ea.t, ea.v, 0⟩] := by
      show PR.ok A'.z [⟨ea.k, ea.t, ea.v, 0⟩] = _
      rw [ka]
    rw [← k2]
    exact hz
  have hzb : pr (8 * (scT b).1.length + 3) (.bk true .nil) (lz (scT b).1) = .ok B'.z [⟨6, eb.t, eb.v, 0⟩] := by
    have h := pr_z (8 * (scT b).1.length + 3) (.bk true .nil) (scT b).1
    rw [b3] at h
    have k2 : (PR.ok B' [eb]).z = .ok B'.z [⟨6, eb.t, eb.v, 0⟩] := by
      show PR.ok B'.z [⟨eb.k, eb.t, eb.v, 0⟩] = _
      rw [kb]
    rw [← k2]
    exact h
  obtain ⟨v, hv⟩ : ∃ v : List Tok, v = ⟨5, [59], 0, 0⟩ :: lz (scT b).1 := ⟨_, rfl⟩
  have cE : cls E = 56 := by rw [hE]; rfl
  have cv : hc v = 1 := by rw [hv]; show cls ⟨5, [59], 0, 0⟩ = 1; decide
  have pE : ha v = E.p := by rw [hv, hE]; rfl
  -- the first up to its end
  obtain ⟨N, hN⟩ : ∃ N, N = 8 * (lz body ++ v).length + 8 * (scT a).1.length + 10 := ⟨_, rfl⟩
  have hza2 : pr N (.bk true .nil) (lz body ++ [E]) = .ok A'.z [⟨6, ea.t, ea.v, 0⟩] := by
    have h := pr_le (8 * (scT a).1.length + 3) (.bk true .nil) (lz body ++ [E]) (N - (8 * (scT a).1.length + 3))
    rw [hza] at h
    rcases h with h | h
    · cases h
    · rw [h]; congr 1; omega
  have hlast : (⟨6, ea.t, ea.v, 0⟩ : Tok) = E := by
    obtain ⟨u, h1, _⟩ := x_all cE (.inl cv) pE N (.bk true .nil) (lz body) _ _ hza2
    cases u with
    | nil => injection h1
    | cons t u => have := congrArg List.length h1; simp at this
  rw [hlast] at hza2
  obtain ⟨k, hk2⟩ := bk_top cE (.inl cv) pE N true .nil (lz body) A'.z hza2 (by rw [F.lk_z]; exact hk)
  have hno : pr N (.bk true .nil) (lz body ++ v) ≠ .out := pr_enough _ _ _ (by rw [hN]; simp only [rk]; omega)
  rw [hk2] at hno
  have hkk : pr k (.bk true A'.z) v = pr (8 * (scT b).1.length + 3 + 1 + k) (.bk true A'.z) v := by
    rcases pr_le k (.bk true A'.z) v (8 * (scT b).1.length + 3 + 1) with h | h
    · exact absurd h hno
    · rw [h, Nat.add_comm k]
  have hfin : pr N (.bk true .nil) (lz body ++ v) = .ok (A'.z.app B'.z) [⟨6, eb.t, eb.v, 0⟩] := by
    rw [hk2, hkk, show 8 * (scT b).1.length + 3 + 1 + k = (8 * (scT b).1.length + 3 + k) + 1 by omega, pr_succ]
    simp only [stp']
    rw [if_pos cv, hv]
    show pr _ (.bk true A'.z) (lz (scT b).1) = _
    have hacc := bk_acc (8 * (scT b).1.length + 3 + k) true A'.z .nil (lz (scT b).1)
    rw [F.app_nil] at hacc
    rw [hacc]
    have h := pr_le (8 * (scT b).1.length + 3) (.bk true .nil) (lz (scT b).1) k
    rw [hzb] at h
    rcases h with h | h
    · cases h
    · rw [← h]; rfl
  -- the joint tokens
  obtain ⟨T, hT⟩ : ∃ T, T = body ++ (⟨5, [59], 0, a.length + 1⟩ : Tok) :: (scT b).1.map (sh (a.length + 3)) := ⟨_, rfl⟩
  have hlz : lz T = lz body ++ v := by
    rw [hT, hv, lz_app]
    show lz body ++ tz _ :: lz ((scT b).1.map (sh (a.length + 3))) = _
    rw [lz_sh]
    rfl
  have hzT := pr_z N (.bk true .nil) T
  rw [show J.z (.bk true .nil) = .bk true .nil from rfl, hlz, hfin] at hzT
  cases hp : pr N (.bk true .nil) T with
  | bad p => rw [hp] at hzT; cases hzT
  | out => rw [hp] at hzT; cases hzT
  | ok C m =>
    rw [hp] at hzT
    injection hzT with h1 h2
    have hm : hc m = 56 := by rw [← hc_z, ← h2]; rfl
    refine ⟨ha T, C, ?_, F.sam_of_z _ _ (by rw [← h1, F.z_app])⟩
    unfold prT
    rw [t2]
    simp only [ne_eq, not_true_eq_false, if_false]
    rw [← hT, bk_chk T N C m hp hm]
    rfl
end Go.Proofs.YtlgkfhipobdcfabGreatDoor

/- The document's examples, by the plain functions. -/
namespace Go.Proofs.YtlgkfhipobdcfabGreatDoor
open Go.RowKit

def src1 : List UInt8 := [114, 101, 116, 117, 114, 110, 32, 45, 97, 32, 42, 32, 98, 32, 45, 32, 99]
def src2 : List UInt8 := [108, 111, 99, 97, 108, 32, 116, 32, 61, 32, 123, 49, 44, 32, 120, 32, 61, 32, 50, 59, 32, 91, 51, 93, 32, 61, 32, 52, 44, 125]
def src3 : List UInt8 := [97, 44, 32, 102, 40, 41, 32, 61, 32, 49]
def out2 : List UInt8 := [108, 111, 99, 97, 108, 32, 116, 32, 61, 32, 123, 32, 49, 32, 44, 32, 91, 32, 34, 120, 34, 32, 93, 32, 61, 32, 50, 32, 44, 32, 91, 32, 51, 32, 93, 32, 61, 32, 52, 32, 125, 32, 59]
def prTF (l : List UInt8) : F × Int × Int := if (scTF l).2.1 ≠ 0 then (noF, (scTF l).2.1, (scTF l).2.2) else outT (chk (scTF l).1)
theorem prTF_eq (l : List UInt8) : prTF l = prT l := by unfold prTF prT; rw [scTF_eq]
def tree1e : F := .cons 11 [42] 0 7 (.cons 10 [45] 0 7 (one 6 [97] 0 8 .nil) (one 6 [98] 0 12 .nil)) (one 6 [99] 0 16 .nil)
def tree1 : F := one 30 [] 0 0 (one 11 [45] 0 7 tree1e)
theorem pr_ex1 : prT src1 = (one 20 [] 0 0 tree1, 0, 0) := by
  rw [← prTF_eq]; kernel_rfl
theorem pr_ex3 : prT src3 = (noF, 4, 3) := by
  rw [← prTF_eq]; kernel_rfl
def tree2 : F := (prTF src2).1
def kids2 : F := match tree2 with | .cons _ _ _ _ ks _ => ks | .nil => .nil
theorem pr_ex2 : prT src2 = (one 20 [] 0 0 kids2, 0, 0) := by
  rw [← prTF_eq]; kernel_rfl
theorem wf_ex2 : (one 20 [] 0 0 kids2).wf = true := by kernel_rfl
theorem siz_ex2 : kids2.siz < 40 := of_decide_eq_true (by kernel_rfl)
def toks2 : Tks := tkB fmS quoQ 40 20 [] 0 kids2
theorem join_ex2 : Lib.join toks2 [32] = out2 := by kernel_rfl
theorem len_ex2 : toks2.length = 19 := by kernel_rfl
theorem hgt_ex1 : tree1.hgt = 5 := by kernel_rfl
theorem siz_ex1 : tree1.siz ≤ 40 := of_decide_eq_true (by kernel_rfl)

set_option maxRecDepth 20000 in
set_option maxHeartbeats 8000000 in
theorem fixed_any (W : World) : Calls Tryz.prog 5 #[] W fun e w' => e = .returned (.bool true) ∧ Below W.heap.size W w' := by
  have C1 := parse_any ⟨src1.toArray⟩ W (by decide)
  rw [show (⟨src1.toArray⟩ : ByteArray).data.toList = src1 from rfl, pr_ex1] at C1
  unfold src1 at C1
  go_enter Tryz.func5, Tryz.ntmps5
  go_wp2_with fail
  refine C1.mono ?_; rintro e w1 ⟨k', t', n', p', a, c, ks, rfl, he, hT, hB⟩
  simp only [one, F.cons.injEq] at he
  obtain ⟨rfl, rfl, rfl, rfl, rfl, -⟩ := he
  have hRw := hT.rw0
  have hRv := hT.rv
  rw [show tree1.len = 1 from rfl]
  clear hT
  unfold tree1 one at hRv
  obtain ⟨g1, o1, a1, c1, rfl, hg1, q0, q1, q2, q3, q4, hRv1, -, -⟩ := hRv.cons
  rw [show (F.cons 11 [45] 0 7 tree1e F.nil).len = 1 from rfl] at q4
  obtain ⟨g2, o2, a2, c2, rfl, hg2, r0, r1, r2, r3, r4, hRv2, -, -⟩ := hRv1.cons
  rw [show tree1e.len = 2 from rfl] at r4
  unfold tree1e at hRv2
  obtain ⟨g3, o3, a3, c3, rfl, hg3, u0, u1, u2, u3, u4, -, -, -⟩ := hRv2.cons
  obtain ⟨X, hX⟩ : ∃ X, w1.heap.size = X := ⟨_, rfl⟩
  have B1 := Bx.new w1 25 #[.int .i64 20, .string ⟨#[]⟩, .int .i64 0, .int .i64 0, .slice (some ⟨g1, o1, none⟩) 1 c]
  have e1 : (w1.alloc (.cells #[.int .i64 (20), .string ⟨#[]⟩, .int .i64 (0), .int .i64 (0), .slice (some ⟨g1, o1, none⟩) 1 c] 25)).heap.size = X + 1 := by simp [hX]
  have B2 := Bx.new (w1.alloc (.cells #[.int .i64 (20), .string ⟨#[]⟩, .int .i64 (0), .int .i64 (0), .slice (some ⟨g1, o1, none⟩) 1 c] 25)) 28 #[.int .i64 0, .int .i64 0]
  rw [e1] at B2
  have B1' := B1.alloc (.cells #[.int .i64 0, .int .i64 0] 28)
  rw [hX] at B1'
  have K1 : Below X w1 ((w1.alloc (.cells #[.int .i64 (20), .string ⟨#[]⟩, .int .i64 (0), .int .i64 (0), .slice (some ⟨g1, o1, none⟩) 1 c] 25)).alloc (.cells #[.int .i64 0, .int .i64 0] 28)) := ((Below.refl X w1).alloc (by omega) _).alloc (by rw [e1]; omega) _
  obtain ⟨V1, hV1⟩ : ∃ V1, (w1.alloc (.cells #[.int .i64 (20), .string ⟨#[]⟩, .int .i64 (0), .int .i64 (0), .slice (some ⟨g1, o1, none⟩) 1 c] 25)).alloc (.cells #[.int .i64 0, .int .i64 0] 28) = V1 := ⟨_, rfl⟩
  rw [hV1] at B2 B1' K1
  have C2 := Text_ok ⟨src2.toArray⟩ V1 (by decide) pr_ex2 40 (by omega) siz_ex2 wf_ex2 toks2 rfl (by rw [len_ex2]; omega) (by rw [len_ex2]; omega) (by rw [join_ex2]; decide)
  rw [join_ex2] at C2
  unfold src2 out2 at C2
  have HV1 : Hid ((w1.alloc (.cells #[.int .i64 (20), .string ⟨#[]⟩, .int .i64 (0), .int .i64 (0), .slice (some ⟨g1, o1, none⟩) 1 c] 25)).alloc (.cells #[.int .i64 0, .int .i64 0] 28) = V1) := hV1
  have H1 : Hid (Bx X 25 #[.int .i64 20, .string ⟨#[]⟩, .int .i64 0, .int .i64 0, .slice (some ⟨g1, o1, none⟩) 1 c] V1 ∧ Bx (X + 1) 28 #[.int .i64 0, .int .i64 0] V1 ∧ Below X w1 V1 ∧ Below W.heap.size W w1) := ⟨B1', B2, K1, hB⟩
  have HQ : Hid ((w1.cell? ⟨g1, o1 + 4, none⟩ = some (.slice (some ⟨g2, o2, none⟩) 1 c1) ∧ g1 < X) ∧ (w1.cell? ⟨g2, o2, none⟩ = some (.int .i64 11) ∧ w1.cell? ⟨g2, o2 + 1, none⟩ = some (.string ⟨#[45]⟩) ∧ w1.cell? ⟨g2, o2 + 2, none⟩ = some (.int .i64 0) ∧ w1.cell? ⟨g2, o2 + 3, none⟩ = some (.int .i64 7) ∧ w1.cell? ⟨g2, o2 + 4, none⟩ = some (.slice (some ⟨g3, o3, none⟩) 2 c2) ∧ g2 < X) ∧ (w1.cell? ⟨g3, o3 + 1, none⟩ = some (.string ⟨#[42]⟩) ∧ g3 < X) ∧ Rw w1 (fun g => W.heap.size ≤ g) (some ⟨g1, o1, none⟩) 0 tree1) := ⟨⟨q4, by omega⟩, ⟨r0, r1, r2, r3, r4, by omega⟩, ⟨u1, by omega⟩, hRw⟩
  clear C1 hB hRw hRv hRv1 hRv2 q0 q1 q2 q3 q4 r0 r1 r2 r3 r4 u0 u1 u2 u3 u4 hg1 hg2 hg3 B1 B1' B2 K1 e1 hV1
  go_wp2_with fail
  rw [HV1.out]
  refine C2.mono ?_; rintro e w2 ⟨rfl, hb2⟩
  have b2X := H1.out.1.below hb2
  have b2Y := H1.out.2.1.below hb2
  have hX2 := b2Y.lt
  have K2 := H1.out.2.2.1.trans (hb2.mono (by have := H1.out.2.1.lt; omega))
  obtain ⟨Y, hY⟩ : ∃ Y, w2.heap.size = Y := ⟨_, rfl⟩
  have bY := Bx.new w2 28 #[.int .i64 0, .int .i64 0]
  rw [hY] at bY
  have K2' := K2.alloc (by omega) (.cells #[.int .i64 0, .int .i64 0] 28)
  obtain ⟨V2, hV2⟩ : ∃ V2, w2.alloc (.cells #[.int .i64 0, .int .i64 0] 28) = V2 := ⟨_, rfl⟩
  have b2X' := b2X.alloc (.cells #[.int .i64 0, .int .i64 0] 28)
  have b2Y' := b2Y.alloc (.cells #[.int .i64 0, .int .i64 0] 28)
  rw [hV2] at bY K2' b2X' b2Y'
  have C3 := parse_any ⟨src3.toArray⟩ V2 (by decide)
  rw [show (⟨src3.toArray⟩ : ByteArray).data.toList = src3 from rfl, pr_ex3] at C3
  unfold src3 at C3
  have HV2 : Hid (w2.alloc (.cells #[.int .i64 0, .int .i64 0] 28) = V2) := hV2
  have H2 : Hid (Bx X 25 #[.int .i64 20, .string ⟨#[]⟩, .int .i64 0, .int .i64 0, .slice (some ⟨g1, o1, none⟩) 1 c] V2 ∧ Bx (X + 1) 28 #[.int .i64 0, .int .i64 0] V2 ∧ Bx Y 28 #[.int .i64 0, .int .i64 0] V2 ∧ Below X w1 V2 ∧ Below W.heap.size W w1 ∧ X + 1 < Y) := ⟨b2X', b2Y', bY, K2', H1.out.2.2.2, by omega⟩
  clear C2 hb2 b2X b2Y K2 bY K2' b2X' b2Y' HV1 H1 hV2
  go_wp2_with fail
  rw [HV2.out]
  refine C3.mono ?_; rintro e w3 ⟨k', t', n', p', a', c', ks', rfl, he, -, hB3⟩
  simp only [noF, one, F.cons.injEq] at he
  obtain ⟨rfl, rfl, rfl, rfl, rfl, -⟩ := he
  rw [show F.nil.len = 0 from rfl]
  obtain ⟨Z, hZ⟩ : ∃ Z, w3.heap.size = Z := ⟨_, rfl⟩
  have hYl := (H2.out.2.2.1.below hB3).lt
  have e3 : (w3.alloc (.cells #[.int .i64 (0), .string ⟨#[]⟩, .int .i64 (0), .int .i64 (0), .slice a' 0 c'] 25)).heap.size = Z + 1 := by simp [hZ]
  have bZ := Bx.new (w3.alloc (.cells #[.int .i64 (0), .string ⟨#[]⟩, .int .i64 (0), .int .i64 (0), .slice a' 0 c'] 25)) 28 #[.int .i64 4, .int .i64 3]
  rw [e3] at bZ
  have bX := ((H2.out.1.below hB3).alloc (.cells #[.int .i64 (0), .string ⟨#[]⟩, .int .i64 (0), .int .i64 (0), .slice a' 0 c'] 25)).alloc (.cells #[.int .i64 4, .int .i64 3] 28)
  have bF := ((H2.out.2.1.below hB3).alloc (.cells #[.int .i64 (0), .string ⟨#[]⟩, .int .i64 (0), .int .i64 (0), .slice a' 0 c'] 25)).alloc (.cells #[.int .i64 4, .int .i64 3] 28)
  have bG := ((H2.out.2.2.1.below hB3).alloc (.cells #[.int .i64 (0), .string ⟨#[]⟩, .int .i64 (0), .int .i64 (0), .slice a' 0 c'] 25)).alloc (.cells #[.int .i64 4, .int .i64 3] 28)
  have K3 := ((H2.out.2.2.2.1.trans (hB3.mono (by have := H2.out.2.2.1.lt; have := H2.out.2.2.2.2.2; omega))).alloc (by have := H2.out.2.2.2.2.2; omega) (.cells #[.int .i64 (0), .string ⟨#[]⟩, .int .i64 (0), .int .i64 (0), .slice a' 0 c'] 25)).alloc (by rw [e3]; have := H2.out.2.2.2.2.2; omega) (.cells #[.int .i64 4, .int .i64 3] 28)
  obtain ⟨V3, hV3⟩ : ∃ V3, (w3.alloc (.cells #[.int .i64 (0), .string ⟨#[]⟩, .int .i64 (0), .int .i64 (0), .slice a' 0 c'] 25)).alloc (.cells #[.int .i64 4, .int .i64 3] 28) = V3 := ⟨_, rfl⟩
  rw [hV3] at bZ bX bF bG K3
  have hW : Below W.heap.size W V3 := H2.out.2.2.2.2.1.trans (K3.mono (by have := H2.out.2.2.2.2.1.size; omega))
  have hV3s : X < V3.heap.size := bX.lt
  obtain ⟨⟨s4, hg1⟩, ⟨t0, t1, t2, t3, t4, hg2⟩, ⟨v1, hg3⟩, hRw⟩ := HQ.out
  have s4' := (K3.cell (p := ⟨g1, o1 + 4, none⟩) hg1).trans s4
  have t0' := (K3.cell (p := ⟨g2, o2, none⟩) hg2).trans t0
  have t1' := (K3.cell (p := ⟨g2, o2 + 1, none⟩) hg2).trans t1
  have t2' := (K3.cell (p := ⟨g2, o2 + 2, none⟩) hg2).trans t2
  have t3' := (K3.cell (p := ⟨g2, o2 + 3, none⟩) hg2).trans t3
  have t4' := (K3.cell (p := ⟨g2, o2 + 4, none⟩) hg2).trans t4
  have v1' := fun o => alloc_cell (b := g3) (by omega) ((K3.cell (p := ⟨g3, o3 + 1, none⟩) hg3).trans v1) o
  have x4 := bX.c 4 _ rfl
  obtain ⟨x0A, x1A, x2A, x3A, x4A⟩ := bX.fiveA
  have z0 := fun o => (bZ.alloc o).c 0 _ rfl
  have z1 := fun o => (bZ.alloc o).c 1 _ rfl
  have f0 := bF.c 0 _ rfl
  have g0 := bG.c 0 _ rfl
  have hRw3 := hRw.below (by rw [hX]; exact K3)
  have KA := (Below.refl V3.heap.size V3).alloc (Nat.le_refl _) (.cells #[.int .i64 (11), .string ⟨([45]).toArray⟩, .int .i64 (0), .int .i64 (7), .slice (some ⟨g3, o3, none⟩) 2 c2] 25)
  have CH := height_any 40 tree1 siz_ex1 (by omega) (V3.alloc (.cells #[.int .i64 (11), .string ⟨([45]).toArray⟩, .int .i64 (0), .int .i64 (7), .slice (some ⟨g3, o3, none⟩) 2 c2] 25)) _ 20 [] 0 0 (some ⟨g1, o1, none⟩) c (hRw3.below KA)
  rw [hgt_ex1, show tree1.len = 1 from rfl] at CH
  have heq : ∀ W, (binOp .eql 28 (.agg #[.int .i64 4, .int .i64 3]) (.agg #[.int .i64 4, .int .i64 3])).run Tryz.prog W = .ok (.bool true) W := fun W => by rw [eql27]; simp
  have HF : Hid (Below W.heap.size W (V3.alloc (.cells #[.int .i64 (11), .string ⟨([45]).toArray⟩, .int .i64 (0), .int .i64 (7), .slice (some ⟨g3, o3, none⟩) 2 c2] 25))) := hW.alloc (by have := hW.size; omega) _
  clear C3 hB3 H2 HQ HV2 hYl e3 bZ bX bF bG K3 hW s4 t0 t1 t2 t3 t4 v1 hg1 hg2 hg3 hRw hRw3 KA
  go_wp2_with fail
  refine CH.mono ?_; rintro e w6 ⟨rfl, hb6⟩
  have HG : Hid (Below W.heap.size W w6) := HF.out.trans (hb6.mono HF.out.size)
  clear CH hb6 HF
  go_wp2
  go_ret
  exact ⟨rfl, HG.out⟩
end Go.Proofs.YtlgkfhipobdcfabGreatDoor

/- Rows of trees by their places; rows that are the same but for places. -/
namespace Go.Proofs.YtlgkfhipobdcfabGreatDoor
open Go.RowKit

theorem Rw.nth {w : World} {P : Nat → Prop} : ∀ (r : F) (j i : Nat) {a : Option Addr} {k : Int} {t : List UInt8} {n p : Int} {ks : F}, Rw w P a i r → r.get? j = some (k, t, n, p, ks) → ∃ g a' c', a = some ⟨g, 0, none⟩ ∧ g < w.heap.size ∧ w.cell? ⟨g, (i + j) * 5, none⟩ = some (.int .i64 k) ∧ w.cell? ⟨g, (i + j) * 5 + 1, none⟩ = some (.string ⟨t.toArray⟩) ∧ w.cell? ⟨g, (i + j) * 5 + 2, none⟩ = some (.int .i64 n) ∧ w.cell? ⟨g, (i + j) * 5 + 3, none⟩ = some (.int .i64 p) ∧ w.cell? ⟨g, (i + j) * 5 + 4, none⟩ = some (.slice a' ks.len c') ∧ TN 25 w P k t n p (.slice a' ks.len c') ks
  | .nil, j, i, a, k, t, n, p, ks, _, h => by cases j <;> cases h
  | .cons k' t' n' p' ks' r, 0, i, a, k, t, n, p, ks, hR, h => by
    have h : some (k', t', n', p', ks') = some (k, t, n, p, ks) := h
    simp only [Option.some.injEq, Prod.mk.injEq] at h
    obtain ⟨rfl, rfl, rfl, rfl, rfl⟩ := h
    obtain ⟨g, a', c', e, hg, c0, c1, c2, c3, c4, hT, -⟩ := hR.next
    exact ⟨g, a', c', e, hg, c0, c1, c2, c3, c4, hT⟩
  | .cons k' t' n' p' ks' r, j + 1, i, a, k, t, n, p, ks, hR, h => by
    obtain ⟨g, a', c', e, hg, c0, c1, c2, c3, c4, hT, hr⟩ := hR.next
    have := Rw.nth r j (i + 1) hr h
    rw [show i + 1 + j = i + (j + 1) by omega] at this
    exact this
theorem F.sam_get : ∀ (f g : F) (j : Nat) {k : Int} {t : List UInt8} {n p : Int} {ks : F}, f.sam g → f.get? j = some (k, t, n, p, ks) → ∃ p' ks', g.get? j = some (k, t, n, p', ks') ∧ ks.sam ks'
  | .nil, .nil, j, _, _, _, _, _, _, h => by cases j <;> cases h
  | .nil, .cons _ _ _ _ _ _, _, _, _, _, _, _, h, _ => h.elim
  | .cons _ _ _ _ _ _, .nil, _, _, _, _, _, _, h, _ => h.elim
  | .cons k' t' n' p' ks' r, .cons k2 t2 n2 p2 ks2 r2, 0, k, t, n, p, ks, hs, h => by
    have h : some (k', t', n', p', ks') = some (k, t, n, p, ks) := h
    simp only [Option.some.injEq, Prod.mk.injEq] at h
    obtain ⟨rfl, rfl, rfl, rfl, rfl⟩ := h
    obtain ⟨⟨rfl, rfl, rfl, h4⟩, _⟩ := hs
    exact ⟨p2, ks2, rfl, h4⟩
  | .cons k' t' n' p' ks' r, .cons k2 t2 n2 p2 ks2 r2, j + 1, k, t, n, p, ks, hs, h => F.sam_get r r2 j hs.2 h
theorem F.get_app : ∀ (f g : F) (j : Nat), (f.app g).get? j = if j < f.len then f.get? j else g.get? (j - f.len)
  | .nil, g, j => by simp [F.app, F.len]
  | .cons k t n p ks r, g, 0 => by simp [F.app, F.len, F.get?]
  | .cons k t n p ks r, g, j + 1 => by
    have := F.get_app r g j
    simp only [F.app, F.len, F.get?, Nat.add_lt_add_iff_right, Nat.add_sub_add_right]
    exact this
theorem F.lk_get : ∀ (f : F) (m : Nat), f.len = m + 1 → ∃ t n p ks, f.get? m = some (f.lk, t, n, p, ks)
  | .nil, m, h => by simp [F.len] at h
  | .cons k t n p ks .nil, m, h => by
    simp only [F.len] at h
    obtain rfl : m = 0 := by omega
    exact ⟨t, n, p, ks, rfl⟩
  | .cons k t n p ks (.cons k2 t2 n2 p2 ks2 r), m, h => by
    obtain ⟨m', rfl⟩ : ∃ m', m = m' + 1 := ⟨m - 1, by simp only [F.len] at h; omega⟩
    exact F.lk_get (.cons k2 t2 n2 p2 ks2 r) m' (by simp only [F.len] at h ⊢; omega)
theorem prT_zero (l : List UInt8) (f : F) (x : Int) (h : prT l = (f, 0, x)) : x = 0 := by
  unfold prT at h
  split at h
  · next hc =>
    injection h with _ h2
    injection h2 with h2 _
    exact absurd h2 hc
  · cases hk : chk (scT l).1 with
    | ok g m =>
      rw [hk] at h
      injection h with _ h2
      injection h2 with _ h3
      exact h3.symm
    | bad p =>
      rw [hk] at h
      injection h with _ h2
      injection h2 with h2 _
      exact absurd h2 (by decide)
    | out => exact absurd hk (chk_some _)
theorem F.lk_nil (f : F) (h : f.len = 0) : f.lk = 0 := by
  cases f with
  | nil => rfl
  | cons k t n p ks r => simp [F.len] at h
end Go.Proofs.YtlgkfhipobdcfabGreatDoor

/- A chunk within do and end; an expression within parentheses (no program in it). -/
namespace Go.Proofs.YtlgkfhipobdcfabGreatDoor
open Go.RowKit

/-- A name or word at a text's head, a blank behind it. -/
theorem stp_word (w : List UInt8) (b : UInt8) (r : List UInt8) (hw : w ≠ []) (hl : letB (rnL w) = true) (hb : b.toNat = 32 ∨ b.toNat = 10) (hs : spn inNm w = w.length) (h40 : w.length ≤ 40) (hwd : wordB w = true) (hq : Lib.hasPrefix w [45, 45] = false) (hbl : ¬ (rnL w = 32 ∨ rnL w = 9 ∨ rnL w = 10 ∨ rnL w = 13)) :
    stp (w ++ b :: r) = .tok 2 w 0 w.length := by
  have hb' : b.toNat = 32 ∨ b.toNat = 10 ∨ b.toNat = 41 := hb.imp id .inl
  have h1 := stp_name w _ rfl hbl hq hl
  rw [hs, if_neg (by omega), List.take_length, if_pos hwd] at h1
  rw [stp_app b r hb' w hw (fun h => by rw [hq] at h; cases h) (fun c o e => by rw [h1] at e; cases e), h1]
theorem spn_ascii (f : Nat → Bool) : ∀ l : List UInt8, (∀ x ∈ l, x.toNat < 128 ∧ f x.toNat = true) → spn f l = l.length
  | [], _ => spn_nil f
  | c :: l, h => by
    have hc := h c (by simp)
    have ha := asc c l hc.1
    rw [spn_yes f _ (by simp) (by rw [ha.1]; exact hc.2), ha.2]
    have := spn_ascii f l (fun x hx => h x (by simp [hx]))
    simp only [List.drop_succ_cons, List.drop_zero, List.length_cons]
    omega
theorem stp_do (r : List UInt8) : stp (100 :: 111 :: 32 :: r) = .tok 2 [100, 111] 0 2 :=
  stp_word [100, 111] 32 r (by simp) (by rw [(asc 100 [111] (by decide)).1]; decide) (.inl rfl) (spn_ascii _ _ (by decide)) (by decide) (by decide) (by decide) (by rw [(asc 100 [111] (by decide)).1]; decide)
theorem stp_end : stp [101, 110, 100] = .tok 2 [101, 110, 100] 0 3 := by
  have h1 := stp_name [101, 110, 100] _ rfl (by rw [(asc 101 [110, 100] (by decide)).1]; decide) (by decide) (by rw [(asc 101 [110, 100] (by decide)).1]; decide)
  rw [spn_ascii inNm [101, 110, 100] (by decide), if_neg (by decide)] at h1
  exact h1
theorem stp_return (r : List UInt8) : stp (114 :: 101 :: 116 :: 117 :: 114 :: 110 :: 32 :: r) = .tok 2 [114, 101, 116, 117, 114, 110] 0 6 :=
  stp_word [114, 101, 116, 117, 114, 110] 32 r (by simp) (by rw [(asc 114 _ (by decide)).1]; decide) (.inl rfl) (spn_ascii _ _ (by decide)) (by decide) (by decide) (by decide) (by rw [(asc 114 _ (by decide)).1]; decide)
theorem stp_one (c : UInt8) (r : List UInt8) (h : c = 40 ∨ c = 41) : stp (c :: r) = .tok 5 [c] 0 1 := by
  have hn : c.toNat < 128 ∧ ¬ (c.toNat = 32 ∨ c.toNat = 9 ∨ c.toNat = 10 ∨ c.toNat = 13) ∧ letB c.toNat = false ∧ digB c.toNat = false ∧ ¬ (c.toNat = 39 ∨ c.toNat = 34) := by rcases h with rfl | rfl <;> decide
  have hr := (asc c r hn.1).1
  have hp : Lib.hasPrefix (c :: r) [45, 45] = false := by rcases h with rfl | rfl <;> simp [Lib.hasPrefix, List.isPrefixOf]
  have hs : sgz (c :: r) = 1 := by
    have h2 : sgn2.contains ((c :: r).take 2) = false := by
      rcases h with rfl | rfl <;> (cases r with | nil => decide | cons d r => simp [sgn2])
    have h1 : sgn1.contains ((c :: r).headD 0) = true := by
      show sgn1.contains c = true
      rcases h with rfl | rfl <;> decide
    unfold sgz
    rw [h2, h1]; rfl
  have := stp_sign (c :: r) _ hr hn.2.1 hp hn.2.2.1 hn.2.2.2.1 hn.2.2.2.2
  rw [hs] at this
  simpa using this
theorem scn_ok_shift (d : Nat) (A : List Tok) (l : List UInt8) (ts : List Tok) (h : scn l 0 [] = .ok ts) : scn l d A = .ok (A ++ ts.map (sh d)) := by
  have := scn_shift d A l.length l 0 [] (Nat.le_refl _)
  rw [h] at this
  simpa using this
theorem scn_unshift (d : Nat) (A : List Tok) (l : List UInt8) (us : List Tok) (h : scn l d A = .ok us) : ∃ ts, scn l 0 [] = .ok ts ∧ us = A ++ ts.map (sh d) := by
  have h2 := scn_shift d A l.length l 0 [] (Nat.le_refl _)
  simp only [List.map_nil, List.append_nil, Nat.zero_add] at h2
  rw [h] at h2
  cases hs : scn l 0 [] with
  | ok ts =>
    rw [hs] at h2
    injection h2 with h2
    exact ⟨ts, rfl, h2⟩
  | bad c q => rw [hs] at h2; cases h2
theorem scT_of (l : List UInt8) (ts : List Tok) (h : l.length ≤ 20000) (hs : scn l 0 [] = .ok ts) : scT l = (ts, 0, 0) := by
  rw [scT_eq l h, hs]
theorem of_scT (l : List UInt8) (h : l.length ≤ 20000) (h0 : (scT l).2.1 = 0) : scn l 0 [] = .ok (scT l).1 := by
  have e := scT_eq l h
  cases hs : scn l 0 [] with
  | ok ts => rw [hs] at e; rw [e]
  | bad c p =>
    rw [hs] at e
    rw [e] at h0
    exact absurd h0 (scn_badc l.length l 0 [] (Nat.le_refl _) c p hs).1

/-- No Function among the trees. -/
def F.nf : F → Prop
  | .nil => True
  | .cons k _ _ _ _ r => k ≠ 31 ∧ r.nf
theorem F.nf_app : ∀ f g : F, (f.app g).nf ↔ f.nf ∧ g.nf
  | .nil, g => by simp [F.app, F.nf]
  | .cons k t n p ks r, g => by simp only [F.app, F.nf, F.nf_app r g, and_assoc]
theorem F.nf_z : ∀ f : F, f.z.nf ↔ f.nf
  | .nil => Iff.rfl
  | .cons k t n p ks r => by simp only [F.z, F.nf, F.nf_z r]
/-- What a going through tells, if it tells trees, has a property. -/
def Al (Q : F → Prop) (x : PR) : Prop := ∀ f m, x = .ok f m → Q f
theorem Al.bind {Q : F → Prop} {x : PR} {k : F → List Tok → PR} (h : ∀ f m, Al Q (k f m)) : Al Q (x.bind k) := by
  cases x with
  | ok f m => exact h f m
  | bad p => exact fun f m h => by cases h
  | out => exact fun f m h => by cases h
theorem Al.need {Q : F → Prop} {c : Nat} {l : List Tok} {k : List Tok → PR} (h : ∀ l, Al Q (k l)) : Al Q (need c l k) := by
  unfold Go.Proofs.YtlgkfhipobdcfabGreatDoor.need; split
  · exact h _
  · exact fun f m h => by cases h
theorem Al.nam {Q : F → Prop} {q : Int} {l : List Tok} {k : F → List Tok → PR} (h : ∀ f l, Al Q (k f l)) : Al Q (nam q l k) := by
  unfold Go.Proofs.YtlgkfhipobdcfabGreatDoor.nam; split
  · exact h _ _
  · exact fun f m h => by cases h
theorem Al.ok {Q : F → Prop} {f : F} {m : List Tok} (h : Q f) : Al Q (.ok f m) := fun f' m' e => by injection e with e _; rw [← e]; exact h
theorem fun_kind (rec : J → List Tok → PR) (l : List Tok) (f : F) (m : List Tok) (h : funP rec l = .ok f m) : f.kind = 31 ∧ f ≠ .nil :=
  (Al.nam fun _ _ => .need fun _ => .bind fun _ _ => .need fun _ => .bind fun _ _ => .need fun _ => .ok ⟨rfl, fun x => by cases x⟩ : Al (fun f => f.kind = 31 ∧ f ≠ .nil) (funP rec l)) f m h
theorem bk_plain : ∀ (n : Nat) (a : F) (l : List Tok) (f : F) (m : List Tok), pr n (.bk true a) l = .ok f m → f.nf → pr n (.bk false a) l = .ok f m
  | 0, _, _, _, _, h, _ => by cases h
  | n + 1, a, l, f, m, h, hf => by
    rw [pr_succ] at h ⊢
    simp only [stp'] at h ⊢
    split at h
    · next h1 => rw [if_pos h1]; exact bk_plain n a _ f m h hf
    · next h1 =>
      rw [if_neg h1]
      split at h
      · next h2 => rw [if_pos h2]; exact h
      · next h2 =>
        rw [if_neg h2, if_neg (fun x => by cases x.1)]
        split at h
        · next h3 =>
          exfalso
          cases hx : funP (pr n) l with
          | ok f' m' =>
            rw [hx] at h
            have h : pr n (.bk true (a.app f')) m' = .ok f m := h
            have hacc := bk_acc n true (a.app f') .nil m'
            rw [F.app_nil, h] at hacc
            cases hy : pr n (.bk true .nil) m' with
            | ok g m2 =>
              rw [hy] at hacc
              injection hacc with hacc _
              rw [hacc, F.nf_app, F.nf_app] at hf
              obtain ⟨hk, hne⟩ := fun_kind _ _ _ _ hx
              cases f' with
              | nil => exact hne rfl
              | cons k t n p ks r => exact hf.1.2.1 hk
            | bad p => rw [hy] at hacc; cases hacc
            | out => rw [hy] at hacc; cases hacc
          | bad p => rw [hx] at h; cases h
          | out => rw [hx] at h; cases h
        · next h3 =>
          split at h
          · next h4 => rw [if_pos h4]; exact h
          · next h4 =>
            rw [if_neg h4]
            cases hx : pr n .stat l with
            | ok f' m' =>
              rw [hx] at h
              exact bk_plain n _ m' f m h hf
            | bad p => rw [hx] at h; cases h
            | out => rw [hx] at h; cases h

/-- A chunk's trees, over tokens without places. -/
theorem chunk_z (ts body : List Tok) (e : Tok) (f : F) (m : List Tok) (ht : ts = body ++ [e]) (hG : E1 ts) (h : chk ts = .ok f m) : ∃ A, f = one 20 [] 0 (ha ts) A ∧ cls (tz e) = 56 ∧ pr (8 * ts.length + 3) (.bk true .nil) (lz body ++ [tz e]) = .ok A.z [tz e] := by
  obtain ⟨A, e1, a2, a3⟩ := chk_bk _ _ _ h
  obtain ⟨ea, rfl, ka⟩ := (pr_e1 a3 hG).last a2
  have he6 : e.k = 6 := by
    obtain ⟨pre, e', h1, h2, _⟩ := hG
    rw [ht] at h1
    have := congrArg List.getLast? h1
    simp at this
    rw [this]; exact h2
  have cE : cls (tz e) = 56 := cls_of_kind _ 6 he6 (by decide)
  refine ⟨A, e1, cE, ?_⟩
  have hz := pr_z (8 * ts.length + 3) (.bk true .nil) ts
  rw [a3] at hz
  have : lz ts = lz body ++ [tz e] := by rw [ht, lz_app]; rfl
  rw [this] at hz
  have hz : pr (8 * ts.length + 3) (.bk true .nil) (lz body ++ [tz e]) = .ok A.z [tz ea] := hz
  obtain ⟨u, h1, _⟩ := x_all (v := [⟨5, [59], 0, (tz e).p⟩]) cE (.inl (show cls ⟨5, [59], 0, (tz e).p⟩ = 1 by unfold cls; rfl)) rfl (8 * ts.length + 3) (.bk true .nil) (lz body) _ _ hz
  have : tz ea = tz e := by
    cases u with
    | nil => injection h1
    | cons t u => have := congrArg List.length h1; simp at this
  rw [hz, this]

/-- The text within do and end. -/
theorem prT_wrap (s : List UInt8) (hs : s.length ≤ 19000) {pa : Int} {A : F} (hA : prT s = (one 20 [] 0 pa A, 0, 0)) (hf : A.nf) :
    ∃ p1 p2 p3 K, prT ((100 :: 111 :: 32 :: s) ++ [10, 101, 110, 100]) = (one 20 [] 0 p1 (one 28 [] 0 p2 (one 20 [] 0 p3 K)), 0, 0) ∧ K.sam A := by
  obtain ⟨a0, am, a1⟩ := prT_chk _ _ hA
  have hG := GT.e1 _ _ (scT_ok s a0).1
  have hsc := of_scT s (by omega) a0
  obtain ⟨body, b1, b2⟩ := scn_app 10 [101, 110, 100] (.inr (.inl rfl)) s.length s 0 [] _ (Nat.le_refl _) (NC.nl s) hsc
  simp only [List.nil_append, Nat.zero_add] at b1 b2
  obtain ⟨A', e1, cE, hpr⟩ := chunk_z _ body _ _ _ b1 hG a1
  have eA : A' = A := by injection e1 with _ _ _ _ e _; exact e.symm
  subst eA
  obtain ⟨E, hE⟩ : ∃ E : Tok, E = ⟨6, [], 0, 0⟩ := ⟨_, rfl⟩
  rw [show tz ⟨6, [], 0, s.length⟩ = E from hE.symm] at hpr cE
  have hpl := bk_plain _ _ _ _ _ hpr ((F.nf_z A').2 hf)
  obtain ⟨v, hv⟩ : ∃ v : List Tok, v = [⟨2, [101, 110, 100], 0, 0⟩, E] := ⟨_, rfl⟩
  have cv : hc v = 4 := by rw [hv]; show cls _ = 4; decide
  have pE : ha v = E.p := by rw [hv, hE]; rfl
  obtain ⟨N, hN⟩ : ∃ N, N = 8 * (scT s).1.length + 3 := ⟨_, rfl⟩
  rw [← hN] at hpl
  have hx : pr N (.bk false .nil) (lz body ++ v) = .ok A'.z v := by
    obtain ⟨u, h1, h2⟩ := x_all cE (.inr (.inl cv)) pE N (.bk false .nil) (lz body) _ _ hpl
    have : u = [] := by
      cases u with
      | nil => rfl
      | cons t u => have := congrArg List.length h1; simp at this
    rw [this] at h2
    exact h2 (.inl cv)
  -- the tokens
  have hend : scn (10 :: [101, 110, 100]) s.length body = .ok (body ++ [⟨2, [101, 110, 100], 0, s.length + 1⟩, ⟨6, [], 0, s.length + 4⟩]) := by
    rw [gap_blank 10 _ _ _ (by decide), scn_tok (by simp) stp_end]
    show scn [] _ _ = _
    rw [scn_nil]
    simp
  have hall : scn ((100 :: 111 :: 32 :: s) ++ [10, 101, 110, 100]) 0 [] = .ok (⟨2, [100, 111], 0, 0⟩ :: (body ++ [(⟨2, [101, 110, 100], 0, s.length + 1⟩ : Tok), ⟨6, [], 0, s.length + 4⟩]).map (sh 3)) := by
    show scn (100 :: 111 :: 32 :: (s ++ [10, 101, 110, 100])) 0 [] = _
    rw [scn_tok (by simp) (stp_do _)]
    show scn (32 :: (s ++ [10, 101, 110, 100])) 2 _ = _
    rw [gap_blank 32 _ _ _ (by decide), scn_ok_shift 3 _ _ _ (b2.trans hend)]
    rfl
  have hsT := scT_of _ _ (by simp only [List.length_append, List.length_cons, List.length_nil]; omega) hall
  obtain ⟨T, hT⟩ : ∃ T, T = (⟨2, [100, 111], 0, 0⟩ : Tok) :: (body ++ [(⟨2, [101, 110, 100], 0, s.length + 1⟩ : Tok), ⟨6, [], 0, s.length + 4⟩]).map (sh 3) := ⟨_, rfl⟩
  rw [← hT] at hsT
  have hlz : lz T = ⟨2, [100, 111], 0, 0⟩ :: (lz body ++ v) := by
    rw [hT, hv, hE]
    show tz _ :: lz ((body ++ [(⟨2, [101, 110, 100], 0, s.length + 1⟩ : Tok), ⟨6, [], 0, s.length + 4⟩]).map (sh 3)) = _
    rw [lz_sh, lz_app]
    rfl
  have hfin : pr (N + 4) (.bk true .nil) (lz T) = .ok (one 28 [] 0 0 (one 20 [] 0 (ha (lz body ++ v)) A'.z)) [E] := by
    have d7 : hc (lz T) = 7 := by rw [hlz]; show cls _ = 7; decide
    have hst : pr (N + 3) .stat (lz T) = .ok (one 28 [] 0 0 (one 20 [] 0 (ha (lz body ++ v)) A'.z)) [E] := by
      rw [show N + 3 = (N + 2) + 1 from rfl, pr_succ]
      simp only [stp']
      rw [if_pos d7]
      unfold bodyP need
      rw [if_pos d7, hlz]
      show (pr (N + 2) (.blk false) (lz body ++ v)).bind _ = _
      rw [show N + 2 = (N + 1) + 1 from rfl, pr_succ]
      simp only [stp']
      have h1 : pr (N + 1) (.bk false .nil) (lz body ++ v) = .ok A'.z v := by
        rcases pr_le1 N (.bk false .nil) (lz body ++ v) with h | h
        · rw [hx] at h; cases h
        · rw [← h, hx]
      rw [h1]
      simp only [PR.bind]
      rw [if_pos cv, hv]
      rfl
    rw [pr_succ]
    simp only [stp']
    rw [if_neg (by rw [d7]; decide), if_neg (by rw [d7]; decide), if_neg (by rw [d7]; exact fun x => absurd x.2 (by decide)), if_neg (by unfold closes; rw [d7]; decide), hst]
    simp only [PR.bind, F.app]
    rw [show N + 3 = (N + 2) + 1 from rfl, pr_succ]
    have e56 : hc [E] = 56 := cE
    simp only [stp']
    rw [if_neg (by rw [e56]; decide), if_neg (by rw [e56]; decide), if_neg (by rw [e56]; exact fun x => absurd x.2 (by decide)), if_pos (by unfold closes; rw [e56]; rfl)]
  have hzT := pr_z (N + 4) (.bk true .nil) T
  rw [show J.z (.bk true .nil) = .bk true .nil from rfl, hfin] at hzT
  cases hp : pr (N + 4) (.bk true .nil) T with
  | bad p => rw [hp] at hzT; cases hzT
  | out => rw [hp] at hzT; cases hzT
  | ok C m =>
    rw [hp] at hzT
    injection hzT with h1 h2
    have hm : hc m = 56 := by rw [← hc_z, ← h2]; exact cE
    cases C with
    | nil => cases h1
    | cons k t n p ks r =>
      simp only [F.z, one, F.cons.injEq] at h1
      obtain ⟨rfl, rfl, rfl, -, h1, hr⟩ := h1
      cases r with
      | cons _ _ _ _ _ _ => cases hr
      | nil =>
        cases ks with
        | nil => cases h1
        | cons k2 t2 n2 p2 ks2 r2 =>
          simp only [F.z, F.cons.injEq] at h1
          obtain ⟨rfl, rfl, rfl, -, h1, hr2⟩ := h1
          cases r2 with
          | cons _ _ _ _ _ _ => cases hr2
          | nil =>
            refine ⟨ha T, p, p2, ks2, ?_, F.sam_of_z _ _ h1.symm⟩
            unfold prT
            rw [hsT]
            simp only [ne_eq, not_true_eq_false, if_false]
            rw [bk_chk T _ _ m hp hm]
            rfl
end Go.Proofs.YtlgkfhipobdcfabGreatDoor

/- An expression within parentheses (no program in it). -/
namespace Go.Proofs.YtlgkfhipobdcfabGreatDoor
open Go.RowKit

theorem hgt_sam : ∀ f g : F, f.sam g → f.hgt = g.hgt
  | .nil, .nil, _ => rfl
  | .nil, .cons _ _ _ _ _ _, h => h.elim
  | .cons _ _ _ _ _ _, .nil, h => h.elim
  | .cons _ _ _ _ ks r, .cons _ _ _ _ ks' r', h => by simp only [F.hgt]; rw [hgt_sam ks ks' h.1.2.2.2, hgt_sam r r' h.2]
theorem siz_sam : ∀ f g : F, f.sam g → f.siz = g.siz
  | .nil, .nil, _ => rfl
  | .nil, .cons _ _ _ _ _ _, h => h.elim
  | .cons _ _ _ _ _ _, .nil, h => h.elim
  | .cons _ _ _ _ ks r, .cons _ _ _ _ ks' r', h => by simp only [F.siz]; rw [siz_sam ks ks' h.1.2.2.2, siz_sam r r' h.2]
theorem ex_len {n a : Nat} {l m : List Tok} {f : F} (h : pr n (.ex a) l = .ok f m) : f.len = 1 := sz_all n (.ex a) l f m h
/-- A list's trees: what is there, then at least one; if it is one, the list is an expression. -/
theorem lst_len : ∀ (n : Nat) (a : F) (l : List Tok) (f : F) (m : List Tok), pr n (.lst a) l = .ok f m → a.len + 1 ≤ f.len ∧ (a = .nil → f.len = 1 → ∃ n', pr n' (.ex 0) l = .ok f m)
  | 0, _, _, _, _, h => by cases h
  | n + 1, a, l, f, m, h => by
    rw [pr_succ] at h
    simp only [stp'] at h
    cases hx : pr n (.ex 0) l with
    | bad p => rw [hx] at h; cases h
    | out => rw [hx] at h; cases h
    | ok g m1 =>
      have hg := ex_len hx
      rw [hx] at h
      simp only [PR.bind] at h
      split at h
      · obtain ⟨h1, -⟩ := lst_len n _ _ _ _ h
        rw [F.len_app] at h1
        exact ⟨by omega, fun _ hf => by omega⟩
      · injection h with h1 h2
        refine ⟨by rw [← h1, F.len_app]; omega, fun ha _ => ⟨n, ?_⟩⟩
        rw [ha] at h1
        rw [hx, ← h1, ← h2]; rfl
/-- No token of the class 1. -/
def NS (l : List Tok) : Prop := ∀ t ∈ l, cls t ≠ 1
theorem NS.tl (l : List Tok) (h : NS l) (_ : hc l ≠ 56) : NS l.tail := fun t ht => h t (List.mem_of_mem_tail ht)
theorem NS.hc {l : List Tok} (h : NS l) : hc l ≠ 1 := by
  cases l with
  | nil => decide
  | cons t l => exact h t (by simp)
theorem GT.ns {s : List UInt8} (hs : ∀ x ∈ s, x ≠ 59) : ∀ (r : List Tok) (a : Nat), GT s a r → NS r
  | [], _, h => h.elim
  | [t], _, h => fun x hx => by
    have : x = t := by simpa using hx
    subst this
    rw [cls_of_kind x 6 h.1 (by decide)]; decide
  | t :: u :: r, a, h => fun x hx => by
    rcases List.mem_cons.1 hx with rfl | hx
    · intro h1
      obtain ⟨hk, ht⟩ := cls_word x 1 h1 (by decide) (by decide)
      have := (h.1.tx (by omega)).2.2
      rw [ht] at this
      have hm : (59 : UInt8) ∈ (s.drop x.p).take (wds 1).length := by rw [this]; simp [wds]
      exact hs 59 (List.mem_of_mem_drop (List.mem_of_mem_take hm)) rfl
    · exact GT.ns hs (u :: r) _ h.2 x hx
theorem NS.z {l : List Tok} (h : NS l) : NS (lz l) := fun t ht => by
  obtain ⟨x, hx, rfl⟩ := List.mem_map.1 ht
  exact h x hx
abbrev retS : List UInt8 := [114, 101, 116, 117, 114, 110]
/-- The text within parentheses. -/
theorem prT_paren (s : List UInt8) (hs : s.length ≤ 9000) (h59 : ∀ x ∈ s, x ≠ 59) (h45 : ∀ p, Lib.hasPrefix (s.drop p) [45, 45] = false) {pa p0 n0 : Int} {t0 : List UInt8} {e : F} (hA : prT (retS ++ 32 :: s) = (one 20 [] 0 pa (one 30 t0 n0 p0 e), 0, 0)) (he : e.len = 1) :
    ∃ p1 p2 p3 e', prT (retS ++ 32 :: 40 :: (s ++ [41])) = (one 20 [] 0 p1 (one 30 [] 0 p2 (one 9 [] 0 p3 e')), 0, 0) ∧ e'.sam e := by
  obtain ⟨a0, am, a1⟩ := prT_chk _ _ hA
  have hG := GT.e1 _ _ (scT_ok (retS ++ 32 :: s) a0).1
  have hsc := of_scT (retS ++ 32 :: s) (by simp only [List.length_append, List.length_cons, List.length_nil]; omega) a0
  have hT0 : ∃ ts, scn s 0 [] = .ok ts ∧ (scT (retS ++ 32 :: s)).1 = (⟨2, retS, 0, 0⟩ : Tok) :: ts.map (sh 7) := by
    have h : scn (114 :: 101 :: 116 :: 117 :: 114 :: 110 :: 32 :: s) 0 [] = _ := hsc
    rw [scn_tok (by simp) (stp_return s)] at h
    have h : scn (32 :: s) 6 [⟨2, retS, 0, 0⟩] = _ := h
    rw [gap_blank 32 _ _ _ (by decide)] at h
    obtain ⟨ts, h1, h2⟩ := scn_unshift 7 _ s _ h
    exact ⟨ts, h1, h2⟩
  obtain ⟨ts, hts, hT0⟩ := hT0
  obtain ⟨body, b1, b2⟩ := scn_app 41 [] (.inr (.inr rfl)) s.length s 0 [] ts (Nat.le_refl _) (fun p hp => by rw [h45 p] at hp; cases hp) hts
  simp only [List.nil_append, Nat.zero_add] at b1 b2
  have hGs : GT s 0 ts := by
    obtain ⟨bd, h1, h2⟩ := scn_GT s s.length 0 [] ts (by omega) (by omega) (by simpa using hts)
    rw [h1]; exact h2 0 (Nat.le_refl _)
  have hns : NS ts := GT.ns h59 ts 0 hGs
  obtain ⟨E, hE⟩ : ∃ E : Tok, E = ⟨6, [], 0, 0⟩ := ⟨_, rfl⟩
  obtain ⟨R, hR⟩ : ∃ R : Tok, R = ⟨2, retS, 0, 0⟩ := ⟨_, rfl⟩
  have cE : cls E = 56 := by rw [hE]; rfl
  have cR : cls R = 2 := by rw [hR]; decide
  have hlz0 : lz (scT (retS ++ 32 :: s)).1 = R :: (lz body ++ [E]) := by
    rw [hT0]
    show tz _ :: lz (ts.map (sh 7)) = _
    rw [lz_sh, b1, lz_app, hR, hE]
    rfl
  -- the chunk is one return with one expression
  obtain ⟨A, e1, a2, a3⟩ := chk_bk _ _ _ a1
  have eA : A = one 30 t0 n0 p0 e := by injection e1 with _ _ _ _ x _; exact x.symm
  subst eA
  have hz := pr_z (8 * (scT (retS ++ 32 :: s)).1.length + 3) (.bk true .nil) (scT (retS ++ 32 :: s)).1
  rw [a3, hlz0, show 8 * (scT (retS ++ 32 :: s)).1.length + 3 = (8 * (scT (retS ++ 32 :: s)).1.length + 2) + 1 from rfl] at hz
  obtain ⟨N, hN⟩ : ∃ N, N = 8 * (scT (retS ++ 32 :: s)).1.length + 2 := ⟨_, rfl⟩
  rw [← hN, show J.z (.bk true .nil) = .bk true .nil from rfl, pr_succ] at hz
  simp only [stp'] at hz
  have c2 : hc (R :: (lz body ++ [E])) = 2 := cR
  rw [if_neg (by rw [c2]; decide), if_pos c2] at hz
  have hNSz : NS (lz body ++ [E]) := by
    have := hns.z
    rw [b1, lz_app] at this
    rw [hE]; exact this
  have hlast : ∃ n', pr n' (.ex 0) (lz body ++ [E]) = .ok e.z [E] := by
    unfold lastP at hz
    rw [show (R :: (lz body ++ [E])).tail = lz body ++ [E] from rfl, if_neg hNSz.hc] at hz
    split at hz
    · exfalso
      simp only [PR.bind, F.app, PR.z, one_z] at hz
      injection hz with hz _
      have hz : F.nil = e.z := by injection hz
      have := congrArg F.len hz
      rw [F.z_len, he] at this
      cases this
    · cases hx : pr N (.lst .nil) (lz body ++ [E]) with
      | bad p => rw [hx] at hz; cases hz
      | out => rw [hx] at hz; cases hz
      | ok f m1 =>
        rw [hx] at hz
        have hm1 : hc m1 ≠ 1 := (pr_keep NS.tl hx hNSz).hc
        simp only [PR.bind, F.app, PR.z, one_z] at hz
        rw [if_neg hm1] at hz
        injection hz with hz hm
        have hf : f = e.z := by injection hz
        have hfl : f.len = 1 := by rw [hf, F.z_len, he]
        obtain ⟨n', hn'⟩ := (lst_len N .nil _ f m1 hx).2 rfl hfl
        refine ⟨n', ?_⟩
        rw [hn', hf]
        obtain ⟨u, h1, _⟩ := x_all (v := [⟨5, [59], 0, E.p⟩]) cE (.inl (show cls ⟨5, [59], 0, E.p⟩ = 1 by unfold cls; rfl)) rfl n' (.ex 0) (lz body) _ _ hn'
        have h56 : hc m1 = 56 := by rw [hm, hc_z]; exact a2
        have hE1 : E1 (lz body ++ [E]) := by
          obtain ⟨pre, e', p1, p2, p3⟩ := GT.e1 ts 0 hGs
          rw [b1] at p1
          obtain ⟨q1, q2⟩ := List.append_inj' p1 rfl
          refine ⟨lz body, E, rfl, by rw [hE], fun t ht => ?_⟩
          obtain ⟨x, hx, rfl⟩ := List.mem_map.1 ht
          exact p3 x (q1 ▸ hx)
        obtain ⟨e2, h2, _⟩ := (pr_e1 hx hE1).last h56
        rw [h2] at h1 ⊢
        cases u with
        | nil => injection h1 with h1; rw [h1]
        | cons t u => have := congrArg List.length h1; simp at this
  obtain ⟨n', hn'⟩ := hlast
  obtain ⟨v, hv⟩ : ∃ v : List Tok, v = [⟨5, [41], 0, 0⟩, E] := ⟨_, rfl⟩
  have cv : hc v = 18 := by rw [hv]; show cls _ = 18; decide
  have pE : ha v = E.p := by rw [hv, hE]; rfl
  have hx : pr n' (.ex 0) (lz body ++ v) = .ok e.z v := by
    obtain ⟨u, h1, h2⟩ := x_all cE (.inr (.inr cv)) pE n' (.ex 0) (lz body) _ _ hn'
    have : u = [] := by
      cases u with
      | nil => rfl
      | cons t u => have := congrArg List.length h1; simp at this
    rw [this] at h2
    exact h2 (.inl trivial)
  -- the tokens
  have hend : scn [41] s.length body = .ok (body ++ [⟨5, [41], 0, s.length⟩, ⟨6, [], 0, s.length + 1⟩]) := by
    rw [scn_tok (by simp) (stp_one 41 [] (.inr rfl))]
    show scn [] _ _ = _
    rw [scn_nil]
    simp
  obtain ⟨T, hT⟩ : ∃ T, T = (⟨2, retS, 0, 0⟩ : Tok) :: ⟨5, [40], 0, 7⟩ :: (body ++ [(⟨5, [41], 0, s.length⟩ : Tok), ⟨6, [], 0, s.length + 1⟩]).map (sh 8) := ⟨_, rfl⟩
  have hall : scn (retS ++ 32 :: 40 :: (s ++ [41])) 0 [] = .ok T := by
    show scn (114 :: 101 :: 116 :: 117 :: 114 :: 110 :: 32 :: 40 :: (s ++ [41])) 0 [] = _
    rw [scn_tok (by simp) (stp_return _)]
    show scn (32 :: 40 :: (s ++ [41])) 6 _ = _
    rw [gap_blank 32 _ _ _ (by decide), scn_tok (by simp) (stp_one 40 _ (.inl rfl))]
    show scn (s ++ [41]) 8 _ = _
    rw [scn_ok_shift 8 _ _ _ (b2.trans hend), hT]
    rfl
  have hsT := scT_of _ _ (by simp only [List.length_append, List.length_cons, List.length_nil]; omega) hall
  have hlz : lz T = R :: ⟨5, [40], 0, 0⟩ :: (lz body ++ v) := by
    rw [hT, hv, hE, hR]
    show tz _ :: tz _ :: lz ((body ++ [(⟨5, [41], 0, s.length⟩ : Tok), ⟨6, [], 0, s.length + 1⟩]).map (sh 8)) = _
    rw [lz_sh, lz_app]
    rfl
  obtain ⟨P, hP⟩ : ∃ P : Tok, P = ⟨5, [40], 0, 0⟩ := ⟨_, rfl⟩
  rw [← hP] at hlz
  have cP : cls P = 17 := by rw [hP]; decide
  have e56 : hc [E] = 56 := cE
  have q1 : pr (n' + 1) .suf (P :: (lz body ++ v)) = pr n' (.sufl (one 9 [] 0 0 e.z)) [E] := by
    rw [pr_succ]
    simp only [stp', stemP]
    rw [if_pos (show hc (P :: (lz body ++ v)) = 17 from cP)]
    show ((pr n' (.ex 0) (lz body ++ v)).bind _).bind _ = _
    rw [hx]
    simp only [PR.bind, need]
    rw [if_pos cv, hv]
    show pr n' (.sufl (one 9 [] 0 P.p e.z)) [E] = _
    rw [hP]; rfl
  have hn0 : ∃ k, n' = k + 1 := by
    cases n' with
    | zero => cases hx
    | succ k => exact ⟨k, rfl⟩
  obtain ⟨k, rfl⟩ := hn0
  have q2 : pr (k + 1 + 1) .suf (P :: (lz body ++ v)) = .ok (one 9 [] 0 0 e.z) [E] := by
    rw [q1, pr_succ]
    simp only [stp']
    rw [if_neg (by rw [e56]; decide), if_neg (by rw [e56]; decide), if_neg (by rw [e56]; decide)]
  have q3 : pr (k + 3) .opd (P :: (lz body ++ v)) = .ok (one 9 [] 0 0 e.z) [E] := by
    rw [pr_succ]
    simp only [stp']
    rw [if_pos (show hc (P :: (lz body ++ v)) = 51 ∨ hc (P :: (lz body ++ v)) = 17 from .inr cP)]
    exact q2
  have q4 : pr (k + 4) (.ex 0) (P :: (lz body ++ v)) = .ok (one 9 [] 0 0 e.z) [E] := by
    rw [pr_succ]
    simp only [stp']
    rw [q3]
    simp only [PR.bind]
    rw [pr_succ]
    simp only [stp']
    rw [if_neg (by rw [e56]; decide)]
  have q5 : pr (k + 5) (.lst .nil) (P :: (lz body ++ v)) = .ok (one 9 [] 0 0 e.z) [E] := by
    rw [pr_succ]
    simp only [stp']
    rw [q4]
    simp only [PR.bind]
    rw [if_neg (by rw [e56]; decide)]
    rfl
  have hfin : pr (k + 6) (.bk true .nil) (lz T) = .ok (one 30 [] 0 0 (one 9 [] 0 0 e.z)) [E] := by
    have d2 : hc (lz T) = 2 := by rw [hlz]; exact cR
    rw [pr_succ]
    simp only [stp']
    rw [if_neg (by rw [d2]; decide), if_pos d2]
    unfold lastP
    rw [hlz]
    rw [show (R :: P :: (lz body ++ v)).tail = P :: (lz body ++ v) from rfl]
    have c17 : hc (P :: (lz body ++ v)) = 17 := cP
    rw [if_neg (by rw [c17]; decide), if_neg (by unfold closes; rw [c17]; decide), q5]
    simp only [PR.bind]
    rw [if_neg (by rw [e56]; decide), hR]
    rfl
  have hzT := pr_z (k + 6) (.bk true .nil) T
  rw [show J.z (.bk true .nil) = .bk true .nil from rfl, hfin] at hzT
  cases hp : pr (k + 6) (.bk true .nil) T with
  | bad p => rw [hp] at hzT; cases hzT
  | out => rw [hp] at hzT; cases hzT
  | ok C m =>
    rw [hp] at hzT
    injection hzT with h1 h2
    have hm : hc m = 56 := by rw [← hc_z, ← h2]; exact cE
    cases C with
    | nil => cases h1
    | cons k2 t n p ks r =>
      simp only [F.z, one, F.cons.injEq] at h1
      obtain ⟨rfl, rfl, rfl, -, h1, hr⟩ := h1
      cases r with
      | cons _ _ _ _ _ _ => cases hr
      | nil =>
        cases ks with
        | nil => cases h1
        | cons k2 t2 n2 p2 ks2 r2 =>
          simp only [F.z, F.cons.injEq] at h1
          obtain ⟨rfl, rfl, rfl, -, h1, hr2⟩ := h1
          cases r2 with
          | cons _ _ _ _ _ _ => cases hr2
          | nil =>
            refine ⟨ha T, p, p2, ks2, ?_, F.sam_of_z _ _ h1.symm⟩
            unfold prT
            rw [hsT]
            simp only [ne_eq, not_true_eq_false, if_false]
            rw [bk_chk T _ _ m hp hm]
            rfl
end Go.Proofs.YtlgkfhipobdcfabGreatDoor
