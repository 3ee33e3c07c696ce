/- The grammar as a plain function of the tokens. -/
import Derived.Test.YtmejlldabdjpjaaGreatCg00
import Derived.Test.YtmejlldabdjpjaaGreatRows
import Derived.WalkKit
import Derived.WalkSpells
import Derived.WalkLawsBesides
import Derived.WalkSmall
import Derived.Lib.OthersKept
import Derived.Deep.LoopGhost
import Derived.Lib.IndexAny
import Derived.Lib.ItoaNum
import Derived.Lib.IndexLaws
import Derived.Laws.BytesArg
namespace Go.Proofs.YtmejlldabdjpjaaGreat
/-- A row of trees: the first one's kind, text, number, place and kids, then the trees behind it. -/
inductive F
  | nil
  | cons (k : Int) (t : List UInt8) (n p : Int) (ks r : F)
def F.app : F → F → F
  | .nil, g => g
  | .cons k t n p ks r, g => .cons k t n p ks (r.app g)
def F.len : F → Nat
  | .nil => 0
  | .cons _ _ _ _ _ r => r.len + 1
def F.at : F → Int
  | .nil => 0
  | .cons _ _ _ p _ _ => p
def F.kind : F → Int
  | .nil => 0
  | .cons k _ _ _ _ _ => k
def F.text : F → List UInt8
  | .nil => []
  | .cons _ t _ _ _ _ => t
def one (k : Int) (t : List UInt8) (n p : Int) (ks : F) : F := .cons k t n p ks .nil
theorem F.len_app : ∀ f g : F, (f.app g).len = f.len + g.len
  | .nil, g => by simp [F.app, F.len]
  | .cons k t n p ks r, g => by simp only [F.app, F.len, F.len_app r g]; omega
/-- The words and signs by their numbers. -/
def wds : Nat → List UInt8
  | 1 => [59] | 2 => [114, 101, 116, 117, 114, 110] | 3 => [102, 117, 110, 99, 116, 105, 111, 110] | 4 => [101, 110, 100] | 5 => [101, 108, 115, 101]
  | 6 => [101, 108, 115, 101, 105, 102] | 7 => [100, 111] | 8 => [119, 104, 105, 108, 101] | 9 => [105, 102] | 10 => [102, 111, 114]
  | 11 => [108, 111, 99, 97, 108] | 12 => [98, 114, 101, 97, 107] | 13 => [116, 104, 101, 110] | 14 => [61] | 15 => [44]
  | 16 => [105, 110] | 17 => [40] | 18 => [41] | 19 => [91] | 20 => [93]
  | 21 => [46] | 22 => [123] | 23 => [125] | 24 => [110, 111, 116] | 25 => [35]
  | 26 => [45] | 27 => [110, 105, 108] | 28 => [116, 114, 117, 101] | 29 => [102, 97, 108, 115, 101] | 30 => [111, 114]
  | 31 => [97, 110, 100] | 32 => [60] | 33 => [62] | 34 => [60, 61] | 35 => [62, 61]
  | 36 => [126, 61] | 37 => [61, 61] | 38 => [46, 46] | 39 => [43] | 40 => [42]
  | 41 => [47, 47] | 42 => [37] | _ => []
/-- The number of a word or sign; 0: none of them. -/
def code (t : List UInt8) : Nat := ((List.range 42).find? fun i => wds (i + 1) == t).elim 0 (· + 1)
/-- Is it that word or sign? -/
def rd (t : Tok) (w : List UInt8) : Bool := (t.k == 2 || t.k == 5) && t.t == w
/-- A token's class: a word's or sign's number, else 50 and its kind. -/
def cls (t : Tok) : Nat := if t.k = 2 ∨ t.k = 5 then code t.t else if t.k = 1 then 51 else if t.k = 3 then 53 else if t.k = 4 then 54 else if t.k = 6 then 56 else 50
theorem code_wds' : ∀ c ∈ List.range 43, 1 ≤ c → code (wds c) = c := by decide
theorem code_wds (c : Nat) (h : 1 ≤ c) (h2 : c ≤ 42) : code (wds c) = c := code_wds' c (List.mem_range.2 (by omega)) h
theorem code_inv (t : List UInt8) (c : Nat) (h : code t = c) (hc : c ≠ 0) : wds c = t ∧ c ≤ 42 := by
  unfold code at h
  cases hf : (List.range 42).find? fun i => wds (i + 1) == t with
  | none => rw [hf] at h; exact absurd h.symm hc
  | some i =>
    rw [hf] at h
    have h1 := List.find?_some hf
    have h2 := List.mem_of_find?_eq_some hf
    simp at h1 h2 h
    subst h
    exact ⟨h1, by omega⟩
theorem code_le (t : List UInt8) : code t ≤ 42 := by
  by_cases h : code t = 0
  · omega
  · exact (code_inv t _ rfl h).2
theorem rd_cls (t : Tok) (c : Nat) (h1 : 1 ≤ c) (h2 : c ≤ 42) : rd t (wds c) = decide (cls t = c) := by
  unfold rd cls
  by_cases hk : t.k = 2 ∨ t.k = 5
  · rw [if_pos hk]
    have : (t.k == 2 || t.k == 5) = true := by simpa using hk
    rw [this, Bool.true_and]
    by_cases ht : t.t = wds c
    · rw [ht, code_wds c h1 h2]; simp
    · have : ¬ code t.t = c := fun h => ht (code_inv _ _ h (by omega)).1.symm
      simp [ht, this]
  · rw [if_neg hk]
    have h0 : (t.k == 2 || t.k == 5) = false := by simpa using hk
    rw [h0, Bool.false_and]
    symm
    simp only [decide_eq_false_iff_not]
    split
    · omega
    · split
      · omega
      · split
        · omega
        · split <;> omega
theorem cls_kind (t : Tok) (c : Nat) (h : cls t = c) (h1 : 51 ≤ c) : t.k = c - 50 := by
  unfold cls at h
  have := code_le t.t
  split at h
  · omega
  · split at h
    · omega
    · split at h
      · omega
      · split at h
        · omega
        · split at h <;> omega
theorem cls_of_kind (t : Tok) (c : Nat) (h : t.k = c) (hc : c = 1 ∨ c = 3 ∨ c = 4 ∨ c = 6) : cls t = 50 + c := by
  unfold cls
  rcases hc with rfl | rfl | rfl | rfl <;> simp [h]
/-- How much an operator binds. -/
def bnd (c : Nat) : Nat :=
  if c = 30 then 1 else if c = 31 then 2 else if 32 ≤ c ∧ c ≤ 37 then 3 else if c = 38 then 4 else if c = 39 ∨ c = 26 then 5 else if 40 ≤ c ∧ c ≤ 42 then 6 else 0
/-- What a going through tells: trees and the tokens left, a fault's place, or that the number of steps was too small. -/
inductive PR
  | ok (f : F) (l : List Tok)
  | bad (p : Int)
  | out
def PR.bind (x : PR) (k : F → List Tok → PR) : PR :=
  match x with
  | .ok f l => k f l
  | .bad p => .bad p
  | .out => .out
/-- What is to be gone through. -/
inductive J
  | blk (c : Bool) | bk (c : Bool) (a : F) | stat | lst (a : F) | nms (a : F) | ifs (a : F) | asg (a : F)
  | ex (a : Nat) | exl (a : Nat) (f : F) | opd | suf | sufl (f : F) | tab (a : F) | fld
def hc : List Tok → Nat
  | [] => 56
  | t :: _ => cls t
def ha : List Tok → Int
  | [] => 0
  | t :: _ => t.p
def ht : List Tok → List UInt8
  | [] => []
  | t :: _ => t.t
def hv : List Tok → Int
  | [] => 0
  | t :: _ => t.v
def need (c : Nat) (l : List Tok) (k : List Tok → PR) : PR := if hc l = c then k l.tail else .bad (ha l)
def nam (q : Int) (l : List Tok) (k : F → List Tok → PR) : PR := if hc l = 51 then k (one q (ht l) 0 (ha l) .nil) l.tail else .bad (ha l)
def closes (l : List Tok) : Bool := hc l = 56 ∨ hc l = 4 ∨ hc l = 5 ∨ hc l = 6
section
variable (rec : J → List Tok → PR)
def bodyP (l : List Tok) (k : F → List Tok → PR) : PR := need 7 l fun l => (rec (.blk false) l).bind fun f l => need 4 l fun l => k f l
def lastP (l : List Tok) : PR :=
  if hc l.tail = 1 then .ok (one 30 [] 0 (ha l) .nil) l.tail.tail
  else if closes l.tail then .ok (one 30 [] 0 (ha l) .nil) l.tail
  else (rec (.lst .nil) l.tail).bind fun f m => .ok (one 30 [] 0 (ha l) f) (if hc m = 1 then m.tail else m)
/-- The parameters: the names up to the closing sign. -/
def parP (l : List Tok) : PR := if hc l = 18 then .ok .nil l else nam 6 l fun f l => rec (.nms f) l
def funP (l : List Tok) : PR :=
  nam 6 l.tail fun m l1 => need 17 l1 fun l1 => (parP rec l1).bind fun ps l1 => need 18 l1 fun l1 =>
    (rec (.blk false) l1).bind fun b l1 => need 4 l1 fun l1 => .ok (one 31 m.text ps.len (ha l) (ps.app b)) l1
def whileP (l : List Tok) : PR := (rec (.ex 0) l.tail).bind fun e l1 => bodyP rec l1 fun b l1 => .ok (one 25 [] 0 (ha l) (e.app b)) l1
def ifP (l : List Tok) : PR := (rec (.ifs .nil) l.tail).bind fun f l1 => .ok (one 24 [] 0 (ha l) f) l1
/-- A condition and its block behind what there is. -/
def brP (a : F) (l : List Tok) : PR := (rec (.ex 0) l).bind fun e l => need 13 l fun l => (rec (.blk false) l).bind fun b l => .ok ((a.app e).app b) l
def numP (at' : Int) (a : F) (l : List Tok) : PR :=
  (rec (.ex 0) l).bind fun e1 l => need 15 l fun l => (rec (.ex 0) l).bind fun e2 l =>
    if hc l = 15 then (rec (.ex 0) l.tail).bind fun e3 l => bodyP rec l fun b l => .ok (one 26 [] 0 at' ((((a.app e1).app e2).app e3).app b)) l
    else bodyP rec l fun b l => .ok (one 26 [] 0 at' (((a.app e1).app e2).app b)) l
def forP (l : List Tok) : PR :=
  nam 6 l.tail fun m l1 =>
    if hc l1 = 14 then numP rec (ha l) m l1.tail
    else (rec (.nms m) l1).bind fun ns l1 => need 16 l1 fun l1 => (rec (.lst ns) l1).bind fun f l1 => bodyP rec l1 fun b l1 => .ok (one 27 [] ns.len (ha l) (f.app b)) l1
def locP (l : List Tok) : PR :=
  nam 6 l.tail fun m l1 => (rec (.nms m) l1).bind fun ns l1 =>
    if hc l1 = 14 then (rec (.lst ns) l1.tail).bind fun f l1 => .ok (one 21 [] ns.len (ha l) f) l1
    else .ok (one 21 [] ns.len (ha l) ns) l1
def tgt (f : F) (k : PR) : PR := if f.kind = 6 ∨ f.kind = 7 then k else .bad f.at
def asgP (l : List Tok) : PR :=
  (rec .suf l).bind fun f l1 =>
    if hc l1 = 14 ∨ hc l1 = 15 then
      tgt f ((rec (.asg f) l1).bind fun ts l1 => need 14 l1 fun l1 => (rec (.lst ts) l1).bind fun g l1 => .ok (one 22 [] ts.len f.at g) l1)
    else if f.kind = 8 then .ok (one 23 [] 0 f.at f) l1 else .bad (ha l1)
def argP (a : F) (l : List Tok) : PR := if hc l = 18 then .ok a l.tail else (rec (.lst a) l).bind fun f l => need 18 l fun l => .ok f l
def stemP (l : List Tok) : PR :=
  if hc l = 17 then (rec (.ex 0) l.tail).bind fun e l1 => need 18 l1 fun l1 => .ok (one 9 [] 0 (ha l) e) l1
  else nam 6 l fun f l => .ok f l
def tabP (l : List Tok) : PR := (rec (.tab .nil) l.tail).bind fun f l1 => need 23 l1 fun l1 => .ok (one 12 [] 0 (ha l) f) l1
def stp' : J → List Tok → PR
  | .blk c, l => (rec (.bk c .nil) l).bind fun f l1 => .ok (one 20 [] 0 (ha l) f) l1
  | .bk c a, l =>
    if hc l = 1 then rec (.bk c a) l.tail
    else if hc l = 2 then (lastP rec l).bind fun f l => .ok (a.app f) l
    else if c = true ∧ hc l = 3 then (funP rec l).bind fun f l => rec (.bk c (a.app f)) l
    else if closes l then .ok a l
    else (rec .stat l).bind fun f l => rec (.bk c (a.app f)) l
  | .stat, l =>
    if hc l = 7 then bodyP rec l fun b l1 => .ok (one 28 [] 0 (ha l) b) l1
    else if hc l = 8 then whileP rec l
    else if hc l = 9 then ifP rec l
    else if hc l = 10 then forP rec l
    else if hc l = 11 then locP rec l
    else if hc l = 12 then .ok (one 29 [] 0 (ha l) .nil) l.tail
    else asgP rec l
  | .lst a, l => (rec (.ex 0) l).bind fun f l => if hc l = 15 then rec (.lst (a.app f)) l.tail else .ok (a.app f) l
  | .nms a, l => if hc l = 15 then nam 6 l.tail fun f l => rec (.nms (a.app f)) l else .ok a l
  | .ifs a, l => (brP rec a l).bind fun f l =>
    if hc l = 6 then rec (.ifs f) l.tail
    else if hc l = 5 then (rec (.blk false) l.tail).bind fun b l => need 4 l fun l => .ok (f.app b) l
    else need 4 l fun l => .ok f l
  | .asg a, l => if hc l = 15 then (rec .suf l.tail).bind fun f l => tgt f (rec (.asg (a.app f)) l) else .ok a l
  | .ex a, l => (rec .opd l).bind fun f l => rec (.exl a f) l
  | .exl a f, l =>
    if a < bnd (hc l) then (rec (.ex (if bnd (hc l) = 4 then 3 else bnd (hc l))) l.tail).bind fun g l1 => rec (.exl a (one 11 (ht l) 0 f.at (f.app g))) l1
    else .ok f l
  | .opd, l =>
    if hc l = 51 ∨ hc l = 17 then rec .suf l
    else if hc l = 22 then tabP rec l
    else if hc l = 24 ∨ hc l = 25 ∨ hc l = 26 then (rec .opd l.tail).bind fun f l1 => .ok (one 10 (ht l) 0 (ha l) f) l1
    else if hc l = 53 then .ok (one 4 [] (hv l) (ha l) .nil) l.tail
    else if hc l = 54 then .ok (one 5 (ht l) 0 (ha l) .nil) l.tail
    else if hc l = 27 then .ok (one 1 [] 0 (ha l) .nil) l.tail
    else if hc l = 28 then .ok (one 2 [] 0 (ha l) .nil) l.tail
    else if hc l = 29 then .ok (one 3 [] 0 (ha l) .nil) l.tail
    else .bad (ha l)
  | .suf, l => (stemP rec l).bind fun f l => rec (.sufl f) l
  | .sufl f, l =>
    if hc l = 19 then (rec (.ex 0) l.tail).bind fun k l => need 20 l fun l => rec (.sufl (one 7 [] 0 f.at (f.app k))) l
    else if hc l = 21 then nam 5 l.tail fun k l => rec (.sufl (one 7 [] 0 f.at (f.app k))) l
    else if hc l = 17 then (argP rec f l.tail).bind fun g l => rec (.sufl (one 8 [] 0 f.at g)) l
    else .ok f l
  | .tab a, l =>
    if hc l = 23 then .ok a l
    else (rec .fld l).bind fun f l => if hc l = 15 ∨ hc l = 1 then rec (.tab (a.app f)) l.tail else .ok (a.app f) l
  | .fld, l =>
    if hc l = 19 then (rec (.ex 0) l.tail).bind fun k l1 => need 20 l1 fun l1 => need 14 l1 fun l1 => (rec (.ex 0) l1).bind fun v l1 => .ok (one 14 [] 0 (ha l) (k.app v)) l1
    else if hc l = 51 ∧ hc l.tail = 14 then (rec (.ex 0) l.tail.tail).bind fun v l1 => .ok (one 14 [] 0 (ha l) ((one 5 (ht l) 0 (ha l) .nil).app v)) l1
    else (rec (.ex 0) l).bind fun v l1 => .ok (one 13 [] 0 (ha l) v) l1
end
/-- The going through with a number of steps. -/
def pr : Nat → J → List Tok → PR
  | 0 => fun _ _ => .out
  | n + 1 => stp' (pr n)
theorem pr_succ (n : Nat) (j : J) (l : List Tok) : pr (n + 1) j l = stp' (pr n) j l := rfl
theorem bind_out {x : PR} {k : F → List Tok → PR} (h : x.bind k ≠ .out) : x ≠ .out := by
  intro e; rw [e] at h; exact h rfl
end Go.Proofs.YtmejlldabdjpjaaGreat

/- The grammar's going through ends: a number of steps that is enough; the tokens grow fewer. -/
namespace Go.Proofs.YtmejlldabdjpjaaGreat
/-- Fewer than m tokens are left; where b holds, the steps were enough. -/
def G (b : Prop) (m : Nat) : PR → Prop
  | .ok _ l => l.length < m
  | .bad _ => True
  | .out => ¬ b
theorem G.mono {b b' : Prop} {m m' : Nat} {x : PR} (h : G b' m' x) (hb : b → b') (hm : m' ≤ m) : G b m x := by
  cases x with
  | ok f l => exact Nat.lt_of_lt_of_le h hm
  | bad p => exact trivial
  | out => exact fun e => h (hb e)
theorem G.bind {b : Prop} {a m : Nat} {x : PR} {k : F → List Tok → PR} (h : G b a x) (hk : ∀ f l, l.length < a → G b m (k f l)) : G b m (x.bind k) := by
  cases x with
  | ok f l => exact hk f l h
  | bad p => exact trivial
  | out => exact h
theorem tail_len {l : List Tok} (h : hc l ≠ 56) : l.tail.length + 1 = l.length := by
  cases l with
  | nil => exact absurd rfl h
  | cons t l => rfl
theorem G.need {b : Prop} {m c : Nat} {l : List Tok} {k : List Tok → PR} (hc' : c ≠ 56) (h : l.tail.length + 1 = l.length → G b m (k l.tail)) : G b m (need c l k) := by
  unfold Go.Proofs.YtmejlldabdjpjaaGreat.need
  split
  · next e => exact h (tail_len (by rw [e]; exact hc'))
  · exact trivial
theorem G.nam {b : Prop} {m : Nat} {q : Int} {l : List Tok} {k : F → List Tok → PR} (h : ∀ f, l.tail.length + 1 = l.length → G b m (k f l.tail)) : G b m (nam q l k) := by
  unfold Go.Proofs.YtmejlldabdjpjaaGreat.nam
  split
  · next e => exact h _ (tail_len (by rw [e]; decide))
  · exact trivial
def rk : J → Nat
  | .blk _ => 3 | .bk _ _ => 2 | .stat => 1 | .lst _ => 3 | .nms _ => 0 | .ifs _ => 3 | .asg _ => 0
  | .ex _ => 2 | .exl _ _ => 0 | .opd => 1 | .suf => 0 | .sufl _ => 0 | .tab _ => 4 | .fld => 3
/-- How many tokens are taken at least. -/
def st : J → Nat
  | .blk _ => 0 | .bk _ _ => 0 | .stat => 1 | .lst _ => 1 | .nms _ => 0 | .ifs _ => 1 | .asg _ => 0
  | .ex _ => 1 | .exl _ _ => 0 | .opd => 1 | .suf => 1 | .sufl _ => 0 | .tab _ => 0 | .fld => 1
section
variable {rec : J → List Tok → PR} {n : Nat} (ih : ∀ j l, G (8 * l.length + rk j < n) (l.length + 1 - st j) (rec j l))
include ih
theorem g_rec {b : Prop} {m : Nat} (j : J) (l : List Tok) (hb : b → 8 * l.length + rk j < n) (hm : l.length + 1 - st j ≤ m) : G b m (rec j l) := (ih j l).mono hb hm
theorem g_body {b : Prop} {m : Nat} {l : List Tok} {k : F → List Tok → PR} (hb : b → 8 * l.length < n + 2) (h : ∀ f l1, l1.length + 1 < l.length → G b m (k f l1)) : G b m (bodyP rec l k) := by
  unfold bodyP
  refine .need (by decide) fun e => .bind (g_rec ih (.blk false) _ (fun x => by have := hb x; simp only [rk]; omega) (Nat.le_refl _)) fun f l1 h1 => .need (by decide) fun e1 => h f _ (by simp only [st] at h1; omega)
end
set_option maxHeartbeats 1000000 in
theorem g_step {rec : J → List Tok → PR} {n : Nat} (ih : ∀ j l, G (8 * l.length + rk j < n) (l.length + 1 - st j) (rec j l)) (j : J) (l : List Tok) :
    G (8 * l.length + rk j < n + 1) (l.length + 1 - st j) (stp' rec j l) := by
  have R := fun {b : Prop} (j : J) (l : List Tok) (hb : b → 8 * l.length + rk j < n) => g_rec ih (b := b) j l hb (Nat.le_refl _)
  have lastG : l.tail.length + 1 = l.length → ∀ m, l.length ≤ m → G (8 * l.length < n + 1) m (lastP rec l) := by
    intro e m hm
    unfold lastP
    split
    · next h => have := tail_len (l := l.tail) (by rw [h]; decide); show _ < _; omega
    · split
      · show _ < _; omega
      · refine .bind (R (.lst .nil) _ (fun x => by simp only [rk]; omega)) fun f l1 h1 => ?_
        show _ < _
        simp only [st] at h1
        split
        · have : l1.tail.length ≤ l1.length := by simp
          omega
        · omega
  have nmsG : ∀ (f : F) (l1 : List Tok), l1.length < l.length → G (8 * l.length < n + 1) l.length (rec (.nms f) l1) := fun f l1 h => g_rec ih _ _ (fun x => by simp only [rk]; omega) (by simp only [st]; omega)
  have funG : l.tail.length + 1 = l.length → G (8 * l.length < n + 1) l.length (funP rec l) := by
    intro e
    unfold funP parP
    refine .nam fun m e1 => .need (by decide) fun e2 => .bind (a := l.length - 1) ?_ fun ps l1 h1 => .need (by decide) fun e3 => .bind (R (.blk false) _ (fun x => by simp only [rk]; omega)) fun b l2 h2 => .need (by decide) fun e4 => ?_
    · split
      · show _ < _; omega
      · exact .nam fun f e5 => g_rec ih _ _ (fun x => by simp only [rk]; omega) (by simp only [st]; omega)
    · show _ < _
      simp only [st] at h2
      omega
  cases j with
  | blk c =>
    refine .bind (R _ _ (fun x => by simp only [rk] at x ⊢; omega)) fun f l1 h1 => ?_
    show _ < _
    simp only [st] at h1 ⊢; omega
  | bk c a =>
    simp only [stp', st, rk]
    split
    · next h => have := tail_len (l := l) (by rw [h]; decide); exact g_rec ih _ _ (fun x => by simp only [rk]; omega) (by simp only [st]; omega)
    · split
      · next h => exact .bind ((lastG (tail_len (by rw [h]; decide)) l.length (Nat.le_refl _)).mono (fun x => by omega) (Nat.le_refl _)) fun f l1 h1 => by show _ < _; omega
      · split
        · next h =>
          refine .bind ((funG (tail_len (by rw [h.2]; decide))).mono (fun x => by omega) (Nat.le_refl _)) fun f l1 h1 => ?_
          exact g_rec ih _ _ (fun x => by simp only [rk]; omega) (by simp only [st]; omega)
        · split
          · show _ < _; omega
          · refine .bind (R .stat l (fun x => by simp only [rk]; omega)) fun f l1 h1 => ?_
            simp only [st] at h1
            exact g_rec ih _ _ (fun x => by simp only [rk]; omega) (by simp only [st]; omega)
  | stat =>
    simp only [stp', st, rk]
    split
    · exact g_body ih (fun x => by omega) fun f l1 h1 => by show _ < _; omega
    · split
      · next h =>
        have := tail_len (l := l) (by rw [h]; decide)
        unfold whileP
        refine .bind (R (.ex 0) _ (fun x => by simp only [rk]; omega)) fun f l1 h1 => ?_
        simp only [st] at h1
        exact g_body ih (fun x => by omega) fun f l1 h1 => by show _ < _; omega
      · split
        · next h =>
          have := tail_len (l := l) (by rw [h]; decide)
          unfold ifP
          refine .bind (R (.ifs .nil) _ (fun x => by simp only [rk]; omega)) fun f l1 h1 => ?_
          simp only [st] at h1
          show _ < _; omega
        · split
          · next h =>
            have := tail_len (l := l) (by rw [h]; decide)
            unfold forP
            refine .nam fun m e1 => ?_
            split
            · next h2 =>
              have := tail_len (l := l.tail.tail) (by rw [h2]; decide)
              unfold numP
              refine .bind (R (.ex 0) _ (fun x => by simp only [rk]; omega)) fun f l1 h1 => .need (by decide) fun e2 => .bind (R (.ex 0) _ (fun x => by simp only [rk, st] at h1 ⊢; omega)) fun g l2 h3 => ?_
              simp only [st] at h1 h3
              split
              · next h4 =>
                have := tail_len (l := l2) (by rw [h4]; decide)
                refine .bind (R (.ex 0) _ (fun x => by simp only [rk]; omega)) fun f l1 h1 => ?_
                simp only [st] at h1
                exact g_body ih (fun x => by omega) fun f l1 h1 => by show _ < _; omega
              · exact g_body ih (fun x => by omega) fun f l1 h1 => by show _ < _; omega
            · refine .bind (R (.nms m) _ (fun x => by simp only [rk]; omega)) fun ns l1 h1 => .need (by decide) fun e2 => .bind (R (.lst ns) _ (fun x => by simp only [rk, st] at h1 ⊢; omega)) fun g l2 h3 => ?_
              simp only [st] at h1 h3
              exact g_body ih (fun x => by omega) fun f l1 h1 => by show _ < _; omega
          · split
            · next h =>
              have := tail_len (l := l) (by rw [h]; decide)
              unfold locP
              refine .nam fun m e1 => .bind (R (.nms m) _ (fun x => by simp only [rk]; omega)) fun ns l1 h1 => ?_
              simp only [st] at h1
              split
              · next h2 =>
                have := tail_len (l := l1) (by rw [h2]; decide)
                refine .bind (R (.lst ns) _ (fun x => by simp only [rk]; omega)) fun f l2 h3 => ?_
                simp only [st] at h3
                show _ < _; omega
              · show _ < _; omega
            · split
              · next h =>
                have := tail_len (l := l) (by rw [h]; decide)
                show _ < _; omega
              · unfold asgP tgt
                refine .bind (R .suf _ (fun x => by simp only [rk]; omega)) fun f l1 h1 => ?_
                simp only [st] at h1
                split
                · split
                  · refine .bind (R (.asg f) _ (fun x => by simp only [rk]; omega)) fun ts l2 h2 => .need (by decide) fun e2 => .bind (R (.lst ts) _ (fun x => by simp only [rk, st] at h2 ⊢; omega)) fun g l3 h3 => ?_
                    simp only [st] at h2 h3
                    show _ < _; omega
                  · exact trivial
                · split
                  · show _ < _; omega
                  · exact trivial
  | lst a =>
    simp only [stp', st, rk]
    refine .bind (R (.ex 0) _ (fun x => by simp only [rk]; omega)) fun f l1 h1 => ?_
    simp only [st] at h1
    split
    · next h =>
      have := tail_len (l := l1) (by rw [h]; decide)
      exact g_rec ih _ _ (fun x => by simp only [rk]; omega) (by simp only [st]; omega)
    · show _ < _; omega
  | nms a =>
    simp only [stp', st, rk]
    split
    · next h =>
      have := tail_len (l := l) (by rw [h]; decide)
      exact .nam fun f e => g_rec ih _ _ (fun x => by simp only [rk]; omega) (by simp only [st]; omega)
    · show _ < _; omega
  | ifs a =>
    simp only [stp', st, rk, brP]
    refine .bind (a := l.length - 1) (.bind (R (.ex 0) _ (fun x => by simp only [rk]; omega)) fun e l1 h1 => .need (by decide) fun e1 => .bind (R (.blk false) _ (fun x => by simp only [rk, st] at h1 ⊢; omega)) fun b l2 h2 => ?_) fun f l1 h1 => ?_
    · simp only [st] at h1 h2
      show _ < _; omega
    · split
      · next h =>
        have := tail_len (l := l1) (by rw [h]; decide)
        exact g_rec ih _ _ (fun x => by simp only [rk]; omega) (by simp only [st]; omega)
      · split
        · next h =>
          have := tail_len (l := l1) (by rw [h]; decide)
          refine .bind (R (.blk false) _ (fun x => by simp only [rk]; omega)) fun b l2 h2 => .need (by decide) fun e1 => ?_
          simp only [st] at h2
          show _ < _; omega
        · exact .need (by decide) fun e1 => by show _ < _; omega
  | asg a =>
    simp only [stp', st, rk, tgt]
    split
    · next h =>
      have := tail_len (l := l) (by rw [h]; decide)
      refine .bind (R .suf _ (fun x => by simp only [rk]; omega)) fun f l1 h1 => ?_
      simp only [st] at h1
      split
      · exact g_rec ih _ _ (fun x => by simp only [rk]; omega) (by simp only [st]; omega)
      · exact trivial
    · show _ < _; omega
  | ex a =>
    simp only [stp', st, rk]
    refine .bind (R .opd _ (fun x => by simp only [rk]; omega)) fun f l1 h1 => ?_
    simp only [st] at h1
    exact g_rec ih _ _ (fun x => by simp only [rk]; omega) (by simp only [st]; omega)
  | exl a f =>
    simp only [stp', st, rk]
    split
    · next h =>
      have := tail_len (l := l) (by intro e; rw [e] at h; exact absurd h (by simp [bnd]))
      refine .bind (R (.ex _) _ (fun x => by simp only [rk]; omega)) fun g l1 h1 => ?_
      simp only [st] at h1
      exact g_rec ih _ _ (fun x => by simp only [rk]; omega) (by simp only [st]; omega)
    · show _ < _; omega
  | opd =>
    simp only [stp', st, rk]
    have tl : ∀ c, hc l = c → c ≠ 56 → l.tail.length + 1 = l.length := fun c h h2 => tail_len (by rw [h]; exact h2)
    split
    · exact g_rec ih _ _ (fun x => by simp only [rk]; omega) (by simp only [st]; omega)
    · split
      · next h =>
        have := tl _ h (by decide)
        unfold tabP
        refine .bind (R (.tab .nil) _ (fun x => by simp only [rk]; omega)) fun f l1 h1 => .need (by decide) fun e1 => ?_
        simp only [st] at h1
        show _ < _; omega
      · split
        · next h =>
          have : l.tail.length + 1 = l.length := by rcases h with h | h | h <;> exact tl _ h (by decide)
          refine .bind (R .opd _ (fun x => by simp only [rk]; omega)) fun f l1 h1 => ?_
          simp only [st] at h1
          show _ < _; omega
        · split
          · next h => have := tl _ h (by decide); show _ < _; omega
          · split
            · next h => have := tl _ h (by decide); show _ < _; omega
            · split
              · next h => have := tl _ h (by decide); show _ < _; omega
              · split
                · next h => have := tl _ h (by decide); show _ < _; omega
                · split
                  · next h => have := tl _ h (by decide); show _ < _; omega
                  · exact trivial
  | suf =>
    simp only [stp', st, rk, stemP]
    refine .bind (a := l.length) ?_ fun f l1 h1 => g_rec ih _ _ (fun x => by simp only [rk]; omega) (by simp only [st]; omega)
    split
    · next h =>
      have := tail_len (l := l) (by rw [h]; decide)
      refine .bind (R (.ex 0) _ (fun x => by simp only [rk]; omega)) fun e l1 h1 => .need (by decide) fun e1 => ?_
      simp only [st] at h1
      show _ < _; omega
    · exact .nam fun f e => by show _ < _; omega
  | sufl f =>
    simp only [stp', st, rk, argP]
    split
    · next h =>
      have := tail_len (l := l) (by rw [h]; decide)
      refine .bind (R (.ex 0) _ (fun x => by simp only [rk]; omega)) fun e l1 h1 => .need (by decide) fun e1 => ?_
      simp only [st] at h1
      exact g_rec ih _ _ (fun x => by simp only [rk]; omega) (by simp only [st]; omega)
    · split
      · next h =>
        have := tail_len (l := l) (by rw [h]; decide)
        exact .nam fun f e => g_rec ih _ _ (fun x => by simp only [rk]; omega) (by simp only [st]; omega)
      · split
        · next h =>
          have := tail_len (l := l) (by rw [h]; decide)
          refine .bind (a := l.length) ?_ fun g l1 h1 => g_rec ih _ _ (fun x => by simp only [rk]; omega) (by simp only [st]; omega)
          split
          · next h2 => have := tail_len (l := l.tail) (by rw [h2]; decide); show _ < _; omega
          · refine .bind (R (.lst f) _ (fun x => by simp only [rk]; omega)) fun e l1 h1 => .need (by decide) fun e1 => ?_
            simp only [st] at h1
            show _ < _; omega
        · show _ < _; omega
  | tab a =>
    simp only [stp', st, rk]
    split
    · show _ < _; omega
    · refine .bind (R .fld _ (fun x => by simp only [rk]; omega)) fun f l1 h1 => ?_
      simp only [st] at h1
      split
      · next h =>
        have : l1.tail.length + 1 = l1.length := by rcases h with h | h <;> exact tail_len (by rw [h]; decide)
        exact g_rec ih _ _ (fun x => by simp only [rk]; omega) (by simp only [st]; omega)
      · show _ < _; omega
  | fld =>
    simp only [stp', st, rk]
    split
    · next h =>
      have := tail_len (l := l) (by rw [h]; decide)
      refine .bind (R (.ex 0) _ (fun x => by simp only [rk]; omega)) fun e l1 h1 => .need (by decide) fun e1 => .need (by decide) fun e2 => .bind (R (.ex 0) _ (fun x => by simp only [rk, st] at h1 ⊢; omega)) fun v l2 h2 => ?_
      simp only [st] at h1 h2
      show _ < _; omega
    · split
      · next h =>
        have := tail_len (l := l) (by rw [h.1]; decide)
        have := tail_len (l := l.tail) (by rw [h.2]; decide)
        refine .bind (R (.ex 0) _ (fun x => by simp only [rk]; omega)) fun v l2 h2 => ?_
        simp only [st] at h2
        show _ < _; omega
      · refine .bind (R (.ex 0) _ (fun x => by simp only [rk]; omega)) fun v l2 h2 => ?_
        simp only [st] at h2
        show _ < _; omega
theorem g_all : ∀ (n : Nat) (j : J) (l : List Tok), G (8 * l.length + rk j < n) (l.length + 1 - st j) (pr n j l)
  | 0, j, l => by show ¬ _; omega
  | n + 1, j, l => g_step (g_all n) j l
theorem pr_enough (n : Nat) (j : J) (l : List Tok) (h : 8 * l.length + rk j < n) : pr n j l ≠ .out := by
  intro e
  have := g_all n j l
  rw [e] at this
  exact this h
theorem pr_len {n : Nat} {j : J} {l l' : List Tok} {f : F} (h : pr n j l = .ok f l') : l'.length + st j ≤ l.length := by
  have := g_all n j l
  rw [h] at this
  have h2 : l'.length < l.length + 1 - st j := this
  have : st j ≤ 1 := by cases j <;> simp [st]
  omega
/-- The chunk: a block up to the tokens' end. -/
def chk (l : List Tok) : PR := (pr (8 * l.length + 4) (.blk true) l).bind fun f m => if hc m = 56 then .ok f m else .bad (ha m)
theorem chk_some (l : List Tok) : chk l ≠ .out := by
  have h := pr_enough (8 * l.length + 4) (.blk true) l (by simp only [rk]; omega)
  unfold chk
  cases he : pr (8 * l.length + 4) (.blk true) l with
  | out => exact absurd he h
  | bad p => simp [PR.bind]
  | ok f m => simp only [PR.bind]; split <;> simp
end Go.Proofs.YtmejlldabdjpjaaGreat

/- The walks of the scanner's small helpers: which runes fit, spans, words, signs; the refusal. -/
namespace Go.Proofs.YtmejlldabdjpjaaGreat
open Go.RowKit
theorem enters38 : ∀ args w, (callFunc 113 args).run Tryz.prog w = .ok (.enter 113 args) w := enters_of Tryz.func113 (by kernel_rfl) rfl
theorem enters52 : ∀ args w, (callFunc 141 args).run Tryz.prog w = .ok (.enter 141 args) w := enters_of Tryz.func141 (by kernel_rfl) rfl
theorem enters62 : ∀ args w, (callFunc 155 args).run Tryz.prog w = .ok (.enter 155 args) w := enters_of Tryz.func155 (by kernel_rfl) rfl
set_option maxHeartbeats 400000 in
theorem inComment_any (r : Nat) (w : World) : Calls Tryz.prog 113 #[.int .i32 r] w fun e w' => e = .returned (.bool (decide (r ≠ 10))) ∧ w' = w := by
  go_enter Tryz.func113, Tryz.ntmps113
  go_wp2
  go_ret
  refine ⟨ret_bool ?_, rfl⟩
  rw [Bool.eq_iff_iff]; simp; omega
set_option maxHeartbeats 400000 in
theorem isDigit_any (r : Nat) (w : World) (hr : r ≤ 1114111) : Calls Tryz.prog 155 #[.int .i32 r] w fun e w' => e = .returned (.bool (digB r)) ∧ w' = w := by
  go_enter Tryz.func155, Tryz.ntmps155
  go_wp2_with (go_at_call 116; refine (digit_any _ _).mono ?_; rintro e w' ⟨rfl, rfl⟩)
  go_ret
  exact ⟨rfl, rfl⟩
set_option maxHeartbeats 400000 in
theorem inName_any (r : Nat) (w : World) (hr : r ≤ 1114111) : Calls Tryz.prog 141 #[.int .i32 r] w fun e w' => e = .returned (.bool (inNm r)) ∧ w' = w := by
  cases h : letB r
  · go_enter Tryz.func141, Tryz.ntmps141
    go_wp2_with (first | (go_at_call 114; refine (letter_any _ _).mono ?_; rintro e w' ⟨rfl, rfl⟩) | (go_at_call 155; refine (isDigit_any _ _ hr).mono ?_; rintro e w' ⟨rfl, rfl⟩))
    go_ret
    exact ⟨ret_bool (by simp [inNm, h]), rfl⟩
  · go_enter Tryz.func141, Tryz.ntmps141
    go_wp2_with (first | (go_at_call 114; refine (letter_any _ _).mono ?_; rintro e w' ⟨rfl, rfl⟩) | (go_at_call 155; refine (isDigit_any _ _ hr).mono ?_; rintro e w' ⟨rfl, rfl⟩))
    go_ret
    exact ⟨ret_bool (by simp [inNm, h]), rfl⟩
theorem drop_ne (s : ByteArray) (p : Nat) (h : p < s.size) : s.data.toList.drop p ≠ [] := by
  intro e
  have := congrArg List.length e
  rw [List.length_drop, Array.length_toList] at this
  have : s.data.size = s.size := rfl
  simp at *
  omega
set_option maxHeartbeats 2000000 in
theorem span_any (s : ByteArray) (g : Nat) (f : Nat → Bool) (eg : ∀ args w, (callFunc g args).run Tryz.prog w = .ok (.enter g args) w)
    (hg : ∀ (r : Nat) (w : World), r ≤ 1114111 → Calls Tryz.prog g #[.int .i32 r] w fun e w' => e = .returned (.bool (f r)) ∧ w' = w) (w : World) (_hs : s.size ≤ 9223372036854775807) :
    Calls Tryz.prog 112 #[.string s, .func (.func g) #[] #[]] w fun e w' => e = .returned (.int .i64 (spn f s.data.toList)) ∧ Below w.heap.size w w' := by
  go_enter Tryz.func112, Tryz.ntmps112
  go_wp2
  go_loopg [] (s.size + 1) (fun gf wx => ∃ pos : Nat, pos ≤ s.size ∧ wx.heap[w.heap.size]? = some (.stringIter s pos) ∧ Hid (pos + spn f (s.data.toList.drop pos) = spn f s.data.toList) ∧ Below w.heap.size w wx ∧ s.size < pos + gf)
  case atStart => exact ⟨0, Nat.zero_le _, World.iter_heap w s 0, by simp [Hid], (Below.refl _ _).alloc (Nat.le_refl _) _, by omega⟩
  case round =>
    obtain ⟨pos, hple, hi, hS, hB, hfu⟩ := hrel
    by_cases hps : pos < s.size
    · obtain ⟨g', rfl⟩ : ∃ g', gk = g' + 1 := ⟨gk - 1, by omega⟩
      have hnx : ∀ ty, (Instr.next (.pointer (some ⟨w.heap.size, 0, none⟩)) true ty).run Tryz.prog wr = .ok (.tuple #[.bool true, .int .i64 pos, .int .i32 (rn s pos)]) (wr.iterAt w.heap.size s (pos + wd s pos)) := fun ty => Lib.run_next_any_at wr w.heap.size s pos ty hi hps
      have hwp := wd_pos s pos
      have hwl := wd_le s pos hps
      have hrl := rn_le s pos
      have hi2 := Lib.iterAt_heap wr w.heap.size s pos (pos + wd s pos) hi
      have hB2 := Lib.below_iterAt hB (Nat.le_refl _) s (pos + wd s pos)
      have hlt := (Array.getElem?_eq_some_iff.1 hi2).1
      obtain ⟨W, hW⟩ : ∃ W, wr.iterAt w.heap.size s (pos + wd s pos) = W := ⟨_, rfl⟩
      rw [hW] at hnx hi2 hB2
      have hC := hg (rn s pos) W hrl
      cases hf : f (rn s pos)
      · have HN : Hid (spn f s.data.toList = pos) := by
          show _ = _
          rw [← hS.out, spn_no f _ (drop_ne s pos hps) (by rw [← rn_drop]; exact hf)]; rfl
        rw [hf] at hC
        clear hg hS hi hB hW hi2
        go_wp2_with ((go_at_fn g; refine hC.mono ?_; rintro e W' ⟨rfl, rfl⟩))
        go_ret
        exact ⟨ret1 (by rw [HN.out]), hB2⟩
      · have HN : Hid (pos + wd s pos + spn f (s.data.toList.drop (pos + wd s pos)) = spn f s.data.toList) := by
          show _ = _
          rw [← hS.out, spn_yes f _ (drop_ne s pos hps) (by rw [← rn_drop]; exact hf), ← wd_drop, List.drop_drop]; omega
        rw [hf] at hC
        clear hg hS hi hB hW
        go_wp2_with ((go_at_fn g; refine hC.mono ?_; rintro e W' ⟨rfl, rfl⟩))
        go_roundg g'
        case measure => omega
        case rel => exact ⟨pos + wd s pos, hwl, hi2, HN, hB2, by omega⟩
    · have hnx : ∀ ty, (Instr.next (.pointer (some ⟨w.heap.size, 0, none⟩)) true ty).run Tryz.prog wr = .ok (.tuple #[.bool false]) wr := fun ty => Lib.run_next_end_at wr w.heap.size s pos ty hi hps
      have HN : Hid (spn f s.data.toList = s.size) := by
        show _ = _
        have e : s.data.toList.drop pos = [] := List.drop_of_length_le (by rw [Array.length_toList]; show s.size ≤ pos; omega)
        rw [← hS.out, e, spn_nil]; omega
      clear hg hS hi
      go_wp2
      go_ret
      exact ⟨ret1 (by rw [HN.out]), hB⟩
/-- What the scanner gives up with. -/
def refu (c a : Int) : Ending := .panicked [{ v := .iface 104 (.agg #[.int .i64 c, .int .i64 a]), recovered := false }]
set_option maxHeartbeats 400000 in
theorem refuse_any (c a : Int) (w : World) : Calls Tryz.prog 142 #[.int .i64 c, .int .i64 a] w fun e w' => e = refu c a ∧ w' = w := by
  go_enter Tryz.func142, Tryz.ntmps142
  go_wp2
  exact ⟨rfl, rfl, rfl⟩
theorem word_tail (s : ByteArray) (b : Bool) (h : b = wordL.contains s.toList) : b = wordB s.data.toList := by rw [h, wordB, ByteArray.toList_eq]
set_option maxHeartbeats 4000000 in
theorem isWord_any (s : ByteArray) (w : World) : Calls Tryz.prog 143 #[.string s] w fun e w' => e = .returned (.bool (wordB s.data.toList)) ∧ w' = w := by
  go_enter Tryz.func143, Tryz.ntmps143
  go_wp2
  all_goals go_ret
  all_goals (refine ⟨ret_bool (word_tail s _ ?_), rfl⟩; generalize s.toList = l at *; simp only [wordL, List.contains_cons, List.contains_nil, Bool.or_false]; simp [*])
  all_goals simp_all
theorem ext2 (s : ByteArray) : (s.extract 0 2).toList = s.data.toList.take 2 := by
  rw [ByteArray.toList_eq]; simp
theorem head_at (s : ByteArray) (h : 0 < s.size) : s.data.toList.headD 0 = s[0] := by
  obtain ⟨⟨l⟩⟩ := s
  cases l with
  | nil => exact absurd h (by show ¬ 0 < 0; omega)
  | cons a l => rfl
theorem sgz_two (s : ByteArray) (h : sgn2.contains (s.extract 0 2).toList = true) : (2 : Int) = sgz s.data.toList := by
  rw [ext2] at h; unfold sgz; rw [if_pos h]; rfl
theorem sgz_one (s : ByteArray) (h0 : 0 < s.size) (h : sgn2.contains (s.extract 0 2).toList = false) (h1 : 0 ≤ Lib.indexByte [43, 45, 42, 37, 60, 62, 61, 35, 40, 41, 123, 125, 91, 93, 59, 44, 46] s[0]) : (1 : Int) = sgz s.data.toList := by
  rw [ext2] at h; unfold sgz; rw [h, head_at s h0, Lib.contains_iff_indexByte]
  rw [if_neg (by simp), if_pos (by unfold sgn1; exact decide_eq_true h1)]; rfl
theorem sgz_none (s : ByteArray) (h0 : 0 < s.size) (h : sgn2.contains (s.extract 0 2).toList = false) (h1 : Lib.indexByte [43, 45, 42, 37, 60, 62, 61, 35, 40, 41, 123, 125, 91, 93, 59, 44, 46] s[0] < 0) : (0 : Int) = sgz s.data.toList := by
  rw [ext2] at h; unfold sgz; rw [h, head_at s h0, Lib.contains_iff_indexByte]
  rw [if_neg (by simp), if_neg (by unfold sgn1; intro h2; have := of_decide_eq_true h2; omega)]; rfl
theorem sgn2_short (s : ByteArray) (h : ¬ 1 < s.size) : sgn2.contains (s.extract 0 2).toList = false := by
  rw [ext2]
  cases hc : sgn2.contains (s.data.toList.take 2)
  · rfl
  · have : s.data.toList.take 2 ∈ sgn2 := by simpa using hc
    have h2 : (s.data.toList.take 2).length = 2 := by
      simp only [sgn2, List.mem_cons, List.not_mem_nil, or_false] at this
      rcases this with e | e | e | e | e | e <;> rw [e] <;> rfl
    rw [List.length_take, Array.length_toList] at h2
    have : s.data.size = s.size := rfl
    omega
set_option maxHeartbeats 4000000 in
theorem signSize_any (s : ByteArray) (w : World) (h0 : 0 < s.size) (hs : s.size ≤ 9223372036854775807) : Calls Tryz.prog 147 #[.string s] w fun e w' => e = .returned (.int .i64 (sgz s.data.toList)) ∧ w' = w := by
  by_cases h1 : 1 < s.size
  · go_enter Tryz.func147, Tryz.ntmps147
    go_wp2_with (go_at_call 158; refine (Tryz.strings_IndexByte _ _ _).mono ?_; rintro e w' ⟨rfl, rfl⟩)
    all_goals (go_ret; refine ⟨ret1 ?_, rfl⟩)
    all_goals first
      | (exfalso; exact Bool.false_ne_true ((Eq.symm (by assumption : ((s.extract 0 2).toList == _) = false)).trans (by assumption)))
      | (exact sgz_two s (by simp only [sgn2, List.contains_cons, List.contains_nil, Bool.or_false]; simp [*]; done))
      | (exact sgz_one s h0 (by simp only [sgn2, List.contains_cons, List.contains_nil, Bool.or_false]; simp [*]; done) (by assumption))
      | (exact sgz_none s h0 (by simp only [sgn2, List.contains_cons, List.contains_nil, Bool.or_false]; simp [*]; done) (by assumption))
  · have H2 : Hid (sgn2.contains (s.extract 0 2).toList = false) := sgn2_short s h1
    go_enter Tryz.func147, Tryz.ntmps147
    go_wp2_with (go_at_call 158; refine (Tryz.strings_IndexByte _ _ _).mono ?_; rintro e w' ⟨rfl, rfl⟩)
    all_goals (go_ret; refine ⟨ret1 ?_, rfl⟩)
    all_goals first
      | (exact sgz_one s h0 H2.out (by assumption))
      | (exact sgz_none s h0 H2.out (by assumption))
end Go.Proofs.YtmejlldabdjpjaaGreat

/- The walk of Read; the digits that the library writes, read again. -/
namespace Go.Proofs.YtmejlldabdjpjaaGreat.W
open Go.RowKit
/-! ### the digits that the library writes -/
/-- Decimal digits do not open as a hexadecimal numeral. -/
theorem hexP_dec (l : List UInt8) (h : allDec l = true) : hexP l = false := by
  match l with
  | [] => rfl
  | [_] => rfl
  | a :: b :: t =>
    simp only [allDec, List.all_cons, Bool.and_eq_true, decide_eq_true_eq] at h
    have hb := h.2.1
    simp only [hexP, Bool.and_eq_false_iff, Bool.or_eq_false_iff, decide_eq_false_iff_not]
    right
    constructor
    · rintro rfl; simp at hb
    · rintro rfl; simp at hb
theorem num_dec (l : List UInt8) (most : Int) (h : allDec l = true) (hn : l.isEmpty = false) : numN l most = (if most < dv l then 0 else (dv l : Int)) ∧ numE l most = (if most < dv l then 14 else 0) := by
  have hx := hexP_dec l h
  simp [numN, numE, hx, decN, decE, h, hn]
end Go.Proofs.YtmejlldabdjpjaaGreat.W

/- Plain facts on escapes (no program in it): what the program reckons by words.Parse is what the digits say. -/
namespace Go.Proofs.YtmejlldabdjpjaaGreat
open Go.RowKit
/-- A span of runes below 128 goes byte by byte. -/
theorem spn_asc (f : Nat → Bool) (hf : ∀ r, f r = true → r < 128) : ∀ l : List UInt8, spn f l = (l.takeWhile fun c => f c.toNat).length
  | [] => by rw [spn_nil]; rfl
  | c :: t => by
    rcases Nat.lt_or_ge c.toNat 128 with h | h
    · obtain ⟨h1, h2⟩ := asc c t h
      cases hc : f c.toNat
      · rw [spn_no f _ (by simp) (by rw [h1]; exact hc)]
        simp [hc]
      · rw [spn_yes f _ (by simp) (by rw [h1]; exact hc), h2]
        simp only [List.drop_succ_cons, List.drop_zero]
        rw [spn_asc f hf t]
        simp only [List.takeWhile_cons, hc, if_true, List.length_cons]; omega
    · have h1 := hi c t h
      have h2 : f (rnL (c :: t)) = false := by
        cases e : f (rnL (c :: t))
        · rfl
        · have := hf _ e; omega
      have h3 : f c.toNat = false := by
        cases e : f c.toNat
        · rfl
        · have := hf _ e; omega
      rw [spn_no f _ (by simp) h2]
      simp [h3]
theorem takeWhile_take {α : Type} (p : α → Bool) : ∀ (l : List α) (m : Nat), (l.take m).takeWhile p = l.take (min (l.takeWhile p).length m)
  | [], m => by simp
  | a :: l, 0 => by simp
  | a :: l, m + 1 => by
    simp only [List.take_succ_cons, List.takeWhile_cons]
    cases hp : p a
    · simp
    · simp only [if_true, List.length_cons]
      rw [takeWhile_take p l m]
      have : min ((l.takeWhile p).length + 1) (m + 1) = min (l.takeWhile p).length m + 1 := by omega
      rw [this, List.take_succ_cons]
theorem mem_tw {α : Type} (p : α → Bool) : ∀ (l : List α) (x : α), x ∈ l.takeWhile p → p x = true
  | [], x, h => by simp at h
  | a :: l, x, h => by
    cases hp : p a
    · simp [hp] at h
    · simp only [List.takeWhile_cons, hp, if_true, List.mem_cons] at h
      rcases h with rfl | h
      · exact hp
      · exact mem_tw p l x h
/-- A digit's rune. -/
def digN (r : Nat) : Bool := digB r
theorem digN_lt (r : Nat) (h : digN r = true) : r < 128 := by simp [digN, digB] at h; omega
theorem dgs_take (l : List UInt8) : dgs 3 l = l.take (min (spn digN l) 3) := by
  unfold dgs
  rw [takeWhile_take, spn_asc _ digN_lt]
  rfl
theorem takeWhile_all {α : Type} (p : α → Bool) (l : List α) : (l.takeWhile p).all p = true := by
  rw [List.all_eq_true]; intro x hx; exact mem_tw p l x hx
theorem dgs_all (m : Nat) (l : List UInt8) : W.allDec (dgs m l) = true := takeWhile_all _ _
theorem hxs_all (m : Nat) (l : List UInt8) : W.allHex (hxs m l) = true := takeWhile_all _ _
theorem dgs_len (m : Nat) (l : List UInt8) : (dgs m l).length ≤ m := by
  unfold dgs
  have := (List.takeWhile_sublist (l := l.take m) (fun c : UInt8 => decide (48 ≤ (c.toNat : Int) ∧ (c.toNat : Int) ≤ 57))).length_le
  rw [List.length_take] at this
  omega
theorem hxs_len (m : Nat) (l : List UInt8) : (hxs m l).length ≤ m := by
  unfold hxs
  have := (List.takeWhile_sublist (l := l.take m) (fun c : UInt8 => W.dgB c.toNat)).length_le
  rw [List.length_take] at this
  omega
theorem dv_lt : ∀ (n : Nat) (l : List UInt8), l.length ≤ n → W.allDec l = true → W.dv l < 10 ^ l.length := by
  intro n
  induction n with
  | zero => intro l hl _; cases l with | nil => simp [W.dv] | cons a l => simp at hl
  | succ n ih =>
    intro l hl ha
    rcases List.eq_nil_or_concat l with h | ⟨l', c, rfl⟩
    · subst h; simp [W.dv]
    · rw [List.concat_eq_append] at *
      rw [W.allDec_snoc] at ha
      simp only [Bool.and_eq_true, decide_eq_true_eq] at ha
      have h1 := ih l' (by simp at hl; omega) ha.1
      rw [W.dv_snoc, (W.dec_val _ ha.2).2]
      simp only [List.length_append, List.length_cons, List.length_nil, Nat.pow_succ]
      omega
theorem hv_lt : ∀ (n : Nat) (l : List UInt8), l.length ≤ n → l.length ≤ 8 → W.hv l < 16 ^ l.length := by
  intro n
  induction n with
  | zero => intro l hl _; cases l with | nil => simp [W.hv] | cons a l => simp at hl
  | succ n ih =>
    intro l hl h8
    rcases List.eq_nil_or_concat l with h | ⟨l', c, rfl⟩
    · subst h; simp [W.hv]
    · rw [List.concat_eq_append] at *
      simp only [List.length_append, List.length_cons, List.length_nil] at hl h8 ⊢
      have h1 := ih l' (by omega) (by omega)
      have h2 := W.dgV_bound c.toNat
      have h3 := W.hv_bound l'
      rw [W.hv_snoc]
      have h4 : (W.hv l' * 16 + W.dgV c.toNat) % 18446744073709551616 ≤ W.hv l' * 16 + W.dgV c.toNat := by omega
      rw [Int.pow_succ]
      omega
theorem hv_small (l : List UInt8) (h8 : l.length ≤ 8) : 0 ≤ W.hv l ∧ W.hv l < 4294967296 := by
  refine ⟨(W.hv_bound l).1, ?_⟩
  have h := hv_lt 8 l h8 h8
  have h2 : (16 : Int) ^ l.length ≤ 16 ^ 8 := by
    have : (16 : Nat) ^ l.length ≤ 16 ^ 8 := Nat.pow_le_pow_right (by omega) h8
    exact_mod_cast this
  omega
/-- words.Parse of the decimal digits. -/
theorem par_dec (d : List UInt8) (ha : W.allDec d = true) (h3 : d.length ≤ 3) : (d = [] → W.parE d = 4) ∧ (d ≠ [] → W.parE d = 0 ∧ W.parN d = W.dv d ∧ W.dv d ≤ 999) := by
  constructor
  · rintro rfl; rfl
  · intro hn
    have hne : d.isEmpty = false := by cases d with | nil => exact absurd rfl hn | cons a l => rfl
    have h1 := dv_lt 3 d h3 ha
    have h2 : 10 ^ d.length ≤ 10 ^ 3 := Nat.pow_le_pow_right (by omega) h3
    obtain ⟨e1, e2⟩ := W.num_dec d 9223372036854775807 ha hne
    unfold W.parE W.parN
    rw [e1, e2, if_neg (by omega), if_neg (by omega)]
    exact ⟨rfl, by unfold wrap64; omega, by omega⟩
/-- words.Parse of 0x and what stands behind it. -/
theorem par_hex (x : List UInt8) : W.parE (48 :: 120 :: x) = W.hexE x ∧ W.parN (48 :: 120 :: x) = wrap64 (W.hexN x) := by
  have hp : W.hexP (48 :: 120 :: x) = true := by simp [W.hexP]
  simp [W.parE, W.parN, W.numE, W.numN, hp]
theorem par_hex8 (x : List UInt8) (h8 : x.length ≤ 8) : (x = [] ∨ W.allHex x = false → W.parE (48 :: 120 :: x) = 4) ∧ (x ≠ [] → W.allHex x = true → W.parE (48 :: 120 :: x) = 0 ∧ W.parN (48 :: 120 :: x) = W.hv x) := by
  rw [(par_hex x).1, (par_hex x).2]
  constructor
  · rintro (rfl | h)
    · rfl
    · simp [W.hexE, h]
  · intro hn ha
    have hne : x.isEmpty = false := by cases x with | nil => exact absurd rfl hn | cons a l => rfl
    have := hv_small x h8
    simp only [W.hexE, W.hexN, hne, ha, Bool.not_true, Bool.or_self, Bool.false_eq_true, if_false]
    exact ⟨trivial, by unfold wrap64; omega⟩
/-- Two hexadecimal digits. -/
theorem hxs_two (a b : UInt8) (t : List UInt8) : (hxs 2 (a :: b :: t)).length = 2 ↔ W.allHex [a, b] = true := by
  simp only [hxs, List.take_succ_cons, List.take_zero, W.allHex, List.all_cons, List.all_nil, Bool.and_true, Bool.and_eq_true]
  cases ha : W.dgB a.toNat <;> cases hb : W.dgB b.toNat <;> simp [ha, hb]
theorem hxs_two_eq (a b : UInt8) (t : List UInt8) (h : W.allHex [a, b] = true) : hxs 2 (a :: b :: t) = [a, b] := by
  simp only [W.allHex, List.all_cons, List.all_nil, Bool.and_true, Bool.and_eq_true] at h
  simp [hxs, h.1, h.2]
theorem hxs_short (u : List UInt8) (h : u.length < 2) : (hxs 2 u).length ≠ 2 := by
  have : (hxs 2 u).length ≤ u.length := by
    unfold hxs
    have := (List.takeWhile_sublist (l := u.take 2) (fun c : UInt8 => W.dgB c.toNat)).length_le
    rw [List.length_take] at this
    omega
  omega
/-- The braces' digits, when the closing brace is e bytes behind the opening one. -/
theorem hxs_brace (v : List UInt8) (e : Nat) (he : e ≤ 8) (h1 : v[e]? = some 125) (h2 : ∀ k, k < e → v[k]? ≠ some 125) :
    (W.allHex (v.take e) = true → hxs 8 v = v.take e) ∧ (W.allHex (v.take e) = false → (v.drop (hxs 8 v).length).headD 0 ≠ 125) := by
  have hlen : e < v.length := by
    rcases Nat.lt_or_ge e v.length with h | h
    · exact h
    · rw [List.getElem?_eq_none h] at h1; cases h1
  have hsplit : v = v.take e ++ 125 :: v.drop (e + 1) := by
    have h3 : v[e] = 125 := by
      rw [List.getElem?_eq_getElem hlen] at h1; exact Option.some.inj h1
    have h4 := List.take_append_drop e v
    rw [List.drop_eq_getElem_cons hlen, h3] at h4
    exact h4.symm
  constructor
  · intro ha
    have hall : ∀ x ∈ v.take e, W.dgB x.toNat = true := fun x hx => List.all_eq_true.1 ha x hx
    unfold hxs
    rw [takeWhile_take]
    have htw : v.takeWhile (fun c => W.dgB c.toNat) = v.take e := by
      conv => lhs; rw [hsplit]
      rw [List.takeWhile_append_of_pos hall]
      have : W.dgB 125 = false := by decide
      simp [this]
    rw [htw, List.length_take]
    congr 1
    omega
  · intro ha
    obtain ⟨x, hx, hxf⟩ := List.all_eq_false.1 ha
    obtain ⟨j, hj, rfl⟩ := List.getElem_of_mem hx
    rw [List.length_take] at hj
    rw [List.getElem_take] at hxf
    have hk : (hxs 8 v).length ≤ j := by
      unfold hxs
      rw [takeWhile_take, List.length_take]
      have : (v.takeWhile fun c => W.dgB c.toNat).length ≤ j := by
        rcases Nat.lt_or_ge j (v.takeWhile fun c => W.dgB c.toNat).length with h | h
        · exfalso
          apply hxf
          have h5 := mem_tw (fun c : UInt8 => W.dgB c.toNat) v _ (List.getElem_mem h)
          have h6 : (v.takeWhile fun c => W.dgB c.toNat)[j] = v[j]'(by omega) := by
            have := List.takeWhile_prefix (l := v) (fun c : UInt8 => W.dgB c.toNat)
            exact this.getElem h
          rw [h6] at h5
          exact h5
        · exact h
      omega
    intro hc
    have h7 := h2 (hxs 8 v).length (by omega)
    apply h7
    rw [← hc]
    have hl : (hxs 8 v).length < v.length := by omega
    rw [List.getElem?_eq_getElem hl, List.drop_eq_getElem_cons hl]
    rfl
theorem no_brace (v : List UInt8) (k : Nat) (h : v[k]? ≠ some 125) : (v.drop k).headD 0 ≠ 125 := by
  intro hc
  apply h
  rcases Nat.lt_or_ge k v.length with hl | hl
  · rw [← hc, List.getElem?_eq_getElem hl, List.drop_eq_getElem_cons hl]; rfl
  · rw [List.drop_of_length_le hl] at hc; exact absurd hc (by decide)
end Go.Proofs.YtmejlldabdjpjaaGreat

/- The walk of the reference's Encode. -/
namespace Go.Proofs.YtmejlldabdjpjaaGreat
open Go.RowKit
theorem conv_new (xs : List Int) (n : Nat) (hn : xs.length = n) (W : World) : (convert 111 9 (.slice (some ⟨W.heap.size, 0, none⟩) n n)).run Tryz.prog (W.alloc (.cells (xs.map (Value.int .u8)).toArray 5)) = .ok (.string (strOfNums xs)) (W.alloc (.cells (xs.map (Value.int .u8)).toArray 5)) := by
  refine run_convert_bytes_arg _ 111 5 Tryz.underlying111 Tryz.underlying5 W.heap.size 0 n n xs hn (fun i hi => ?_) 9 Tryz.underlying9
  rw [Nat.zero_add]
  exact (new_cell W (xs.map (Value.int .u8)) 5 i _ (by simp [List.getElem?_eq_getElem (show i < xs.length by omega), List.getD])).1
end Go.Proofs.YtmejlldabdjpjaaGreat

/- The walks of the program's escapes: what an escape stands for. -/
namespace Go.Proofs.YtmejlldabdjpjaaGreat
open Go.RowKit
theorem str_one (n : Nat) : strOfNums [(n : Int)] = ⟨#[UInt8.ofNat n]⟩ := by simp [strOfNums]
set_option maxHeartbeats 1000000 in
theorem oneByte_any (n : Nat) (w : World) (h : n ≤ 255) : Calls Tryz.prog 172 #[.int .i64 n] w fun e w' => e = .returned (.string ⟨#[UInt8.ofNat n]⟩) ∧ Below w.heap.size w w' := by
  have hcv := fun W => conv_new [(n : Int)] 1 rfl W
  simp only [List.map_cons, List.map_nil] at hcv
  rw [str_one] at hcv
  go_enter Tryz.func172, Tryz.ntmps172
  go_wp2
  go_ret
  exact ⟨rfl, (Below.refl _ _).alloc (Nat.le_refl _) _⟩
theorem ret_si' {a b : ByteArray} {c d : Int} (h : a = b) (h' : c = d) : Ending.returned (.tuple #[.string a, .int .i64 c]) = .returned (.tuple #[.string b, .int .i64 d]) := by rw [h, h']
/-- An escape's answer. -/
def ansE (x : List UInt8 × Nat) : Value := .tuple #[.string ⟨x.1.toArray⟩, .int .i64 x.2]
theorem spn_digN (s : ByteArray) : (s.extract 0 (min (spn digN s.data.toList) 3)).data.toList = dgs 3 s.data.toList := by
  rw [dgs_take]; simp
set_option maxHeartbeats 1000000 in
theorem decimal_any (s : ByteArray) (w : World) (hs : s.size ≤ maxLen) : Calls Tryz.prog 168 #[.string s] w fun e w' => e = .returned (ansE (escD s.data.toList)) ∧ Below w.heap.size w w' := by
  have hs' := hs
  unfold maxLen at hs'
  have hle := spn_le digN s.data.toList
  rw [Array.length_toList] at hle
  have hle' : spn digN s.data.toList ≤ s.size := hle
  clear hle
  have hd := spn_digN s
  obtain ⟨k, hk⟩ : ∃ k, spn digN s.data.toList = k := ⟨_, rfl⟩
  have C1 := span_any s 155 digN enters62 (fun r w hr => isDigit_any r w hr) w (by omega)
  rw [hk] at C1 hle' hd
  obtain ⟨p1, p2⟩ := par_dec (dgs 3 s.data.toList) (dgs_all _ _) (dgs_len _ _)
  obtain ⟨x, hx⟩ : ∃ x, s.extract 0 (min k 3) = x := ⟨_, rfl⟩
  rw [hx] at hd
  have hxs : x.size ≤ maxLen := by rw [← hx, ByteArray.size_extract]; unfold maxLen; omega
  have C2 := fun w => W.parse_any x w hxs
  rw [hd] at C2
  have hlen : ((dgs 3 s.data.toList).length : Int) = (min k 3 : Nat) := by
    have := congrArg List.length hd
    rw [← this, ← hx]; simp; omega
  clear hk
  have hmin : min (k : Int) 3 = ((min k 3 : Nat) : Int) := by omega
  obtain ⟨q, hq⟩ : ∃ q : Nat, min k 3 = q := ⟨_, rfl⟩
  rw [hq] at hx hlen hmin
  have hq1 : q ≤ s.size := by omega
  have hq2 : q ≤ 3 := by omega
  clear hq hd
  unfold ansE escD
  by_cases hn : dgs 3 s.data.toList = []
  · rw [p1 hn] at C2
    rw [if_pos (.inl hn)]
    clear p1 p2 hn hlen
    go_enter Tryz.func168, Tryz.ntmps168
    go_wp2_with (first | (go_at_call 112; refine C1.mono ?_; rintro e w1 ⟨rfl, hb⟩) | (go_at_call 144; refine (C2 _).mono ?_; rintro e w' ⟨rfl, rfl⟩))
    go_ret2
    exact ⟨rfl, hb⟩
  · obtain ⟨e1, e2, e3⟩ := p2 hn
    rw [e1, e2] at C2
    obtain ⟨v, hv⟩ : ∃ v, W.dv (dgs 3 s.data.toList) = v := ⟨_, rfl⟩
    rw [hv] at C2 e3 ⊢
    by_cases h255 : 255 < v
    · rw [if_pos (.inr h255)]
      clear p1 p2 hn hlen e1 e2 hv
      go_enter Tryz.func168, Tryz.ntmps168
      go_wp2_with (first | (go_at_call 112; refine C1.mono ?_; rintro e w1 ⟨rfl, hb⟩) | (go_at_call 144; refine (C2 _).mono ?_; rintro e w' ⟨rfl, rfl⟩))
      go_ret2
      exact ⟨rfl, hb⟩
    · have e4 : ((dgs 3 s.data.toList).length : Int) = q := hlen
      rw [if_neg (by intro h; rcases h with h | h; exact hn h; exact h255 h)]
      have C3 := fun w => oneByte_any v w (by omega)
      clear p1 p2 hn hlen e1 e2 hv
      go_enter Tryz.func168, Tryz.ntmps168
      go_wp2_with (first | (go_at_call 112; refine C1.mono ?_; rintro e w1 ⟨rfl, hb⟩) | (go_at_call 144; refine (C2 _).mono ?_; rintro e w' ⟨rfl, rfl⟩) | (go_at_call 172; refine (C3 _).mono ?_; rintro e w2 ⟨rfl, hb2⟩))
      go_ret2
      exact ⟨ret_si' rfl (by omega), hb.trans (hb2.mono hb.size)⟩
theorem app_data (a b : ByteArray) : (a ++ b).data.toList = a.data.toList ++ b.data.toList := by simp
theorem split3 (s : ByteArray) (h : 3 ≤ s.size) : ∃ a b t, s.data.toList.drop 1 = a :: b :: t ∧ (s.extract 1 3).data.toList = [a, b] := by
  obtain ⟨⟨l⟩⟩ := s
  match l, h with
  | c :: a :: b :: t, _ => exact ⟨a, b, t, rfl, by simp⟩
set_option maxHeartbeats 1000000 in
theorem hexa_any (s : ByteArray) (w : World) (hs : s.size ≤ maxLen) : Calls Tryz.prog 166 #[.string s] w fun e w' => e = .returned (ansE (escX (s.data.toList.drop 1))) ∧ Below w.heap.size w w' := by
  have hs' := hs
  unfold maxLen at hs'
  unfold ansE escX
  by_cases h3 : s.size < 3
  · rw [if_neg (hxs_short _ (by rw [List.length_drop, Array.length_toList]; show s.size - 1 < 2; omega))]
    go_enter Tryz.func166, Tryz.ntmps166
    go_wp2
    go_ret2
    exact ⟨rfl, Below.refl _ _⟩
  · obtain ⟨a, b, t, e1, e2⟩ := split3 s (by omega)
    rw [e1]
    have H2 := hxs_two a b t
    obtain ⟨x, hx⟩ : ∃ x, s.extract 1 3 = x := ⟨_, rfl⟩
    have hz : x.size = 2 := by rw [← hx, ByteArray.size_extract]; omega
    rw [hx] at e2
    have C2 := fun w => W.parse_any (⟨#[48, 120]⟩ ++ x) w (by rw [ByteArray.size_append, hz]; decide)
    rw [app_data, e2] at C2
    obtain ⟨p1, p2⟩ := par_hex8 [a, b] (by simp)
    simp only [List.cons_append, List.nil_append] at C2
    cases ha : W.allHex [a, b]
    · rw [p1 (.inr ha)] at C2
      rw [if_neg (fun h => by rw [H2.1 h] at ha; cases ha)]
      clear p1 p2 e1 e2 H2
      go_enter Tryz.func166, Tryz.ntmps166
      go_wp2_with (go_at_call 144; refine (C2 _).mono ?_; rintro e w' ⟨rfl, rfl⟩)
      go_ret2
      exact ⟨rfl, Below.refl _ _⟩
    · obtain ⟨q1, q2⟩ := p2 (by simp) ha
      rw [q1, q2] at C2
      rw [if_pos (H2.2 ha), hxs_two_eq a b t ha]
      have hb := hv_lt 2 [a, b] (by simp) (by simp)
      have hb0 := (W.hv_bound [a, b]).1
      obtain ⟨v, hv⟩ : ∃ v : Nat, W.hv [a, b] = v := ⟨(W.hv [a, b]).toNat, by omega⟩
      rw [hv] at C2 hb ⊢
      have C3 := fun w => oneByte_any v w (by simp at hb; omega)
      clear p1 p2 e1 e2 q1 q2 hb hb0 hv H2
      go_enter Tryz.func166, Tryz.ntmps166
      go_wp2_with (first | (go_at_call 144; refine (C2 _).mono ?_; rintro e w' ⟨rfl, rfl⟩) | (go_at_call 172; refine (C3 _).mono ?_; rintro e w2 ⟨rfl, hb2⟩))
      go_ret2
      exact ⟨ret_si' rfl rfl, hb2⟩
theorem ix_brace (v : List UInt8) : Lib.indexByte (117 :: 123 :: v) 125 = if Lib.indexByte v 125 = -1 then -1 else Lib.indexByte v 125 + 2 := by
  have h := Lib.indexByte_ge v 125
  simp only [Lib.indexByte]
  by_cases h1 : Lib.indexByte v 125 = -1
  · simp [h1]
  · simp [h1]
    split
    · omega
    · omega
set_option maxHeartbeats 2000000 in
theorem codePoint_any (s : ByteArray) (u : List UInt8) (w : World) (hs : s.size ≤ maxLen) (hu : s.data.toList = 117 :: u) : Calls Tryz.prog 167 #[.string s] w fun e w' => e = .returned (ansE (escU u)) ∧ Below w.heap.size w w' := by
  have hs' := hs
  unfold maxLen at hs'
  have CI := fun w => Tryz.strings_IndexByte s 125 w
  have CP := fun w => Tryz.strings_HasPrefix s ⟨#[117, 123]⟩ w
  have e125 : ((125 : Int).toNat.toUInt8) = 125 := by decide
  rw [e125, hu] at CI
  rw [hu] at CP
  unfold ansE escU
  by_cases h1 : u.headD 0 = 123
  · obtain ⟨v, rfl⟩ : ∃ v, u = 123 :: v := by
      cases u with
      | nil => exact absurd h1 (by decide)
      | cons a v => simp at h1; exact ⟨v, by rw [h1]⟩
    have hp : Lib.hasPrefix (117 :: 123 :: v) [117, 123] = true := by simp [Lib.hasPrefix, List.isPrefixOf]
    rw [show (⟨#[117, 123]⟩ : ByteArray).data.toList = [117, 123] from rfl, hp] at CP
    have hge := Lib.indexByte_ge v 125
    rw [ix_brace] at CI
    simp only [List.drop_succ_cons, List.drop_zero]
    by_cases h2 : Lib.indexByte v 125 = -1
    · rw [if_pos h2] at CI
      rw [if_neg (by rintro ⟨_, _, _, h⟩; rw [Nat.add_comm, List.drop_succ_cons] at h; exact no_brace v _ (Lib.indexByte_none h2 _) h)]
      clear hu h1 hp
      go_enter Tryz.func167, Tryz.ntmps167
      go_wp2_with (first | (go_at_call 158; refine (CI _).mono ?_; rintro e w' ⟨rfl, rfl⟩) | (go_at_call 111; refine (CP _).mono ?_; rintro e w' ⟨rfl, rfl⟩))
      go_ret2
      exact ⟨rfl, Below.refl _ _⟩
    · rw [if_neg h2] at CI
      obtain ⟨k, hk⟩ : ∃ k : Nat, Lib.indexByte v 125 = k := ⟨(Lib.indexByte v 125).toNat, by omega⟩
      rw [hk] at CI
      obtain ⟨b1, b2⟩ := Lib.indexByte_some hk
      by_cases h8 : 8 < k
      · rw [if_neg (by rintro ⟨_, _, _, h⟩; rw [Nat.add_comm, List.drop_succ_cons] at h; exact no_brace v _ (b2 _ (by have := hxs_len 8 v; omega)) h)]
        clear hu h1 hp hk h2 b1 b2
        go_enter Tryz.func167, Tryz.ntmps167
        go_wp2_with (first | (go_at_call 158; refine (CI _).mono ?_; rintro e w' ⟨rfl, rfl⟩) | (go_at_call 111; refine (CP _).mono ?_; rintro e w' ⟨rfl, rfl⟩))
        go_ret2
        exact ⟨rfl, Below.refl _ _⟩
      · have hkl : k < v.length := by
          rcases Nat.lt_or_ge k v.length with h | h
          · exact h
          · rw [List.getElem?_eq_none h] at b1; cases b1
        have hsz : s.size = v.length + 2 := by
          have := congrArg List.length hu
          rw [Array.length_toList] at this
          simp at this
          exact this
        obtain ⟨x, hx⟩ : ∃ x, s.extract 2 (k + 2) = x := ⟨_, rfl⟩
        have hz : x.size ≤ 8 := by rw [← hx, ByteArray.size_extract]; omega
        have hxl : x.data.toList = v.take k := by
          rw [← hx]
          have : (s.extract 2 (k + 2)).data.toList = (s.data.toList.drop 2).take k := by simp
          rw [this, hu]; rfl
        obtain ⟨p1, p2⟩ := par_hex8 (v.take k) (by rw [List.length_take]; omega)
        obtain ⟨g1, g2⟩ := hxs_brace v k (by omega) b1 b2
        have C2 := fun w => W.parse_any (⟨#[48, 120]⟩ ++ x) w (by rw [ByteArray.size_append]; unfold maxLen; have : (⟨#[48, 120]⟩ : ByteArray).size = 2 := rfl; omega)
        rw [app_data, hxl] at C2
        simp only [List.cons_append, List.nil_append] at C2
        by_cases hne : v.take k = [] ∨ W.allHex (v.take k) = false
        · rw [p1 hne] at C2
          rw [if_neg (by
            rintro ⟨_, h5, _, h⟩
            rw [Nat.add_comm, List.drop_succ_cons] at h
            rcases hne with hne | hne
            · apply h5; rw [g1 (by rw [hne]; rfl)]; exact hne
            · exact g2 hne h)]
          clear hu h1 hp hk h2 b1 b2 p1 p2 g1 g2 hxl
          go_enter Tryz.func167, Tryz.ntmps167
          go_wp2_with (first | (go_at_call 158; refine (CI _).mono ?_; rintro e w' ⟨rfl, rfl⟩) | (go_at_call 111; refine (CP _).mono ?_; rintro e w' ⟨rfl, rfl⟩) | (go_at_call 144; refine (C2 _).mono ?_; rintro e w' ⟨rfl, rfl⟩))
          go_ret2
          exact ⟨rfl, Below.refl _ _⟩
        · have hne1 : v.take k ≠ [] := fun h => hne (.inl h)
          have hne2 : W.allHex (v.take k) = true := by cases h : W.allHex (v.take k); exact absurd (.inr h) hne; rfl
          obtain ⟨q1, q2⟩ := p2 hne1 hne2
          rw [q1, q2] at C2
          rw [g1 hne2]
          have hl : (v.take k).length = k := by rw [List.length_take]; omega
          have hd : (v.drop k).headD 0 = 125 := by
            rw [List.getElem?_eq_getElem hkl] at b1
            rw [List.drop_eq_getElem_cons hkl, Option.some.inj b1]; rfl
          rw [hl]
          have hd' : ((123 :: v).drop (1 + k)).headD 0 = 125 := by rw [Nat.add_comm, List.drop_succ_cons]; exact hd
          obtain ⟨r, hr⟩ : ∃ r, W.hv (v.take k) = r := ⟨_, rfl⟩
          rw [hr] at C2 ⊢
          have C4 := fun w => encode_any r w
          cases he : encB r
          · have e1 : encE r = 3 := by simp [encE, he]
            rw [e1] at C4
            rw [if_neg (by rintro ⟨_, _, h, _⟩; exact Bool.false_ne_true h)]
            clear hu h1 hp hk h2 b1 b2 p1 p2 g1 g2 hxl q1 q2 hd hd' hl hr e1 hne
            go_enter Tryz.func167, Tryz.ntmps167
            go_wp2_with (first | (go_at_call 158; refine (CI _).mono ?_; rintro e w' ⟨rfl, rfl⟩) | (go_at_call 111; refine (CP _).mono ?_; rintro e w' ⟨rfl, rfl⟩) | (go_at_call 144; refine (C2 _).mono ?_; rintro e w' ⟨rfl, rfl⟩) | (go_at_call 173; refine (C4 _).mono ?_; rintro e w' ⟨rfl, rfl⟩))
            go_ret2
            exact ⟨rfl, Below.refl _ _⟩
          · have e1 : encE r = 0 := by simp [encE, he]
            rw [e1] at C4
            rw [if_pos ⟨h1, hne1, rfl, hd'⟩]
            clear hu h1 hp hk h2 b1 b2 p1 p2 g1 g2 hxl q1 q2 hd hd' hl hr e1 hne
            go_enter Tryz.func167, Tryz.ntmps167
            go_wp2_with (first | (go_at_call 158; refine (CI _).mono ?_; rintro e w' ⟨rfl, rfl⟩) | (go_at_call 111; refine (CP _).mono ?_; rintro e w' ⟨rfl, rfl⟩) | (go_at_call 144; refine (C2 _).mono ?_; rintro e w' ⟨rfl, rfl⟩) | (go_at_call 173; refine (C4 _).mono ?_; rintro e w' ⟨rfl, rfl⟩))
            go_ret2
            exact ⟨ret_si' rfl (by omega), Below.refl _ _⟩
  · have hp : Lib.hasPrefix (117 :: u) [117, 123] = false := by
      cases u with
      | nil => rfl
      | cons a v => simp at h1; simp [Lib.hasPrefix, List.isPrefixOf]; exact fun h => h1 h.symm
    rw [show (⟨#[117, 123]⟩ : ByteArray).data.toList = [117, 123] from rfl, hp] at CP
    rw [if_neg (fun h => h1 h.1)]
    clear hu h1 hp
    go_enter Tryz.func167, Tryz.ntmps167
    go_wp2_with (first | (go_at_call 158; refine (CI _).mono ?_; rintro e w' ⟨rfl, rfl⟩) | (go_at_call 111; refine (CP _).mono ?_; rintro e w' ⟨rfl, rfl⟩))
    go_ret2
    exact ⟨rfl, Below.refl _ _⟩
end Go.Proofs.YtmejlldabdjpjaaGreat
