/- The grammar as a plain function of the tokens. -/
import Derived.Test.YtlgkfhipobdcfabGreatDoorCg02
import Derived.Test.YtlgkfhipobdcfabGreatDoorCg04
namespace Go.Proofs.YtlgkfhipobdcfabGreatDoor

/-- A row of trees: the first one's kind, text, number, place and kids, then the trees behind it. -/
inductive F
  | nil
  | cons (k : Int) (t : List UInt8) (n p : Int) (ks r : F)
def F.app : F → F → F
  | .nil, g => g
  | .cons k t n p ks r, g => .cons k t n p ks (r.app g)
def F.len : F → Nat
  | .nil => 0
  | .cons _ _ _ _ _ r => r.len + 1
def F.at : F → Int
  | .nil => 0
  | .cons _ _ _ p _ _ => p
def F.kind : F → Int
  | .nil => 0
  | .cons k _ _ _ _ _ => k
def F.text : F → List UInt8
  | .nil => []
  | .cons _ t _ _ _ _ => t
def one (k : Int) (t : List UInt8) (n p : Int) (ks : F) : F := .cons k t n p ks .nil
theorem F.app_nil : ∀ f : F, f.app .nil = f
  | .nil => rfl
  | .cons k t n p ks r => by rw [F.app, r.app_nil]
theorem F.app_assoc : ∀ f g h : F, (f.app g).app h = f.app (g.app h)
  | .nil, _, _ => rfl
  | .cons k t n p ks r, g, h => by simp only [F.app, F.app_assoc r g h]
theorem F.len_app : ∀ f g : F, (f.app g).len = f.len + g.len
  | .nil, g => by simp [F.app, F.len]
  | .cons k t n p ks r, g => by simp only [F.app, F.len, F.len_app r g]; omega

/-- The words and signs by their numbers. -/
def wds : Nat → List UInt8
  | 1 => [59] | 2 => [114, 101, 116, 117, 114, 110] | 3 => [102, 117, 110, 99, 116, 105, 111, 110] | 4 => [101, 110, 100] | 5 => [101, 108, 115, 101]
  | 6 => [101, 108, 115, 101, 105, 102] | 7 => [100, 111] | 8 => [119, 104, 105, 108, 101] | 9 => [105, 102] | 10 => [102, 111, 114]
  | 11 => [108, 111, 99, 97, 108] | 12 => [98, 114, 101, 97, 107] | 13 => [116, 104, 101, 110] | 14 => [61] | 15 => [44]
  | 16 => [105, 110] | 17 => [40] | 18 => [41] | 19 => [91] | 20 => [93]
  | 21 => [46] | 22 => [123] | 23 => [125] | 24 => [110, 111, 116] | 25 => [35]
  | 26 => [45] | 27 => [110, 105, 108] | 28 => [116, 114, 117, 101] | 29 => [102, 97, 108, 115, 101] | 30 => [111, 114]
  | 31 => [97, 110, 100] | 32 => [60] | 33 => [62] | 34 => [60, 61] | 35 => [62, 61]
  | 36 => [126, 61] | 37 => [61, 61] | 38 => [46, 46] | 39 => [43] | 40 => [42]
  | 41 => [47, 47] | 42 => [37] | _ => []
/-- The number of a word or sign; 0: none of them. -/
def code (t : List UInt8) : Nat := ((List.range 42).find? fun i => wds (i + 1) == t).elim 0 (· + 1)
/-- Is it that word or sign? -/
def rd (t : Tok) (w : List UInt8) : Bool := (t.k == 2 || t.k == 5) && t.t == w
/-- A token's class: a word's or sign's number, else 50 and its kind. -/
def cls (t : Tok) : Nat := if t.k = 2 ∨ t.k = 5 then code t.t else if t.k = 1 then 51 else if t.k = 3 then 53 else if t.k = 4 then 54 else if t.k = 6 then 56 else 50
theorem code_wds' : ∀ c ∈ List.range 43, 1 ≤ c → code (wds c) = c := by decide
theorem code_wds (c : Nat) (h : 1 ≤ c) (h2 : c ≤ 42) : code (wds c) = c := code_wds' c (List.mem_range.2 (by omega)) h
theorem code_inv (t : List UInt8) (c : Nat) (h : code t = c) (hc : c ≠ 0) : wds c = t ∧ c ≤ 42 := by
  unfold code at h
  cases hf : (List.range 42).find? fun i => wds (i + 1) == t with
  | none => rw [hf] at h; exact absurd h.symm hc
  | some i =>
    rw [hf] at h
    have h1 := List.find?_some hf
    have h2 := List.mem_of_find?_eq_some hf
    simp at h1 h2 h
    subst h
    exact ⟨h1, by omega⟩
theorem code_le (t : List UInt8) : code t ≤ 42 := by
  by_cases h : code t = 0
  · omega
  · exact (code_inv t _ rfl h).2
theorem rd_cls (t : Tok) (c : Nat) (h1 : 1 ≤ c) (h2 : c ≤ 42) : rd t (wds c) = decide (cls t = c) := by
  unfold rd cls
  by_cases hk : t.k = 2 ∨ t.k = 5
  · rw [if_pos hk]
    have : (t.k == 2 || t.k == 5) = true := by simpa using hk
    rw [this, Bool.true_and]
    by_cases ht : t.t = wds c
    · rw [ht, code_wds c h1 h2]; simp
    · have : ¬ code t.t = c := fun h => ht (code_inv _ _ h (by omega)).1.symm
      simp [ht, this]
  · rw [if_neg hk]
    have h0 : (t.k == 2 || t.k == 5) = false := by simpa using hk
    rw [h0, Bool.false_and]
    symm
    simp only [decide_eq_false_iff_not]
    split
    · omega
    · split
      · omega
      · split
        · omega
        · split <;> omega
theorem cls_word (t : Tok) (c : Nat) (h : cls t = c) (h1 : 1 ≤ c) (h2 : c ≤ 42) : (t.k = 2 ∨ t.k = 5) ∧ t.t = wds c := by
  have := rd_cls t c h1 h2
  rw [h] at this
  simp [rd] at this
  exact ⟨this.1, this.2⟩
theorem cls_kind (t : Tok) (c : Nat) (h : cls t = c) (h1 : 51 ≤ c) : t.k = c - 50 := by
  unfold cls at h
  have := code_le t.t
  split at h
  · omega
  · split at h
    · omega
    · split at h
      · omega
      · split at h
        · omega
        · split at h <;> omega
theorem cls_of_kind (t : Tok) (c : Nat) (h : t.k = c) (hc : c = 1 ∨ c = 3 ∨ c = 4 ∨ c = 6) : cls t = 50 + c := by
  unfold cls
  rcases hc with rfl | rfl | rfl | rfl <;> simp [h]
theorem cls_le (t : Tok) : cls t ≤ 56 := by
  unfold cls
  have := code_le t.t
  split
  · omega
  · split
    · omega
    · split
      · omega
      · split
        · omega
        · split <;> omega

/-- How much an operator binds. -/
def bnd (c : Nat) : Nat :=
  if c = 30 then 1 else if c = 31 then 2 else if 32 ≤ c ∧ c ≤ 37 then 3 else if c = 38 then 4 else if c = 39 ∨ c = 26 then 5 else if 40 ≤ c ∧ c ≤ 42 then 6 else 0

/-- What a going through tells: trees and the tokens left, a fault's place, or that the number of steps was too small. -/
inductive PR
  | ok (f : F) (l : List Tok)
  | bad (p : Int)
  | out
def PR.bind (x : PR) (k : F → List Tok → PR) : PR :=
  match x with
  | .ok f l => k f l
  | .bad p => .bad p
  | .out => .out
/-- What is to be gone through. -/
inductive J
  | blk (c : Bool) | bk (c : Bool) (a : F) | stat | lst (a : F) | nms (a : F) | ifs (a : F) | asg (a : F)
  | ex (a : Nat) | exl (a : Nat) (f : F) | opd | suf | sufl (f : F) | tab (a : F) | fld

def hc : List Tok → Nat
  | [] => 56
  | t :: _ => cls t
def ha : List Tok → Int
  | [] => 0
  | t :: _ => t.p
def ht : List Tok → List UInt8
  | [] => []
  | t :: _ => t.t
def hv : List Tok → Int
  | [] => 0
  | t :: _ => t.v
def need (c : Nat) (l : List Tok) (k : List Tok → PR) : PR := if hc l = c then k l.tail else .bad (ha l)
def nam (q : Int) (l : List Tok) (k : F → List Tok → PR) : PR := if hc l = 51 then k (one q (ht l) 0 (ha l) .nil) l.tail else .bad (ha l)
def closes (l : List Tok) : Bool := hc l = 56 ∨ hc l = 4 ∨ hc l = 5 ∨ hc l = 6

section
variable (rec : J → List Tok → PR)
def bodyP (l : List Tok) (k : F → List Tok → PR) : PR := need 7 l fun l => (rec (.blk false) l).bind fun f l => need 4 l fun l => k f l
def lastP (l : List Tok) : PR :=
  if hc l.tail = 1 then .ok (one 30 [] 0 (ha l) .nil) l.tail.tail
  else if closes l.tail then .ok (one 30 [] 0 (ha l) .nil) l.tail
  else (rec (.lst .nil) l.tail).bind fun f m => .ok (one 30 [] 0 (ha l) f) (if hc m = 1 then m.tail else m)
/-- The parameters: the names up to the closing sign. -/
def parP (l : List Tok) : PR := if hc l = 18 then .ok .nil l else nam 6 l fun f l => rec (.nms f) l
def funP (l : List Tok) : PR :=
  nam 6 l.tail fun m l1 => need 17 l1 fun l1 => (parP rec l1).bind fun ps l1 => need 18 l1 fun l1 =>
    (rec (.blk false) l1).bind fun b l1 => need 4 l1 fun l1 => .ok (one 31 m.text ps.len (ha l) (ps.app b)) l1
def whileP (l : List Tok) : PR := (rec (.ex 0) l.tail).bind fun e l1 => bodyP rec l1 fun b l1 => .ok (one 25 [] 0 (ha l) (e.app b)) l1
def ifP (l : List Tok) : PR := (rec (.ifs .nil) l.tail).bind fun f l1 => .ok (one 24 [] 0 (ha l) f) l1
/-- A condition and its block behind what there is. -/
def brP (a : F) (l : List Tok) : PR := (rec (.ex 0) l).bind fun e l => need 13 l fun l => (rec (.blk false) l).bind fun b l => .ok ((a.app e).app b) l
def numP (at' : Int) (a : F) (l : List Tok) : PR :=
  (rec (.ex 0) l).bind fun e1 l => need 15 l fun l => (rec (.ex 0) l).bind fun e2 l =>
    if hc l = 15 then (rec (.ex 0) l.tail).bind fun e3 l => bodyP rec l fun b l => .ok (one 26 [] 0 at' ((((a.app e1).app e2).app e3).app b)) l
    else bodyP rec l fun b l => .ok (one 26 [] 0 at' (((a.app e1).app e2).app b)) l
def forP (l : List Tok) : PR :=
  nam 6 l.tail fun m l1 =>
    if hc l1 = 14 then numP rec (ha l) m l1.tail
    else (rec (.nms m) l1).bind fun ns l1 => need 16 l1 fun l1 => (rec (.lst ns) l1).bind fun f l1 => bodyP rec l1 fun b l1 => .ok (one 27 [] ns.len (ha l) (f.app b)) l1
def locP (l : List Tok) : PR :=
  nam 6 l.tail fun m l1 => (rec (.nms m) l1).bind fun ns l1 =>
    if hc l1 = 14 then (rec (.lst ns) l1.tail).bind fun f l1 => .ok (one 21 [] ns.len (ha l) f) l1
    else .ok (one 21 [] ns.len (ha l) ns) l1
def tgt (f : F) (k : PR) : PR := if f.kind = 6 ∨ f.kind = 7 then k else .bad f.at
def asgP (l : List Tok) : PR :=
  (rec .suf l).bind fun f l1 =>
    if hc l1 = 14 ∨ hc l1 = 15 then
      tgt f ((rec (.asg f) l1).bind fun ts l1 => need 14 l1 fun l1 => (rec (.lst ts) l1).bind fun g l1 => .ok (one 22 [] ts.len f.at g) l1)
    else if f.kind = 8 then .ok (one 23 [] 0 f.at f) l1 else .bad (ha l1)
def argP (a : F) (l : List Tok) : PR := if hc l = 18 then .ok a l.tail else (rec (.lst a) l).bind fun f l => need 18 l fun l => .ok f l
def stemP (l : List Tok) : PR :=
  if hc l = 17 then (rec (.ex 0) l.tail).bind fun e l1 => need 18 l1 fun l1 => .ok (one 9 [] 0 (ha l) e) l1
  else nam 6 l fun f l => .ok f l
def tabP (l : List Tok) : PR := (rec (.tab .nil) l.tail).bind fun f l1 => need 23 l1 fun l1 => .ok (one 12 [] 0 (ha l) f) l1

def stp' : J → List Tok → PR
  | .blk c, l => (rec (.bk c .nil) l).bind fun f l1 => .ok (one 20 [] 0 (ha l) f) l1
  | .bk c a, l =>
    if hc l = 1 then rec (.bk c a) l.tail
    else if hc l = 2 then (lastP rec l).bind fun f l => .ok (a.app f) l
    else if c = true ∧ hc l = 3 then (funP rec l).bind fun f l => rec (.bk c (a.app f)) l
    else if closes l then .ok a l
    else (rec .stat l).bind fun f l => rec (.bk c (a.app f)) l
  | .stat, l =>
    if hc l = 7 then bodyP rec l fun b l1 => .ok (one 28 [] 0 (ha l) b) l1
    else if hc l = 8 then whileP rec l
    else if hc l = 9 then ifP rec l
    else if hc l = 10 then forP rec l
    else if hc l = 11 then locP rec l
    else if hc l = 12 then .ok (one 29 [] 0 (ha l) .nil) l.tail
    else asgP rec l
  | .lst a, l => (rec (.ex 0) l).bind fun f l => if hc l = 15 then rec (.lst (a.app f)) l.tail else .ok (a.app f) l
  | .nms a, l => if hc l = 15 then nam 6 l.tail fun f l => rec (.nms (a.app f)) l else .ok a l
  | .ifs a, l => (brP rec a l).bind fun f l =>
    if hc l = 6 then rec (.ifs f) l.tail
    else if hc l = 5 then (rec (.blk false) l.tail).bind fun b l => need 4 l fun l => .ok (f.app b) l
    else need 4 l fun l => .ok f l
  | .asg a, l => if hc l = 15 then (rec .suf l.tail).bind fun f l => tgt f (rec (.asg (a.app f)) l) else .ok a l
  | .ex a, l => (rec .opd l).bind fun f l => rec (.exl a f) l
  | .exl a f, l =>
    if a < bnd (hc l) then (rec (.ex (if bnd (hc l) = 4 then 3 else bnd (hc l))) l.tail).bind fun g l1 => rec (.exl a (one 11 (ht l) 0 f.at (f.app g))) l1
    else .ok f l
  | .opd, l =>
    if hc l = 51 ∨ hc l = 17 then rec .suf l
    else if hc l = 22 then tabP rec l
    else if hc l = 24 ∨ hc l = 25 ∨ hc l = 26 then (rec .opd l.tail).bind fun f l1 => .ok (one 10 (ht l) 0 (ha l) f) l1
    else if hc l = 53 then .ok (one 4 [] (hv l) (ha l) .nil) l.tail
    else if hc l = 54 then .ok (one 5 (ht l) 0 (ha l) .nil) l.tail
    else if hc l = 27 then .ok (one 1 [] 0 (ha l) .nil) l.tail
    else if hc l = 28 then .ok (one 2 [] 0 (ha l) .nil) l.tail
    else if hc l = 29 then .ok (one 3 [] 0 (ha l) .nil) l.tail
    else .bad (ha l)
  | .suf, l => (stemP rec l).bind fun f l => rec (.sufl f) l
  | .sufl f, l =>
    if hc l = 19 then (rec (.ex 0) l.tail).bind fun k l => need 20 l fun l => rec (.sufl (one 7 [] 0 f.at (f.app k))) l
    else if hc l = 21 then nam 5 l.tail fun k l => rec (.sufl (one 7 [] 0 f.at (f.app k))) l
    else if hc l = 17 then (argP rec f l.tail).bind fun g l => rec (.sufl (one 8 [] 0 f.at g)) l
    else .ok f l
  | .tab a, l =>
    if hc l = 23 then .ok a l
    else (rec .fld l).bind fun f l => if hc l = 15 ∨ hc l = 1 then rec (.tab (a.app f)) l.tail else .ok (a.app f) l
  | .fld, l =>
    if hc l = 19 then (rec (.ex 0) l.tail).bind fun k l1 => need 20 l1 fun l1 => need 14 l1 fun l1 => (rec (.ex 0) l1).bind fun v l1 => .ok (one 14 [] 0 (ha l) (k.app v)) l1
    else if hc l = 51 ∧ hc l.tail = 14 then (rec (.ex 0) l.tail.tail).bind fun v l1 => .ok (one 14 [] 0 (ha l) ((one 5 (ht l) 0 (ha l) .nil).app v)) l1
    else (rec (.ex 0) l).bind fun v l1 => .ok (one 13 [] 0 (ha l) v) l1
end

/-- The going through with a number of steps. -/
def pr : Nat → J → List Tok → PR
  | 0 => fun _ _ => .out
  | n + 1 => stp' (pr n)
theorem pr_succ (n : Nat) (j : J) (l : List Tok) : pr (n + 1) j l = stp' (pr n) j l := rfl
theorem pr_zero (j : J) (l : List Tok) : pr 0 j l = .out := rfl

theorem bind_out {x : PR} {k : F → List Tok → PR} (h : x.bind k ≠ .out) : x ≠ .out := by
  intro e; rw [e] at h; exact h rfl

end Go.Proofs.YtlgkfhipobdcfabGreatDoor

/- The grammar's going through ends: a number of steps that is enough; the tokens grow fewer. -/
namespace Go.Proofs.YtlgkfhipobdcfabGreatDoor

/-- Fewer than m tokens are left; where b holds, the steps were enough. -/
def G (b : Prop) (m : Nat) : PR → Prop
  | .ok _ l => l.length < m
  | .bad _ => True
  | .out => ¬ b
theorem G.mono {b b' : Prop} {m m' : Nat} {x : PR} (h : G b' m' x) (hb : b → b') (hm : m' ≤ m) : G b m x := by
  cases x with
  | ok f l => exact Nat.lt_of_lt_of_le h hm
  | bad p => exact trivial
  | out => exact fun e => h (hb e)
theorem G.bind {b : Prop} {a m : Nat} {x : PR} {k : F → List Tok → PR} (h : G b a x) (hk : ∀ f l, l.length < a → G b m (k f l)) : G b m (x.bind k) := by
  cases x with
  | ok f l => exact hk f l h
  | bad p => exact trivial
  | out => exact h
theorem tail_len {l : List Tok} (h : hc l ≠ 56) : l.tail.length + 1 = l.length := by
  cases l with
  | nil => exact absurd rfl h
  | cons t l => rfl
theorem G.need {b : Prop} {m c : Nat} {l : List Tok} {k : List Tok → PR} (hc' : c ≠ 56) (h : l.tail.length + 1 = l.length → G b m (k l.tail)) : G b m (need c l k) := by
  unfold Go.Proofs.YtlgkfhipobdcfabGreatDoor.need
  split
  · next e => exact h (tail_len (by rw [e]; exact hc'))
  · exact trivial
theorem G.nam {b : Prop} {m : Nat} {q : Int} {l : List Tok} {k : F → List Tok → PR} (h : ∀ f, l.tail.length + 1 = l.length → G b m (k f l.tail)) : G b m (nam q l k) := by
  unfold Go.Proofs.YtlgkfhipobdcfabGreatDoor.nam
  split
  · next e => exact h _ (tail_len (by rw [e]; decide))
  · exact trivial

def rk : J → Nat
  | .blk _ => 3 | .bk _ _ => 2 | .stat => 1 | .lst _ => 3 | .nms _ => 0 | .ifs _ => 3 | .asg _ => 0
  | .ex _ => 2 | .exl _ _ => 0 | .opd => 1 | .suf => 0 | .sufl _ => 0 | .tab _ => 4 | .fld => 3
/-- How many tokens are taken at least. -/
def st : J → Nat
  | .blk _ => 0 | .bk _ _ => 0 | .stat => 1 | .lst _ => 1 | .nms _ => 0 | .ifs _ => 1 | .asg _ => 0
  | .ex _ => 1 | .exl _ _ => 0 | .opd => 1 | .suf => 1 | .sufl _ => 0 | .tab _ => 0 | .fld => 1

section
variable {rec : J → List Tok → PR} {n : Nat} (ih : ∀ j l, G (8 * l.length + rk j < n) (l.length + 1 - st j) (rec j l))
include ih
theorem g_rec {b : Prop} {m : Nat} (j : J) (l : List Tok) (hb : b → 8 * l.length + rk j < n) (hm : l.length + 1 - st j ≤ m) : G b m (rec j l) := (ih j l).mono hb hm
theorem g_body {b : Prop} {m : Nat} {l : List Tok} {k : F → List Tok → PR} (hb : b → 8 * l.length < n + 2) (h : ∀ f l1, l1.length + 1 < l.length → G b m (k f l1)) : G b m (bodyP rec l k) := by
  unfold bodyP
  refine .need (by decide) fun e => .bind (g_rec ih (.blk false) _ (fun x => by have := hb x; simp only [rk]; omega) (Nat.le_refl _)) fun f l1 h1 => .need (by decide) fun e1 => h f _ (by simp only [st] at h1; omega)
end

set_option maxHeartbeats 1000000 in
theorem g_step {rec : J → List Tok → PR} {n : Nat} (ih : ∀ j l, G (8 * l.length + rk j < n) (l.length + 1 - st j) (rec j l)) (j : J) (l : List Tok) :
    G (8 * l.length + rk j < n + 1) (l.length + 1 - st j) (stp' rec j l) := by
  have R := fun {b : Prop} (j : J) (l : List Tok) (hb : b → 8 * l.length + rk j < n) => g_rec ih (b := b) j l hb (Nat.le_refl _)
  have lastG : l.tail.length + 1 = l.length → ∀ m, l.length ≤ m → G (8 * l.length < n + 1) m (lastP rec l) := by
    intro e m hm
    unfold lastP
    split
    · next h => have := tail_len (l := l.tail) (by rw [h]; decide); show _ < _; omega
    · split
      · show _ < _; omega
      · refine .bind (R (.lst .nil) _ (fun x => by simp only [rk]; omega)) fun f l1 h1 => ?_
        show _ < _
        simp only [st] at h1
        split
        · have : l1.tail.length ≤ l1.length := by simp
          omega
        · omega
  have nmsG : ∀ (f : F) (l1 : List Tok), l1.length < l.length → G (8 * l.length < n + 1) l.length (rec (.nms f) l1) := fun f l1 h => g_rec ih _ _ (fun x => by simp only [rk]; omega) (by simp only [st]; omega)
  have funG : l.tail.length + 1 = l.length → G (8 * l.length < n + 1) l.length (funP rec l) := by
    intro e
    unfold funP parP
    refine .nam fun m e1 => .need (by decide) fun e2 => .bind (a := l.length - 1) ?_ fun ps l1 h1 => .need (by decide) fun e3 => .bind (R (.blk false) _ (fun x => by simp only [rk]; omega)) fun b l2 h2 => .need (by decide) fun e4 => ?_
    · split
      · show _ < _; omega
      · exact .nam fun f e5 => g_rec ih _ _ (fun x => by simp only [rk]; omega) (by simp only [st]; omega)
    · show _ < _
      simp only [st] at h2
      omega
  cases j with
  | blk c =>
    refine .bind (R _ _ (fun x => by simp only [rk] at x ⊢; omega)) fun f l1 h1 => ?_
    show _ < _
    simp only [st] at h1 ⊢; omega
  | bk c a =>
    simp only [stp', st, rk]
    split
    · next h => have := tail_len (l := l) (by rw [h]; decide); exact g_rec ih _ _ (fun x => by simp only [rk]; omega) (by simp only [st]; omega)
    · split
      · next h => exact .bind ((lastG (tail_len (by rw [h]; decide)) l.length (Nat.le_refl _)).mono (fun x => by omega) (Nat.le_refl _)) fun f l1 h1 => by show _ < _; omega
      · split
        · next h =>
          refine .bind ((funG (tail_len (by rw [h.2]; decide))).mono (fun x => by omega) (Nat.le_refl _)) fun f l1 h1 => ?_
          exact g_rec ih _ _ (fun x => by simp only [rk]; omega) (by simp only [st]; omega)
        · split
          · show _ < _; omega
          · refine .bind (R .stat l (fun x => by simp only [rk]; omega)) fun f l1 h1 => ?_
            simp only [st] at h1
            exact g_rec ih _ _ (fun x => by simp only [rk]; omega) (by simp only [st]; omega)
  | stat =>
    simp only [stp', st, rk]
    split
    · exact g_body ih (fun x => by omega) fun f l1 h1 => by show _ < _; omega
    · split
      · next h =>
        have := tail_len (l := l) (by rw [h]; decide)
        unfold whileP
        refine .bind (R (.ex 0) _ (fun x => by simp only [rk]; omega)) fun f l1 h1 => ?_
        simp only [st] at h1
        exact g_body ih (fun x => by omega) fun f l1 h1 => by show _ < _; omega
      · split
        · next h =>
          have := tail_len (l := l) (by rw [h]; decide)
          unfold ifP
          refine .bind (R (.ifs .nil) _ (fun x => by simp only [rk]; omega)) fun f l1 h1 => ?_
          simp only [st] at h1
          show _ < _; omega
        · split
          · next h =>
            have := tail_len (l := l) (by rw [h]; decide)
            unfold forP
            refine .nam fun m e1 => ?_
            split
            · next h2 =>
              have := tail_len (l := l.tail.tail) (by rw [h2]; decide)
              unfold numP
              refine .bind (R (.ex 0) _ (fun x => by simp only [rk]; omega)) fun f l1 h1 => .need (by decide) fun e2 => .bind (R (.ex 0) _ (fun x => by simp only [rk, st] at h1 ⊢; omega)) fun g l2 h3 => ?_
              simp only [st] at h1 h3
              split
              · next h4 =>
                have := tail_len (l := l2) (by rw [h4]; decide)
                refine .bind (R (.ex 0) _ (fun x => by simp only [rk]; omega)) fun f l1 h1 => ?_
                simp only [st] at h1
                exact g_body ih (fun x => by omega) fun f l1 h1 => by show _ < _; omega
              · exact g_body ih (fun x => by omega) fun f l1 h1 => by show _ < _; omega
            · refine .bind (R (.nms m) _ (fun x => by simp only [rk]; omega)) fun ns l1 h1 => .need (by decide) fun e2 => .bind (R (.lst ns) _ (fun x => by simp only [rk, st] at h1 ⊢; omega)) fun g l2 h3 => ?_
              simp only [st] at h1 h3
              exact g_body ih (fun x => by omega) fun f l1 h1 => by show _ < _; omega
          · split
            · next h =>
              have := tail_len (l := l) (by rw [h]; decide)
              unfold locP
              refine .nam fun m e1 => .bind (R (.nms m) _ (fun x => by simp only [rk]; omega)) fun ns l1 h1 => ?_
              simp only [st] at h1
              split
              · next h2 =>
                have := tail_len (l := l1) (by rw [h2]; decide)
                refine .bind (R (.lst ns) _ (fun x => by simp only [rk]; omega)) fun f l2 h3 => ?_
                simp only [st] at h3
                show _ < _; omega
              · show _ < _; omega
            · split
              · next h =>
                have := tail_len (l := l) (by rw [h]; decide)
                show _ < _; omega
              · unfold asgP tgt
                refine .bind (R .suf _ (fun x => by simp only [rk]; omega)) fun f l1 h1 => ?_
                simp only [st] at h1
                split
                · split
                  · refine .bind (R (.asg f) _ (fun x => by simp only [rk]; omega)) fun ts l2 h2 => .need (by decide) fun e2 => .bind (R (.lst ts) _ (fun x => by simp only [rk, st] at h2 ⊢; omega)) fun g l3 h3 => ?_
                    simp only [st] at h2 h3
                    show _ < _; omega
                  · exact trivial
                · split
                  · show _ < _; omega
                  · exact trivial
  | lst a =>
    simp only [stp', st, rk]
    refine .bind (R (.ex 0) _ (fun x => by simp only [rk]; omega)) fun f l1 h1 => ?_
    simp only [st] at h1
    split
    · next h =>
      have := tail_len (l := l1) (by rw [h]; decide)
      exact g_rec ih _ _ (fun x => by simp only [rk]; omega) (by simp only [st]; omega)
    · show _ < _; omega
  | nms a =>
    simp only [stp', st, rk]
    split
    · next h =>
      have := tail_len (l := l) (by rw [h]; decide)
      exact .nam fun f e => g_rec ih _ _ (fun x => by simp only [rk]; omega) (by simp only [st]; omega)
    · show _ < _; omega
  | ifs a =>
    simp only [stp', st, rk, brP]
    refine .bind (a := l.length - 1) (.bind (R (.ex 0) _ (fun x => by simp only [rk]; omega)) fun e l1 h1 => .need (by decide) fun e1 => .bind (R (.blk false) _ (fun x => by simp only [rk, st] at h1 ⊢; omega)) fun b l2 h2 => ?_) fun f l1 h1 => ?_
    · simp only [st] at h1 h2
      show _ < _; omega
    · split
      · next h =>
        have := tail_len (l := l1) (by rw [h]; decide)
        exact g_rec ih _ _ (fun x => by simp only [rk]; omega) (by simp only [st]; omega)
      · split
        · next h =>
          have := tail_len (l := l1) (by rw [h]; decide)
          refine .bind (R (.blk false) _ (fun x => by simp only [rk]; omega)) fun b l2 h2 => .need (by decide) fun e1 => ?_
          simp only [st] at h2
          show _ < _; omega
        · exact .need (by decide) fun e1 => by show _ < _; omega
  | asg a =>
    simp only [stp', st, rk, tgt]
    split
    · next h =>
      have := tail_len (l := l) (by rw [h]; decide)
      refine .bind (R .suf _ (fun x => by simp only [rk]; omega)) fun f l1 h1 => ?_
      simp only [st] at h1
      split
      · exact g_rec ih _ _ (fun x => by simp only [rk]; omega) (by simp only [st]; omega)
      · exact trivial
    · show _ < _; omega
  | ex a =>
    simp only [stp', st, rk]
    refine .bind (R .opd _ (fun x => by simp only [rk]; omega)) fun f l1 h1 => ?_
    simp only [st] at h1
    exact g_rec ih _ _ (fun x => by simp only [rk]; omega) (by simp only [st]; omega)
  | exl a f =>
    simp only [stp', st, rk]
    split
    · next h =>
      have := tail_len (l := l) (by intro e; rw [e] at h; exact absurd h (by simp [bnd]))
      refine .bind (R (.ex _) _ (fun x => by simp only [rk]; omega)) fun g l1 h1 => ?_
      simp only [st] at h1
      exact g_rec ih _ _ (fun x => by simp only [rk]; omega) (by simp only [st]; omega)
    · show _ < _; omega
  | opd =>
    simp only [stp', st, rk]
    have tl : ∀ c, hc l = c → c ≠ 56 → l.tail.length + 1 = l.length := fun c h h2 => tail_len (by rw [h]; exact h2)
    split
    · exact g_rec ih _ _ (fun x => by simp only [rk]; omega) (by simp only [st]; omega)
    · split
      · next h =>
        have := tl _ h (by decide)
        unfold tabP
        refine .bind (R (.tab .nil) _ (fun x => by simp only [rk]; omega)) fun f l1 h1 => .need (by decide) fun e1 => ?_
        simp only [st] at h1
        show _ < _; omega
      · split
        · next h =>
          have : l.tail.length + 1 = l.length := by rcases h with h | h | h <;> exact tl _ h (by decide)
          refine .bind (R .opd _ (fun x => by simp only [rk]; omega)) fun f l1 h1 => ?_
          simp only [st] at h1
          show _ < _; omega
        · split
          · next h => have := tl _ h (by decide); show _ < _; omega
          · split
            · next h => have := tl _ h (by decide); show _ < _; omega
            · split
              · next h => have := tl _ h (by decide); show _ < _; omega
              · split
                · next h => have := tl _ h (by decide); show _ < _; omega
                · split
                  · next h => have := tl _ h (by decide); show _ < _; omega
                  · exact trivial
  | suf =>
    simp only [stp', st, rk, stemP]
    refine .bind (a := l.length) ?_ fun f l1 h1 => g_rec ih _ _ (fun x => by simp only [rk]; omega) (by simp only [st]; omega)
    split
    · next h =>
      have := tail_len (l := l) (by rw [h]; decide)
      refine .bind (R (.ex 0) _ (fun x => by simp only [rk]; omega)) fun e l1 h1 => .need (by decide) fun e1 => ?_
      simp only [st] at h1
      show _ < _; omega
    · exact .nam fun f e => by show _ < _; omega
  | sufl f =>
    simp only [stp', st, rk, argP]
    split
    · next h =>
      have := tail_len (l := l) (by rw [h]; decide)
      refine .bind (R (.ex 0) _ (fun x => by simp only [rk]; omega)) fun e l1 h1 => .need (by decide) fun e1 => ?_
      simp only [st] at h1
      exact g_rec ih _ _ (fun x => by simp only [rk]; omega) (by simp only [st]; omega)
    · split
      · next h =>
        have := tail_len (l := l) (by rw [h]; decide)
        exact .nam fun f e => g_rec ih _ _ (fun x => by simp only [rk]; omega) (by simp only [st]; omega)
      · split
        · next h =>
          have := tail_len (l := l) (by rw [h]; decide)
          refine .bind (a := l.length) ?_ fun g l1 h1 => g_rec ih _ _ (fun x => by simp only [rk]; omega) (by simp only [st]; omega)
          split
          · next h2 => have := tail_len (l := l.tail) (by rw [h2]; decide); show _ < _; omega
          · refine .bind (R (.lst f) _ (fun x => by simp only [rk]; omega)) fun e l1 h1 => .need (by decide) fun e1 => ?_
            simp only [st] at h1
            show _ < _; omega
        · show _ < _; omega
  | tab a =>
    simp only [stp', st, rk]
    split
    · show _ < _; omega
    · refine .bind (R .fld _ (fun x => by simp only [rk]; omega)) fun f l1 h1 => ?_
      simp only [st] at h1
      split
      · next h =>
        have : l1.tail.length + 1 = l1.length := by rcases h with h | h <;> exact tail_len (by rw [h]; decide)
        exact g_rec ih _ _ (fun x => by simp only [rk]; omega) (by simp only [st]; omega)
      · show _ < _; omega
  | fld =>
    simp only [stp', st, rk]
    split
    · next h =>
      have := tail_len (l := l) (by rw [h]; decide)
      refine .bind (R (.ex 0) _ (fun x => by simp only [rk]; omega)) fun e l1 h1 => .need (by decide) fun e1 => .need (by decide) fun e2 => .bind (R (.ex 0) _ (fun x => by simp only [rk, st] at h1 ⊢; omega)) fun v l2 h2 => ?_
      simp only [st] at h1 h2
      show _ < _; omega
    · split
      · next h =>
        have := tail_len (l := l) (by rw [h.1]; decide)
        have := tail_len (l := l.tail) (by rw [h.2]; decide)
        refine .bind (R (.ex 0) _ (fun x => by simp only [rk]; omega)) fun v l2 h2 => ?_
        simp only [st] at h2
        show _ < _; omega
      · refine .bind (R (.ex 0) _ (fun x => by simp only [rk]; omega)) fun v l2 h2 => ?_
        simp only [st] at h2
        show _ < _; omega

theorem g_all : ∀ (n : Nat) (j : J) (l : List Tok), G (8 * l.length + rk j < n) (l.length + 1 - st j) (pr n j l)
  | 0, j, l => by show ¬ _; omega
  | n + 1, j, l => g_step (g_all n) j l
theorem pr_enough (n : Nat) (j : J) (l : List Tok) (h : 8 * l.length + rk j < n) : pr n j l ≠ .out := by
  intro e
  have := g_all n j l
  rw [e] at this
  exact this h
theorem pr_len {n : Nat} {j : J} {l l' : List Tok} {f : F} (h : pr n j l = .ok f l') : l'.length + st j ≤ l.length := by
  have := g_all n j l
  rw [h] at this
  have h2 : l'.length < l.length + 1 - st j := this
  have : st j ≤ 1 := by cases j <;> simp [st]
  omega

/-- The chunk: a block up to the tokens' end. -/
def chk (l : List Tok) : PR := (pr (8 * l.length + 4) (.blk true) l).bind fun f m => if hc m = 56 then .ok f m else .bad (ha m)
theorem chk_some (l : List Tok) : chk l ≠ .out := by
  have h := pr_enough (8 * l.length + 4) (.blk true) l (by simp only [rk]; omega)
  unfold chk
  cases he : pr (8 * l.length + 4) (.blk true) l with
  | out => exact absurd he h
  | bad p => simp [PR.bind]
  | ok f m => simp only [PR.bind]; split <;> simp

end Go.Proofs.YtlgkfhipobdcfabGreatDoor

/- Trees in memory: the cells of a row of trees, a tree as a value, a row of trees that grows by append. -/
namespace Go.Proofs.YtlgkfhipobdcfabGreatDoor
open Go.RowKit

theorem own_keep {w w' : World} {base : Nat} {e : TypeId} {size : Nat} {v : Value} {n : Nat} {xs : List Value} (h : w.ownsRow base e size v n xs) (hb : ∀ g, v.ownBlock = some g → w'.heap[g]? = w.heap[g]?) : w'.ownsRow base e size v n xs := by
  refine ⟨h.1, ?_⟩
  rcases h.2 with h | ⟨g, cap, cur, rfl, h2, h3, r⟩
  · exact .inl h
  · exact .inr ⟨g, cap, cur, rfl, h2, by rw [hb g rfl]; exact h3, r⟩
theorem own_to {w : World} {base b' : Nat} {e : TypeId} {size : Nat} {v : Value} {n : Nat} {xs : List Value} (h : w.ownsRow base e size v n xs) (hb : ∀ g, v.ownBlock = some g → b' ≤ g) : w.ownsRow b' e size v n xs := by
  refine ⟨h.1, ?_⟩
  rcases h.2 with h | ⟨g, cap, cur, rfl, h2, r⟩
  · exact .inl h
  · exact .inr ⟨g, cap, cur, rfl, hb g rfl, r⟩

/-- The cells of a row of trees; all their kids lie in blocks of P. -/
inductive KF (E : TypeId) (w : World) (P : Nat → Prop) : List Value → F → Prop
  | nil : KF E w P [] .nil
  | cons {k : Int} {t : List UInt8} {n p : Int} {v : Value} {xs rest : List Value} {ks r : F} (own : w.ownsRow 0 E 5 v ks.len xs) (hP : ∀ g, v.ownBlock = some g → P g) (hk : KF E w P xs ks) (hr : KF E w P rest r) :
      KF E w P (.int .i64 k :: .string ⟨t.toArray⟩ :: .int .i64 n :: .int .i64 p :: v :: rest) (.cons k t n p ks r)

section
variable {E : TypeId} {w w' : World} {P Q : Nat → Prop} {xs ys : List Value} {f g : F}
theorem KF.keep (h : KF E w P xs f) (hb : ∀ g, P g → g < w.heap.size → w'.heap[g]? = w.heap[g]?) : KF E w' P xs f := by
  induction h with
  | nil => exact .nil
  | cons own hP _ _ i1 i2 => exact .cons (own_keep own fun g hg => hb g (hP g hg) (own.lt g hg).2) hP i1 i2
theorem KF.mono (h : KF E w P xs f) (hb : ∀ g, P g → g < w.heap.size → Q g) : KF E w Q xs f := by
  induction h with
  | nil => exact .nil
  | cons own hP _ _ i1 i2 => exact .cons own (fun g hg => hb g (hP g hg) (own.lt g hg).2) i1 i2
theorem KF.app (h : KF E w P xs f) (k : KF E w P ys g) : KF E w P (xs ++ ys) (f.app g) := by
  induction h with
  | nil => exact k
  | cons own hP h1 _ _ i2 => exact .cons own hP h1 i2
theorem KF.len (h : KF E w P xs f) : xs.length = f.len * 5 := by
  induction h with
  | nil => rfl
  | cons own hP h1 _ _ i2 => simp only [List.length_cons, F.len, i2]; omega
theorem KF.one (h : KF E w P xs f) : ∀ u ∈ xs, u.oneCell' = true := by
  induction h with
  | nil => intro u hu; cases hu
  | @cons k t n p v xs rest ks r own hP h1 _ _ i2 =>
    intro u hu
    rcases List.mem_cons.1 hu with rfl | hu
    · rfl
    rcases List.mem_cons.1 hu with rfl | hu
    · rfl
    rcases List.mem_cons.1 hu with rfl | hu
    · rfl
    rcases List.mem_cons.1 hu with rfl | hu
    · rfl
    rcases List.mem_cons.1 hu with rfl | hu
    · rcases own.2 with ⟨rfl, _⟩ | ⟨g, cap, cur, rfl, _⟩ <;> rfl
    · exact i2 u hu
end

/-- A tree as a value; its kids lie in blocks of P. -/
structure TN (E : TypeId) (w : World) (P : Nat → Prop) (k : Int) (t : List UInt8) (n p : Int) (v : Value) (ks : F) : Prop where
  kf : KF E w P [.int .i64 k, .string ⟨t.toArray⟩, .int .i64 n, .int .i64 p, v] (one k t n p ks)
theorem TN.out {E : TypeId} {w : World} {P : Nat → Prop} {k : Int} {t : List UInt8} {n p : Int} {v : Value} {ks : F} (h : TN E w P k t n p v ks) : (∀ g, v.ownBlock = some g → P g) ∧ ∃ xs, w.ownsRow 0 E 5 v ks.len xs ∧ KF E w P xs ks := by
  have h := h.kf
  unfold one at h
  cases h with
  | cons own hP hk hr => exact ⟨hP, _, own, hk⟩
theorem TN.keep {E : TypeId} {w w' : World} {P : Nat → Prop} {k : Int} {t : List UInt8} {n p : Int} {v : Value} {ks : F} (h : TN E w P k t n p v ks) (hb : ∀ g, P g → g < w.heap.size → w'.heap[g]? = w.heap[g]?) : TN E w' P k t n p v ks := ⟨h.kf.keep hb⟩
theorem TN.mono {E : TypeId} {w : World} {P Q : Nat → Prop} {k : Int} {t : List UInt8} {n p : Int} {v : Value} {ks : F} (h : TN E w P k t n p v ks) (hb : ∀ g, P g → g < w.heap.size → Q g) : TN E w Q k t n p v ks := ⟨h.kf.mono hb⟩
theorem TN.leaf (E : TypeId) (w : World) (P : Nat → Prop) (k : Int) (t : List UInt8) (n p : Int) : TN E w P k t n p (.slice none 0 0) .nil :=
  ⟨.cons (World.ownsRow_nil _ _ _ _) (fun g hg => by simp [Value.ownBlock] at hg) .nil .nil⟩
/-- Another head over the same kids. -/
theorem TN.head {E : TypeId} {w : World} {P : Nat → Prop} {k : Int} {t : List UInt8} {n p : Int} {v : Value} {ks : F} (h : TN E w P k t n p v ks) (k' : Int) (t' : List UInt8) (n' p' : Int) : TN E w P k' t' n' p' v ks := by
  obtain ⟨h1, xs, h2, h3⟩ := h.out
  exact ⟨.cons h2 h1 h3 .nil⟩

/-- A row of trees that grows: its own block is of P, and so are the kids' blocks, which are others. -/
structure KL (E : TypeId) (P : Nat → Prop) (w : World) (v : Value) (f : F) : Prop where
  out : ∃ xs, w.ownsRow 0 E 5 v f.len xs ∧ (∀ g, v.ownBlock = some g → P g) ∧ KF E w (fun g => P g ∧ some g ≠ v.ownBlock) xs f
theorem KL.nil (E : TypeId) (P : Nat → Prop) (w : World) : KL E P w (.slice none 0 0) .nil := ⟨[], World.ownsRow_nil _ _ _ _, fun g hg => by simp [Value.ownBlock] at hg, .nil⟩
theorem KL.keep {E : TypeId} {P : Nat → Prop} {w w' : World} {v : Value} {f : F} (h : KL E P w v f) (hb : ∀ g, P g → g < w.heap.size → w'.heap[g]? = w.heap[g]?) : KL E P w' v f := by
  obtain ⟨xs, h1, h2, h3⟩ := h.out
  exact ⟨xs, own_keep h1 fun g hg => hb g (h2 g hg) (h1.lt g hg).2, h2, h3.keep fun g hg hl => hb g hg.1 hl⟩
theorem KL.node {E : TypeId} {P : Nat → Prop} {w : World} {v : Value} {f : F} (h : KL E P w v f) (k : Int) (t : List UInt8) (n p : Int) : TN E w P k t n p v f := by
  obtain ⟨xs, h1, h2, h3⟩ := h.out
  exact ⟨.cons h1 h2 (h3.mono fun g hg _ => hg.1) .nil⟩
theorem KL.shape {E : TypeId} {P : Nat → Prop} {w : World} {v : Value} {f : F} (h : KL E P w v f) : ∃ a c, v = .slice a f.len c := by
  obtain ⟨xs, h1, _⟩ := h.out
  rcases h1.2 with ⟨rfl, h0⟩ | ⟨g, cap, cur, rfl, _⟩
  · exact ⟨none, 0, by rw [h0]⟩
  · exact ⟨_, _, rfl⟩
/-- Behind an append. -/
theorem KL.snoc {E : TypeId} {P : Nat → Prop} {g c : Nat} {w w' : World} {v : Value} {f n : F} {xs ys : List Value} (h1 : ∀ g, v.ownBlock = some g → P g) (h2 : KF E w (fun g => P g ∧ some g ≠ v.ownBlock) xs f)
    (h3 : KF E w (fun g => P g ∧ some g ≠ v.ownBlock) ys n) (own : w'.ownsRow 0 E 5 (.slice (some ⟨g, 0, none⟩) (f.len + n.len) c) (f.len + n.len) (xs ++ ys))
    (hg : ∀ k, k < w.heap.size → some k ≠ v.ownBlock → w'.heap[k]? = w.heap[k]?) (hnew : ∀ x, w.heap.size ≤ x → P x) (hat : v.ownBlock = some g ∨ w.heap.size ≤ g) : KL E P w' (.slice (some ⟨g, 0, none⟩) (f.len + n.len) c) (f.app n) := by
  have h4 := ((h2.app h3).mono (Q := fun k => (P k ∧ some k ≠ v.ownBlock) ∧ k < w.heap.size) fun k hk hl => ⟨hk, hl⟩).keep (w' := w') fun k hk _ => hg k hk.2 hk.1.2
  refine ⟨xs ++ ys, by rw [F.len_app]; exact own, fun x hx => ?_, h4.mono fun k hk _ => ⟨hk.1.1, ?_⟩⟩
  · have e2 : g = x := by simpa [Value.ownBlock] using hx
    subst e2
    exact hat.elim (h1 g) (hnew g)
  · rcases hat with hat | hat
    · exact fun e => hk.1.2 (e.trans hat.symm)
    · intro e
      have e2 : k = g := by simpa [Value.ownBlock] using e
      have := hk.2
      omega
/-- A row that a composite lays. -/
theorem KL.made {E : TypeId} {P : Nat → Prop} {n : Nat} {w : World} {cur : Array Value} {f : F} (h : KF E w P cur.toList f) (hm : P w.heap.size) (hn : f.len = n) (hl : n ≤ maxLen) : KL E P (w.alloc (.cells cur E)) (.slice (some ⟨w.heap.size, 0, none⟩) n n) f := by
  subst hn
  have hs : cur.size = f.len * 5 := by rw [← h.len]; simp
  refine ⟨cur.toList, ⟨by simpa using hs, .inr ⟨w.heap.size, f.len, cur, rfl, Nat.zero_le _, heap_alloc_new w _, Nat.le_refl _, hl, hs, by rw [← hs]; exact List.take_of_length_le (by simp)⟩⟩, fun g hg => ?_, ?_⟩
  · have e2 : w.heap.size = g := by simpa [Value.ownBlock] using hg
    rw [← e2]; exact hm
  have h4 := (h.mono (Q := fun k => P k ∧ k < w.heap.size) fun k hk hl => ⟨hk, hl⟩).keep (w' := w.alloc (.cells cur E)) fun k hk _ => (World.grownBy_alloc w _ none).block k hk.2 (by simp)
  refine h4.mono fun k hk _ => ⟨hk.1, fun e => ?_⟩
  have e2 : k = w.heap.size := by simpa [Value.ownBlock] using e
  have := hk.2
  omega

end Go.Proofs.YtlgkfhipobdcfabGreatDoor

/- The parser in memory: its tokens, its place; what a call leaves; the walks of its small functions. -/
namespace Go.Proofs.YtlgkfhipobdcfabGreatDoor
open Go.RowKit

/-- What a call keeps: every block that there was but those of S. -/
structure Ky (S : Nat → Prop) (W W' : World) : Prop where
  os : W'.os = W.os
  tape : W'.tape = W.tape
  output : W'.output = W.output
  size : W.heap.size ≤ W'.heap.size
  block : ∀ k, k < W.heap.size → ¬ S k → W'.heap[k]? = W.heap[k]?
theorem Ky.refl (S : Nat → Prop) (W : World) : Ky S W W := ⟨rfl, rfl, rfl, Nat.le_refl _, fun _ _ _ => rfl⟩
theorem Ky.trans {S : Nat → Prop} {x y z : World} (h : Ky S x y) (k : Ky S y z) : Ky S x z :=
  ⟨k.os.trans h.os, k.tape.trans h.tape, k.output.trans h.output, Nat.le_trans h.size k.size, fun i hi hn => (k.block i (Nat.lt_of_lt_of_le hi h.size) hn).trans (h.block i hi hn)⟩
theorem Ky.mono {S S' : Nat → Prop} {x y : World} (h : Ky S x y) (hs : ∀ k, k < x.heap.size → S k → S' k) : Ky S' x y := ⟨h.os, h.tape, h.output, h.size, fun k hk hn => h.block k hk fun e => hn (hs k hk e)⟩
theorem Ky.of_below {S : Nat → Prop} {x y : World} (h : Below x.heap.size x y) : Ky S x y := ⟨h.os, h.tape, h.output, h.size, fun k hk _ => h.block k hk⟩
theorem Ky.alloc {S : Nat → Prop} {a w : World} (h : Ky S a w) (o : Obj) : Ky S a (w.alloc o) := h.trans (.of_below ((Below.refl _ w).alloc (Nat.le_refl _) o))
theorem Ky.drew {S : Nat → Prop} {a w : World} (h : Ky S a w) : Ky S a w.drew := ⟨h.os, h.tape, h.output, h.size, h.block⟩
theorem Ky.undrew {S : Nat → Prop} {a w : World} (h : Ky S a.drew w) : Ky S a w := ⟨h.os, h.tape, h.output, h.size, h.block⟩
theorem Ky.setCell {S : Nat → Prop} {b o : Nat} {a w : World} (h : Ky S a w) (hb : S b) (u : Value) : Ky S a (w.setCell ⟨b, o, none⟩ u) :=
  h.trans ⟨rfl, rfl, rfl, by simp, fun k _ hk => Below.heap_setCell w _ u k (fun e => hk (e ▸ hb))⟩

theorem Ky.setP {b o : Nat} {a w : World} (h : Ky (fun k => k = b) a w) (u : Value) : Ky (fun k => k = b) a (w.setCell ⟨b, o, none⟩ u) := Ky.setCell (S := fun k => k = b) h rfl u
/-- A struct in a block of its own. -/
structure Bx (X : Nat) (e : TypeId) (cur : Array Value) (w : World) : Prop where
  blk : w.heap[X]? = some (.cells cur e (0, 0))
theorem Bx.lt {X : Nat} {e : TypeId} {cur : Array Value} {w : World} (h : Bx X e cur w) : X < w.heap.size := (Array.getElem?_eq_some_iff.1 h.blk).1
theorem Bx.new (w : World) (e : TypeId) (cur : Array Value) : Bx w.heap.size e cur (w.alloc (.cells cur e)) := ⟨Go.heap_alloc_new w _⟩
theorem Bx.ky {X : Nat} {e : TypeId} {cur : Array Value} {w w' : World} {S : Nat → Prop} (h : Bx X e cur w) (k : Ky S w w') (hS : ¬ S X) : Bx X e cur w' := ⟨(k.block X h.lt hS).trans h.blk⟩
theorem Bx.below {X : Nat} {e : TypeId} {cur : Array Value} {w w' : World} (h : Bx X e cur w) (k : Below w.heap.size w w') : Bx X e cur w' := ⟨(k.block X h.lt).trans h.blk⟩
theorem Bx.alloc {X : Nat} {e : TypeId} {cur : Array Value} {w : World} (h : Bx X e cur w) (o : Obj) : Bx X e cur (w.alloc o) := h.below ((Below.refl _ w).alloc (Nat.le_refl _) o)
theorem Bx.drew {X : Nat} {e : TypeId} {cur : Array Value} {w : World} (h : Bx X e cur w) : Bx X e cur w.drew := ⟨h.blk⟩
theorem Bx.set {X b o : Nat} {e : TypeId} {cur : Array Value} {w : World} (h : Bx X e cur w) (hb : X ≠ b) (u : Value) : Bx X e cur (w.setCell ⟨b, o, none⟩ u) := ⟨(Below.heap_setCell w _ u X hb).trans h.blk⟩
theorem Bx.c {X : Nat} {e : TypeId} {cur : Array Value} {w : World} (h : Bx X e cur w) (j : Nat) (u : Value) (hu : cur[j]? = some u) : w.cell? ⟨X, j, none⟩ = some u := by rw [cell_of_row w X j cur e (0, 0) h.blk]; exact hu
theorem Bx.f {X : Nat} {e : TypeId} {cur : Array Value} {w : World} (h : Bx X e cur w) (j : Nat) : w.frozen? ⟨X, j, none⟩ = false := by unfold World.frozen?; rw [h.blk]; simp
/-- The cells of a struct of four, of five. -/
theorem Bx.four {X : Nat} {e : TypeId} {a b c d : Value} {w : World} (h : Bx X e #[a, b, c, d] w) : w.cell? ⟨X, 0, none⟩ = some a ∧ w.cell? ⟨X, 1, none⟩ = some b ∧ w.cell? ⟨X, 2, none⟩ = some c ∧ w.cell? ⟨X, 3, none⟩ = some d := ⟨h.c 0 _ rfl, h.c 1 _ rfl, h.c 2 _ rfl, h.c 3 _ rfl⟩
theorem Bx.five {X : Nat} {e : TypeId} {a b c d f : Value} {w : World} (h : Bx X e #[a, b, c, d, f] w) : w.cell? ⟨X, 0, none⟩ = some a ∧ w.cell? ⟨X, 1, none⟩ = some b ∧ w.cell? ⟨X, 2, none⟩ = some c ∧ w.cell? ⟨X, 3, none⟩ = some d ∧ w.cell? ⟨X, 4, none⟩ = some f := ⟨h.c 0 _ rfl, h.c 1 _ rfl, h.c 2 _ rfl, h.c 3 _ rfl, h.c 4 _ rfl⟩

theorem Bx.fiveA {X : Nat} {e : TypeId} {a b c d f : Value} {w : World} (h : Bx X e #[a, b, c, d, f] w) : (∀ o, (w.alloc o).cell? ⟨X, 0, none⟩ = some a) ∧ (∀ o, (w.alloc o).cell? ⟨X, 1, none⟩ = some b) ∧ (∀ o, (w.alloc o).cell? ⟨X, 2, none⟩ = some c) ∧ (∀ o, (w.alloc o).cell? ⟨X, 3, none⟩ = some d) ∧ (∀ o, (w.alloc o).cell? ⟨X, 4, none⟩ = some f) :=
  ⟨fun o => (h.alloc o).c 0 _ rfl, fun o => (h.alloc o).c 1 _ rfl, fun o => (h.alloc o).c 2 _ rfl, fun o => (h.alloc o).c 3 _ rfl, fun o => (h.alloc o).c 4 _ rfl⟩
theorem Bx.frozen5 {X : Nat} {e : TypeId} {cur : Array Value} {w : World} (h : Bx X e cur w) : w.frozen? ⟨X, 0, none⟩ = false ∧ w.frozen? ⟨X, 1, none⟩ = false ∧ w.frozen? ⟨X, 2, none⟩ = false ∧ w.frozen? ⟨X, 3, none⟩ = false ∧ w.frozen? ⟨X, 4, none⟩ = false := ⟨h.f 0, h.f 1, h.f 2, h.f 3, h.f 4⟩
theorem Bx.frozen5A {X : Nat} {e : TypeId} {cur : Array Value} {w : World} (h : Bx X e cur w) : (∀ o, (w.alloc o).frozen? ⟨X, 0, none⟩ = false) ∧ (∀ o, (w.alloc o).frozen? ⟨X, 1, none⟩ = false) ∧ (∀ o, (w.alloc o).frozen? ⟨X, 2, none⟩ = false) ∧ (∀ o, (w.alloc o).frozen? ⟨X, 3, none⟩ = false) ∧ (∀ o, (w.alloc o).frozen? ⟨X, 4, none⟩ = false) :=
  ⟨fun o => (h.alloc o).f 0, fun o => (h.alloc o).f 1, fun o => (h.alloc o).f 2, fun o => (h.alloc o).f 3, fun o => (h.alloc o).f 4⟩

/-- The last token is the end. -/
def Ends (l : List Tok) : Prop := ∃ pre e, l = pre ++ [e] ∧ e.k = 6
theorem Ends.ne {l : List Tok} (h : Ends l) : l ≠ [] := by obtain ⟨p, e, rfl, _⟩ := h; simp
theorem Ends.tail {t : Tok} {l : List Tok} (h : Ends (t :: l)) (ht : cls t ≠ 56) : Ends l := by
  obtain ⟨p, e, h1, h2⟩ := h
  cases p with
  | nil =>
    simp at h1
    obtain ⟨rfl, rfl⟩ := h1
    exact absurd (cls_of_kind t 6 h2 (by simp)) ht
  | cons a p => simp at h1; exact ⟨p, e, h1.2, h2⟩

/-- The parser at block b: the tokens T in a row below m, those from its place on. -/
structure PS (b m : Nat) (T l : List Tok) (W : World) : Prop where
  tok : ∃ g cap, W.cell? ⟨b, 0, none⟩ = some (.slice (some ⟨g, 0, none⟩) T.length cap) ∧ g < m ∧ g ≠ b ∧ ∀ j u, (cellsT T)[j]? = some u → W.cell? ⟨g, j, none⟩ = some u
  plc : ∃ i : Nat, W.cell? ⟨b, 1, none⟩ = some (.int .i64 i) ∧ T.drop i = l ∧ T.length = i + l.length
  fz : W.frozen? ⟨b, 1, none⟩ = false
  lt : b < m ∧ m ≤ W.heap.size
  ends : Ends l
  small : T.length ≤ 20001
theorem PS.ky {b m : Nat} {T l : List Tok} {W W' : World} {S : Nat → Prop} (h : PS b m T l W) (k : Ky S W W') (hS : ∀ x, x < m → ¬ S x) : PS b m T l W' := by
  have hlt := h.lt
  have hb : W'.heap[b]? = W.heap[b]? := k.block b (by omega) (hS b (by omega))
  obtain ⟨g, cap, h1, h2, h3, h4⟩ := h.tok
  obtain ⟨i, h5, h6, h7⟩ := h.plc
  have hg : W'.heap[g]? = W.heap[g]? := k.block g (by omega) (hS g (by omega))
  exact ⟨⟨g, cap, (World.cell?_of_block hb).trans h1, h2, h3, fun j u hu => (World.cell?_of_block hg).trans (h4 j u hu)⟩, ⟨i, (World.cell?_of_block hb).trans h5, h6, h7⟩, (World.frozen?_of_block hb).trans h.fz, ⟨hlt.1, Nat.le_trans hlt.2 k.size⟩, h.ends, h.small⟩
theorem PS.alloc {b m : Nat} {T l : List Tok} {W : World} (h : PS b m T l W) (o : Obj) : PS b m T l (W.alloc o) := h.ky (S := fun _ => False) ((Ky.refl _ _).alloc o) (fun _ _ => id)
theorem PS.drew {b m : Nat} {T l : List Tok} {W : World} (h : PS b m T l W) : PS b m T l W.drew := ⟨h.tok, h.plc, h.fz, h.lt, h.ends, h.small⟩
theorem PS.cons {b m : Nat} {T l : List Tok} {W : World} (h : PS b m T l W) : ∃ t l', l = t :: l' := by
  cases l with
  | nil => exact absurd rfl h.ends.ne
  | cons t l => exact ⟨t, l, rfl⟩
theorem cellsT_at : ∀ (ts : List Tok) (k j : Nat) (t : Tok), ts[k]? = some t → j < 4 → (cellsT ts)[k * 4 + j]? = (cellT t)[j]?
  | [], k, j, t, h, _ => by simp at h
  | a :: ts, 0, j, t, h, hj => by
    simp at h
    subst h
    show (cellT a ++ cellsT ts)[0 * 4 + j]? = _
    rw [List.getElem?_append_left (by simp [cellT]; omega)]; simp
  | a :: ts, k + 1, j, t, h, hj => by
    simp at h
    show (cellT a ++ cellsT ts)[(k + 1) * 4 + j]? = _
    rw [List.getElem?_append_right (by simp [cellT]; omega)]
    have : (k + 1) * 4 + j - (cellT a).length = k * 4 + j := by simp [cellT]; omega
    rw [this]
    exact cellsT_at ts k j t h hj
/-- What the walk of token reads. -/
theorem PS.reads {b m : Nat} {T l : List Tok} {t : Tok} {W : World} (h : PS b m T (t :: l) W) : ∃ g cap i : Nat, W.cell? ⟨b, 0, none⟩ = some (.slice (some ⟨g, 0, none⟩) T.length cap) ∧ W.cell? ⟨b, 1, none⟩ = some (.int .i64 i) ∧ i < T.length ∧ i + 1 ≤ 20001 ∧
    W.cell? ⟨g, i * 4, none⟩ = some (.int .i64 t.k) ∧ W.cell? ⟨g, i * 4 + 1, none⟩ = some (.string ⟨t.t.toArray⟩) ∧ W.cell? ⟨g, i * 4 + 2, none⟩ = some (.int .i64 t.v) ∧ W.cell? ⟨g, i * 4 + 3, none⟩ = some (.int .i64 t.p) := by
  obtain ⟨g, cap, h1, h2, h3, h4⟩ := h.tok
  obtain ⟨i, h5, h6, h7⟩ := h.plc
  have hs := h.small
  have hi : T[i]? = some t := by
    have : (T.drop i)[0]? = some t := by rw [h6]; rfl
    simpa using this
  simp at h7
  have hc := fun j hj => cellsT_at T i j t hi hj
  refine ⟨g, cap, i, h1, h5, by omega, by omega, h4 _ _ (hc 0 (by omega)), h4 _ _ (hc 1 (by omega)), h4 _ _ (hc 2 (by omega)), h4 _ _ (hc 3 (by omega))⟩
/-- One token is taken. -/
theorem PS.next {b m : Nat} {T l : List Tok} {t : Tok} {W : World} {i : Nat} (h : PS b m T (t :: l) W) (ht : cls t ≠ 56) (hi : W.cell? ⟨b, 1, none⟩ = some (.int .i64 i)) : PS b m T l (W.setCell ⟨b, 1, none⟩ (.int .i64 ((i : Int) + 1))) := by
  obtain ⟨g, cap, h1, h2, h3, h4⟩ := h.tok
  obtain ⟨i', h5, h6, h7⟩ := h.plc
  obtain rfl : i' = i := by rw [h5] at hi; simp at hi; omega
  have hb : ∀ j u, (W.setCell ⟨b, 1, none⟩ u).cell? ⟨g, j, none⟩ = W.cell? ⟨g, j, none⟩ := fun j u => World.cell?_setCell_other _ _ _ _ (fun e => h3 (by injection e with e1; exact e1.symm))
  refine ⟨⟨g, cap, ?_, h2, h3, fun j u hu => (hb j _).trans (h4 j u hu)⟩, ⟨i' + 1, World.cell?_setCell_same _ _ _ hi, ?_, by simp at h7; omega⟩, by simpa using h.fz, by rw [size_set]; exact h.lt, h.ends.tail ht, h.small⟩
  · rw [World.cell?_setCell_other _ _ _ _ (fun e => by injection e with e1 e2; cases e2)]; exact h1
  · have : T.drop (i' + 1) = (T.drop i').drop 1 := by simp
    rw [this, h6]; rfl

@[go_sem] theorem tf0 (k v p : Int) (s : ByteArray) (W : World) : (Instr.field 56 (.agg #[.int .i64 k, .string s, .int .i64 v, .int .i64 p]) 0).run Tryz.prog W = .ok (.int .i64 k) W := by kernel_rfl
@[go_sem] theorem tf1 (k v p : Int) (s : ByteArray) (W : World) : (Instr.field 56 (.agg #[.int .i64 k, .string s, .int .i64 v, .int .i64 p]) 1).run Tryz.prog W = .ok (.string s) W := by kernel_rfl
@[go_sem] theorem tf3 (k v p : Int) (s : ByteArray) (W : World) : (Instr.field 56 (.agg #[.int .i64 k, .string s, .int .i64 v, .int .i64 p]) 3).run Tryz.prog W = .ok (.int .i64 p) W := by kernel_rfl
@[go_sem] theorem nf0 (k n p : Int) (s : ByteArray) (v : Value) (W : World) : (Instr.field 25 (.agg #[.int .i64 k, .string s, .int .i64 n, .int .i64 p, v]) 0).run Tryz.prog W = .ok (.int .i64 k) W := by kernel_rfl
@[go_sem] theorem nf1 (k n p : Int) (s : ByteArray) (v : Value) (W : World) : (Instr.field 25 (.agg #[.int .i64 k, .string s, .int .i64 n, .int .i64 p, v]) 1).run Tryz.prog W = .ok (.string s) W := by kernel_rfl
@[go_sem] theorem nf3 (k n p : Int) (s : ByteArray) (v : Value) (W : World) : (Instr.field 25 (.agg #[.int .i64 k, .string s, .int .i64 n, .int .i64 p, v]) 3).run Tryz.prog W = .ok (.int .i64 p) W := by kernel_rfl
theorem Ky.new {S : Nat → Prop} {X o : Nat} {a w : World} (h : Ky S a w) (hX : a.heap.size ≤ X) (u : Value) : Ky S a (w.setCell ⟨X, o, none⟩ u) :=
  ⟨h.os, h.tape, h.output, by simpa using h.size, fun k hk hn => (Below.heap_setCell w _ u k (by show k ≠ X; omega)).trans (h.block k hk hn)⟩
theorem PS.set {b m X o : Nat} {T l : List Tok} {w : World} (h : PS b m T l w) (hX : m ≤ X) (u : Value) : PS b m T l (w.setCell ⟨X, o, none⟩ u) :=
  h.ky (S := fun k => k = X) (Ky.setP (Ky.refl _ _) u) (fun x hx e => by omega)
/-- What the taking of tokens leaves. -/
structure Tk (b m : Nat) (T l : List Tok) (W W' : World) : Prop where
  ps : PS b m T l W'
  ky : Ky (fun k => k = b) W W'
theorem Tk.new {b m X o : Nat} {T l : List Tok} {W w : World} (h : Tk b m T l W w) (hX : W.heap.size ≤ X) (hm : m ≤ W.heap.size) (u : Value) : Tk b m T l W (w.setCell ⟨X, o, none⟩ u) := ⟨h.ps.set (by omega) u, h.ky.new hX u⟩
theorem Tk.alloc {b m : Nat} {T l : List Tok} {W w : World} (h : Tk b m T l W w) (o : Obj) : Tk b m T l W (w.alloc o) := ⟨h.ps.alloc o, h.ky.alloc o⟩
theorem Tk.trans {b m : Nat} {T l l' : List Tok} {x y z : World} (h : Tk b m T l x y) (k : Tk b m T l' y z) : Tk b m T l' x z := ⟨k.ps, h.ky.trans k.ky⟩
theorem Tk.below {b m : Nat} {T l : List Tok} {x y z : World} (h : Tk b m T l x y) (k : Below y.heap.size y z) : Tk b m T l x z := ⟨h.ps.ky (S := fun _ => False) (.of_below k) (fun _ _ => id), h.ky.trans (.of_below k)⟩
theorem Tk.drew {b m : Nat} {T l : List Tok} {x y : World} (h : Tk b m T l x y) : Tk b m T l x y.drew := ⟨h.ps.drew, h.ky.drew⟩
theorem PS.tk {b m : Nat} {T l : List Tok} {W : World} (h : PS b m T l W) : Tk b m T l W W := ⟨h, Ky.refl _ _⟩
theorem Tk.five {b m X : Nat} {T l : List Tok} {W w : World} (h : Tk b m T l W w) (hX : W.heap.size ≤ X) (hm : m ≤ W.heap.size) (u0 u1 u2 u3 u4 : Value) : Tk b m T l W (((((w.setCell ⟨X, 0, none⟩ u0).setCell ⟨X, 1, none⟩ u1).setCell ⟨X, 2, none⟩ u2).setCell ⟨X, 3, none⟩ u3).setCell ⟨X, 4, none⟩ u4) :=
  ((((h.new hX hm u0).new hX hm u1).new hX hm u2).new hX hm u3).new hX hm u4
/-- The parser's refusal. -/
def refp (a : Int) : Ending := .panicked [{ v := .iface 39 (.agg #[.int .i64 4, .int .i64 a]), recovered := false }]

theorem PS.readsA {b m : Nat} {T l : List Tok} {t : Tok} {W : World} (h : PS b m T (t :: l) W) : ∃ g cap i : Nat, (∀ o, (W.alloc o).cell? ⟨b, 0, none⟩ = some (.slice (some ⟨g, 0, none⟩) T.length cap)) ∧ (∀ o, (W.alloc o).cell? ⟨b, 1, none⟩ = some (.int .i64 i)) ∧ i < T.length ∧ i + 1 ≤ 20001 ∧
    (∀ o, (W.alloc o).cell? ⟨g, i * 4, none⟩ = some (.int .i64 t.k)) ∧ (∀ o, (W.alloc o).cell? ⟨g, i * 4 + 1, none⟩ = some (.string ⟨t.t.toArray⟩)) ∧ (∀ o, (W.alloc o).cell? ⟨g, i * 4 + 2, none⟩ = some (.int .i64 t.v)) ∧ (∀ o, (W.alloc o).cell? ⟨g, i * 4 + 3, none⟩ = some (.int .i64 t.p)) := by
  have hlt := h.lt
  obtain ⟨g, cap, i, h1, h2, h3, h4, c0, c1, c2, c3⟩ := h.reads
  have hb : b < W.heap.size := by omega
  have hg : g < W.heap.size := World.block_lt_of_cell? W ⟨g, i * 4, none⟩ c0
  exact ⟨g, cap, i, fun o => alloc_cell hb h1 o, fun o => alloc_cell hb h2 o, h3, h4, fun o => alloc_cell hg c0 o, fun o => alloc_cell hg c1 o, fun o => alloc_cell hg c2 o, fun o => alloc_cell hg c3 o⟩

set_option maxHeartbeats 1000000 in
theorem token_any (b m : Nat) (T l : List Tok) (t : Tok) (W : World) (h : PS b m T (t :: l) W) : Calls Tryz.prog 19 #[.pointer (some ⟨b, 0, none⟩)] W fun e w' => e = .returned (.agg #[.int .i64 t.k, .string ⟨t.t.toArray⟩, .int .i64 t.v, .int .i64 t.p]) ∧ Below W.heap.size W w' := by
  obtain ⟨g, cap, i, h1, h2, h3, h4, c0, c1, c2, c3⟩ := h.readsA
  go_enter Tryz.func19, Tryz.ntmps19
  go_wp2
  go_region
  all_goals
    go_wp2
    refine bodyPost_ret (v := (.agg #[.int .i64 t.k, .string ⟨t.t.toArray⟩, .int .i64 t.v, .int .i64 t.p])) (by simp [results, Tryz.results19, go_sem]) rfl ?_
    exact ⟨rfl, ((Below.refl _ _).alloc (Nat.le_refl _) _).drew⟩

end Go.Proofs.YtlgkfhipobdcfabGreatDoor

/- What is left of the tokens ends with the end, too. -/
namespace Go.Proofs.YtlgkfhipobdcfabGreatDoor

/-- The tokens left end with the end. -/
def EN : PR → Prop
  | .ok _ l => Ends l
  | _ => True
theorem EN.bind {x : PR} {k : F → List Tok → PR} (h : EN x) (hk : ∀ f l, Ends l → EN (k f l)) : EN (x.bind k) := by
  cases x with
  | ok f l => exact hk f l h
  | bad p => exact trivial
  | out => exact trivial
theorem Ends.tl {l : List Tok} (h : Ends l) (hn : hc l ≠ 56) : Ends l.tail := by
  cases l with
  | nil => exact absurd rfl h.ne
  | cons t l => exact h.tail hn
theorem EN.need {c : Nat} {l : List Tok} {k : List Tok → PR} (hl : Ends l) (hc' : c ≠ 56) (h : Ends l.tail → EN (k l.tail)) : EN (need c l k) := by
  unfold Go.Proofs.YtlgkfhipobdcfabGreatDoor.need
  split
  · next e => exact h (hl.tl (by rw [e]; exact hc'))
  · exact trivial
theorem EN.nam {q : Int} {l : List Tok} {k : F → List Tok → PR} (hl : Ends l) (h : ∀ f, Ends l.tail → EN (k f l.tail)) : EN (nam q l k) := by
  unfold Go.Proofs.YtlgkfhipobdcfabGreatDoor.nam
  split
  · next e => exact h _ (hl.tl (by rw [e]; decide))
  · exact trivial
section
variable {rec : J → List Tok → PR} (ih : ∀ j l, Ends l → EN (rec j l))
include ih
theorem en_body {l : List Tok} {k : F → List Tok → PR} (hl : Ends l) (h : ∀ f l1, Ends l1 → EN (k f l1)) : EN (bodyP rec l k) :=
  .need hl (by decide) fun h1 => .bind (ih _ _ h1) fun f _ h2 => .need h2 (by decide) fun h3 => h f _ h3
theorem en_last {l : List Tok} (h1 : Ends l.tail) : EN (lastP rec l) := by
  unfold lastP
  split
  · next e => exact h1.tl (by rw [e]; decide)
  · split
    · exact h1
    · refine .bind (ih _ _ h1) fun f m h2 => ?_
      show Ends _
      split
      · next e => exact h2.tl (by rw [e]; decide)
      · exact h2
theorem en_fun {l : List Tok} (h1 : Ends l.tail) : EN (funP rec l) := by
  unfold funP parP
  refine .nam h1 fun m h2 => .need h2 (by decide) fun h3 => .bind ?_ fun ps l1 h4 => .need h4 (by decide) fun h5 => .bind (ih _ _ h5) fun b l2 h6 => .need h6 (by decide) fun h7 => h7
  split
  · exact h3
  · exact .nam h3 fun f h4 => ih _ _ h4
theorem en_num {at' : Int} {a : F} {l : List Tok} (hl : Ends l) : EN (numP rec at' a l) := by
  unfold numP
  refine .bind (ih _ _ hl) fun e1 l1 h1 => .need h1 (by decide) fun h2 => .bind (ih _ _ h2) fun e2 l2 h3 => ?_
  split
  · next e => exact .bind (ih _ _ (h3.tl (by rw [e]; decide))) fun e3 l3 h4 => en_body ih h4 fun _ _ h5 => h5
  · exact en_body ih h3 fun _ _ h5 => h5
theorem en_for {l : List Tok} (hl : Ends l.tail) : EN (forP rec l) := by
  unfold forP
  refine .nam hl fun m h1 => ?_
  split
  · next e => exact en_num ih (h1.tl (by rw [e]; decide))
  · exact .bind (ih _ _ h1) fun ns l1 h2 => .need h2 (by decide) fun h3 => .bind (ih _ _ h3) fun f l2 h4 => en_body ih h4 fun _ _ h5 => h5
theorem en_loc {l : List Tok} (hl : Ends l.tail) : EN (locP rec l) := by
  unfold locP
  refine .nam hl fun m h1 => .bind (ih _ _ h1) fun ns l1 h2 => ?_
  split
  · next e => exact .bind (ih _ _ (h2.tl (by rw [e]; decide))) fun _ _ h3 => h3
  · exact h2
theorem en_asg {l : List Tok} (hl : Ends l) : EN (asgP rec l) := by
  unfold asgP tgt
  refine .bind (ih _ _ hl) fun f l1 h1 => ?_
  split
  · split
    · exact .bind (ih _ _ h1) fun ts l2 h2 => .need h2 (by decide) fun h3 => .bind (ih _ _ h3) fun _ _ h4 => h4
    · exact trivial
  · split
    · exact h1
    · exact trivial
theorem en_arg {a : F} {l : List Tok} (hl : Ends l) : EN (argP rec a l) := by
  unfold argP
  split
  · next e => exact hl.tl (by rw [e]; decide)
  · exact .bind (ih _ _ hl) fun f l1 h1 => .need h1 (by decide) fun h2 => h2
theorem en_stem {l : List Tok} (hl : Ends l) : EN (stemP rec l) := by
  unfold stemP
  split
  · next e => exact .bind (ih _ _ (hl.tl (by rw [e]; decide))) fun f l1 h1 => .need h1 (by decide) fun h2 => h2
  · exact .nam hl fun f h => h
theorem en_br {a : F} {l : List Tok} (hl : Ends l) : EN (brP rec a l) := by
  unfold brP
  exact .bind (ih _ _ hl) fun e l1 h1 => .need h1 (by decide) fun h2 => .bind (ih _ _ h2) fun b l2 h3 => h3
theorem en_step (j : J) (l : List Tok) (hl : Ends l) : EN (stp' rec j l) := by
  have tl : ∀ c, hc l = c → c ≠ 56 → Ends l.tail := fun c h h2 => hl.tl (by rw [h]; exact h2)
  cases j with
  | blk c => exact .bind (ih _ _ hl) fun _ _ h => h
  | bk c a =>
    simp only [stp']
    split
    · next h => exact ih _ _ (tl _ h (by decide))
    · split
      · next h => exact .bind (en_last ih (tl _ h (by decide))) fun _ _ h => h
      · split
        · next h => exact .bind (en_fun ih (tl _ h.2 (by decide))) fun _ _ h => ih _ _ h
        · split
          · exact hl
          · exact .bind (ih _ _ hl) fun _ _ h => ih _ _ h
  | stat =>
    simp only [stp']
    split
    · exact en_body ih hl fun _ _ h => h
    · split
      · next h => exact .bind (ih _ _ (tl _ h (by decide))) fun _ _ h => en_body ih h fun _ _ h => h
      · split
        · next h => exact .bind (ih _ _ (tl _ h (by decide))) fun _ _ h => h
        · split
          · next h => exact en_for ih (tl _ h (by decide))
          · split
            · next h => exact en_loc ih (tl _ h (by decide))
            · split
              · next h => exact tl _ h (by decide)
              · exact en_asg ih hl
  | lst a =>
    simp only [stp']
    refine .bind (ih _ _ hl) fun f l1 h1 => ?_
    split
    · next e => exact ih _ _ (h1.tl (by rw [e]; decide))
    · exact h1
  | nms a =>
    simp only [stp']
    split
    · next h => exact .nam (tl _ h (by decide)) fun f h => ih _ _ h
    · exact hl
  | ifs a =>
    simp only [stp']
    refine .bind (en_br ih hl) fun f l1 h1 => ?_
    split
    · next e => exact ih _ _ (h1.tl (by rw [e]; decide))
    · split
      · next e => exact .bind (ih _ _ (h1.tl (by rw [e]; decide))) fun _ _ h => .need h (by decide) fun h => h
      · exact .need h1 (by decide) fun h => h
  | asg a =>
    simp only [stp', tgt]
    split
    · next h =>
      refine .bind (ih _ _ (tl _ h (by decide))) fun f l1 h1 => ?_
      split
      · exact ih _ _ h1
      · exact trivial
    · exact hl
  | ex a => exact .bind (ih _ _ hl) fun _ _ h => ih _ _ h
  | exl a f =>
    simp only [stp']
    split
    · next h => exact .bind (ih _ _ (hl.tl (by intro e; rw [e] at h; exact absurd h (by simp [bnd])))) fun _ _ h => ih _ _ h
    · exact hl
  | opd =>
    simp only [stp', tabP]
    split
    · exact ih _ _ hl
    · split
      · next h => exact .bind (ih _ _ (tl _ h (by decide))) fun _ _ h => .need h (by decide) fun h => h
      · split
        · next h => exact .bind (ih _ _ (by rcases h with h | h | h <;> exact tl _ h (by decide))) fun _ _ h => h
        · split
          · next h => exact tl _ h (by decide)
          · split
            · next h => exact tl _ h (by decide)
            · split
              · next h => exact tl _ h (by decide)
              · split
                · next h => exact tl _ h (by decide)
                · split
                  · next h => exact tl _ h (by decide)
                  · exact trivial
  | suf => exact .bind (en_stem ih hl) fun _ _ h => ih _ _ h
  | sufl f =>
    simp only [stp']
    split
    · next h => exact .bind (ih _ _ (tl _ h (by decide))) fun _ _ h => .need h (by decide) fun h => ih _ _ h
    · split
      · next h => exact .nam (tl _ h (by decide)) fun _ h => ih _ _ h
      · split
        · next h => exact .bind (en_arg ih (tl _ h (by decide))) fun _ _ h => ih _ _ h
        · exact hl
  | tab a =>
    simp only [stp']
    split
    · exact hl
    · refine .bind (ih _ _ hl) fun f l1 h1 => ?_
      split
      · next e => exact ih _ _ (h1.tl (by rcases e with e | e <;> rw [e] <;> decide))
      · exact h1
  | fld =>
    simp only [stp']
    split
    · next h => exact .bind (ih _ _ (tl _ h (by decide))) fun _ _ h => .need h (by decide) fun h => .need h (by decide) fun h => .bind (ih _ _ h) fun _ _ h => h
    · split
      · next h => exact .bind (ih _ _ ((tl _ h.1 (by decide)).tl (by rw [h.2]; decide))) fun _ _ h => h
      · exact .bind (ih _ _ hl) fun _ _ h => h
end
theorem en_all : ∀ (n : Nat) (j : J) (l : List Tok), Ends l → EN (pr n j l)
  | 0, _, _, _ => trivial
  | n + 1, j, l, h => en_step (en_all n) j l h
theorem pr_ends {n : Nat} {j : J} {l l' : List Tok} {f : F} (h : pr n j l = .ok f l') (hl : Ends l) : Ends l' := by
  have := en_all n j l hl
  rw [h] at this
  exact this
theorem Ends.cons {l : List Tok} (h : Ends l) : ∃ t l', l = t :: l' := by
  cases l with
  | nil => exact absurd rfl h.ne
  | cons t l => exact ⟨t, l, rfl⟩

end Go.Proofs.YtlgkfhipobdcfabGreatDoor
