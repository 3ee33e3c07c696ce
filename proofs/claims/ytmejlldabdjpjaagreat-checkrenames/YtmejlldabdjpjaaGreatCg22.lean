/- Rows of trees by places; how a row lies in memory, from some place on. -/
import Derived.Test.YtmejlldabdjpjaaGreatCg04
import Derived.Maps.OwnSet
import Derived.Deep.AppendLies
import Derived.Laws.OwnMore
import Derived.Test.YtmejlldabdjpjaaGreatCg03
import Derived.Test.YtmejlldabdjpjaaGreatCg20
namespace Go.Proofs.YtmejlldabdjpjaaGreat
open Go.RowKit

def F.get? : F → Nat → Option (Int × List UInt8 × Int × Int × F)
  | .nil, _ => none
  | .cons k t n p ks _, 0 => some (k, t, n, p, ks)
  | .cons _ _ _ _ _ r, i + 1 => r.get? i
def F.take : F → Nat → F
  | .nil, _ => .nil
  | .cons _ _ _ _ _ _, 0 => .nil
  | .cons k t n p ks r, i + 1 => .cons k t n p ks (r.take i)
def F.drop : F → Nat → F
  | f, 0 => f
  | .nil, _ + 1 => .nil
  | .cons _ _ _ _ _ r, i + 1 => r.drop i
theorem F.take_len : ∀ (f : F) (i : Nat), i ≤ f.len → (f.take i).len = i
  | .nil, i, h => by simp only [F.len] at h; obtain rfl : i = 0 := by omega
                     rfl
  | .cons _ _ _ _ _ _, 0, _ => rfl
  | .cons k t n p ks r, i + 1, h => by simp only [F.take, F.len] at h ⊢; rw [r.take_len i (by omega)]
theorem F.drop_len : ∀ (f : F) (i : Nat), (f.drop i).len = f.len - i
  | f, 0 => by cases f <;> rfl
  | .nil, i + 1 => by simp [F.drop, F.len]
  | .cons k t n p ks r, i + 1 => by simp only [F.drop, F.len]; rw [r.drop_len i]; omega
theorem F.take_siz : ∀ (f : F) (i : Nat), (f.take i).siz ≤ f.siz
  | .nil, i => by cases i <;> exact Nat.le_refl _
  | .cons _ _ _ _ _ _, 0 => Nat.zero_le _
  | .cons k t n p ks r, i + 1 => by have := r.take_siz i; simp only [F.take, F.siz]; omega
theorem F.drop_siz : ∀ (f : F) (i : Nat), (f.drop i).siz ≤ f.siz
  | f, 0 => by cases f <;> exact Nat.le_refl _
  | .nil, i + 1 => Nat.le_refl _
  | .cons k t n p ks r, i + 1 => by have := r.drop_siz i; simp only [F.drop, F.siz]; omega
theorem F.get_some : ∀ (f : F) (i : Nat), i < f.len → ∃ x, f.get? i = some x
  | .nil, i, h => by simp [F.len] at h
  | .cons k t n p ks r, 0, _ => ⟨_, rfl⟩
  | .cons k t n p ks r, i + 1, h => r.get_some i (by simp only [F.len] at h; omega)
theorem F.get_siz : ∀ (f : F) (i : Nat) (k : Int) (t : List UInt8) (n p : Int) (ks : F), f.get? i = some (k, t, n, p, ks) → ks.siz + 1 ≤ f.siz
  | .nil, i, _, _, _, _, _, h => by simp [F.get?] at h
  | .cons k t n p ks r, 0, _, _, _, _, _, h => by simp only [F.get?, Option.some.injEq, Prod.mk.injEq] at h; obtain ⟨rfl, rfl, rfl, rfl, rfl⟩ := h; simp only [F.siz]; omega
  | .cons k t n p ks r, i + 1, k', t', n', p', ks', h => by have := r.get_siz i k' t' n' p' ks' h; simp only [F.siz]; omega

/-- The cells of a row in memory, from an address on. -/
structure Rv (w : World) (P : Nat → Prop) (a : Option Addr) (r : F) : Prop where
  ex : ∃ xs, KF 42 w P xs r ∧ (xs ≠ [] → ∃ g o, a = some ⟨g, o, none⟩ ∧ P g ∧ g < w.heap.size ∧ ∀ j u, xs[j]? = some u → w.cell? ⟨g, o + j, none⟩ = some u)
theorem TN.rv {w : World} {P : Nat → Prop} {k : Int} {t : List UInt8} {n p : Int} {a : Option Addr} {c : Nat} {ks : F} (h : TN 42 w P k t n p (.slice a ks.len c) ks) : Rv w P a ks := by
  obtain ⟨hP, xs, own, hk⟩ := h.out
  refine ⟨xs, hk, fun hne => ?_⟩
  rcases own.2 with ⟨e1, e2⟩ | ⟨g, cap, cur, e1, _, h3, _, _, _, r4⟩
  · have := own.1; rw [e2] at this; exact absurd (List.eq_nil_of_length_eq_zero (by omega)) hne
  · rw [e1] at hP
    injection e1 with e1 e2 e3
    refine ⟨g, 0, e1, hP g rfl, (Array.getElem?_eq_some_iff.1 h3).1, fun j u hu => ?_⟩
    rw [cell_of_row w g _ cur 42 (0, 0) h3, Nat.zero_add]
    rw [← r4, List.getElem?_take] at hu
    split at hu
    · simpa using hu
    · cases hu
theorem Rv.keep {w w' : World} {P : Nat → Prop} {a : Option Addr} {r : F} (h : Rv w P a r) (hs : w.heap.size ≤ w'.heap.size) (hb : ∀ g, P g → g < w.heap.size → w'.heap[g]? = w.heap[g]?) : Rv w' P a r := by
  obtain ⟨xs, hk, hx⟩ := h.ex
  refine ⟨xs, hk.keep fun g hg hl => hb g hg hl, fun hne => ?_⟩
  obtain ⟨g, o, e, hP, hg, hc⟩ := hx hne
  exact ⟨g, o, e, hP, Nat.lt_of_lt_of_le hg hs, fun j u hu => (World.cell?_of_block (hb g hP hg)).trans (hc j u hu)⟩
/-- The first tree of a row, and the others. -/
theorem Rv.cons {w : World} {P : Nat → Prop} {a : Option Addr} {k : Int} {t : List UInt8} {n p : Int} {ks r : F} (h : Rv w P a (.cons k t n p ks r)) : ∃ g o a' c', a = some ⟨g, o, none⟩ ∧ g < w.heap.size ∧ w.cell? ⟨g, o, none⟩ = some (.int .i64 k) ∧ w.cell? ⟨g, o + 1, none⟩ = some (.string ⟨t.toArray⟩) ∧ w.cell? ⟨g, o + 2, none⟩ = some (.int .i64 n) ∧ w.cell? ⟨g, o + 3, none⟩ = some (.int .i64 p) ∧ w.cell? ⟨g, o + 4, none⟩ = some (.slice a' ks.len c') ∧
    Rv w P a' ks ∧ Rv w P (some ⟨g, o + 5, none⟩) r ∧ ks.len ≤ c' ∧ c' ≤ maxLen := by
  obtain ⟨xs, hk, hx⟩ := h.ex
  cases hk with
  | @cons _ _ _ _ v xs' rest _ _ own hP hk hr =>
    obtain ⟨g, o, e, hPg, hg, hc⟩ := hx (by simp)
    have hs : ∃ a' c', v = .slice a' ks.len c' ∧ ks.len ≤ c' ∧ c' ≤ maxLen := by
      rcases own.2 with ⟨rfl, e2⟩ | ⟨g', cap, cur, rfl, _, _, e4, e5, _⟩
      · exact ⟨none, 0, by rw [e2], by omega, Nat.zero_le _⟩
      · exact ⟨_, _, rfl, e4, e5⟩
    obtain ⟨a', c', rfl, hcc⟩ := hs
    refine ⟨g, o, a', c', e, hg, hc 0 _ rfl, hc 1 _ rfl, hc 2 _ rfl, hc 3 _ rfl, hc 4 _ rfl, TN.rv (k := k) (t := t) (n := n) (p := p) ⟨.cons own hP hk .nil⟩, ⟨rest, hr, fun _ => ⟨g, o + 5, rfl, hPg, hg, fun j u hu => ?_⟩⟩, hcc⟩
    have := hc (j + 5) u (by simpa using hu)
    rw [show o + 5 + j = o + (j + 5) by omega]
    exact this
/-- The i-th tree of a row. -/
theorem Rv.nth {w : World} {P : Nat → Prop} : ∀ (r : F) (i : Nat) {a : Option Addr} {k : Int} {t : List UInt8} {n p : Int} {ks : F}, Rv w P a r → r.get? i = some (k, t, n, p, ks) → ∃ g o a' c', a = some ⟨g, o, none⟩ ∧ g < w.heap.size ∧ w.cell? ⟨g, o + i * 5, none⟩ = some (.int .i64 k) ∧ w.cell? ⟨g, o + i * 5 + 1, none⟩ = some (.string ⟨t.toArray⟩) ∧ w.cell? ⟨g, o + i * 5 + 2, none⟩ = some (.int .i64 n) ∧ w.cell? ⟨g, o + i * 5 + 3, none⟩ = some (.int .i64 p) ∧ w.cell? ⟨g, o + i * 5 + 4, none⟩ = some (.slice a' ks.len c') ∧ Rv w P a' ks ∧ ks.len ≤ c' ∧ c' ≤ maxLen
  | .nil, i, _, _, _, _, _, _, _, h => by simp [F.get?] at h
  | .cons k t n p ks r, 0, _, _, _, _, _, _, hr, h => by
    simp only [F.get?, Option.some.injEq, Prod.mk.injEq] at h
    obtain ⟨rfl, rfl, rfl, rfl, rfl⟩ := h
    obtain ⟨g, o, a', c', e, hg, c0, c1, c2, c3, c4, h1, _, h3⟩ := hr.cons
    exact ⟨g, o, a', c', e, hg, by simpa using c0, by simpa using c1, by simpa using c2, by simpa using c3, by simpa using c4, h1, h3⟩
  | .cons k t n p ks r, i + 1, _, _, _, _, _, _, hr, h => by
    obtain ⟨g, o, _, _, rfl, hg, _, _, _, _, _, _, h2, _⟩ := hr.cons
    obtain ⟨g', o', a', c', e, hg', c0, c1, c2, c3, c4, h1⟩ := Rv.nth r i h2 h
    injection e with e
    injection e with e1 e2
    subst e1 e2
    refine ⟨g, o, a', c', rfl, hg, ?_, ?_, ?_, ?_, ?_, h1⟩
    · rw [show o + (i + 1) * 5 = o + 5 + i * 5 by omega]; exact c0
    · rw [show o + (i + 1) * 5 = o + 5 + i * 5 by omega]; exact c1
    · rw [show o + (i + 1) * 5 = o + 5 + i * 5 by omega]; exact c2
    · rw [show o + (i + 1) * 5 = o + 5 + i * 5 by omega]; exact c3
    · rw [show o + (i + 1) * 5 = o + 5 + i * 5 by omega]; exact c4
theorem Rv.nil {w : World} {P : Nat → Prop} (a : Option Addr) : Rv w P a .nil := ⟨[], .nil, fun h => absurd rfl h⟩
/-- A row without its first trees. -/
theorem Rv.drop {w : World} {P : Nat → Prop} : ∀ (r : F) (i : Nat) {g o : Nat}, Rv w P (some ⟨g, o, none⟩) r → Rv w P (some ⟨g, o + i * 5, none⟩) (r.drop i)
  | r, 0, _, _, h => by simpa [F.drop] using (by cases r <;> exact h : Rv w P _ (r.drop 0))
  | .nil, i + 1, _, _, _ => Rv.nil _
  | .cons k t n p ks r, i + 1, g, o, h => by
    obtain ⟨g', o', _, _, e, _, _, _, _, _, _, _, h2, _⟩ := h.cons
    injection e with e
    injection e with e1 e2
    subst e1 e2
    have := Rv.drop r i h2
    rw [show o + (i + 1) * 5 = o + 5 + i * 5 by omega]
    exact this
theorem KF.take {w : World} {P : Nat → Prop} : ∀ (r : F) (i : Nat) {xs : List Value}, KF 42 w P xs r → ∃ ys : List Value, KF 42 w P ys (r.take i) ∧ ∀ (j : Nat) (u : Value), ys[j]? = some u → xs[j]? = some u
  | .nil, i, _, h => by
    cases h
    exact ⟨[], by cases i <;> exact .nil, fun j u hu => by simp at hu⟩
  | .cons k t n p ks r, 0, _, _ => ⟨[], .nil, fun j u hu => by simp at hu⟩
  | .cons k t n p ks r, i + 1, _, h => by
    cases h with
    | @cons _ _ _ _ v xs' rest _ _ own hP hk hr =>
      obtain ⟨ys, h1, h2⟩ := KF.take r i hr
      refine ⟨_, .cons own hP hk h1, fun j u hu => ?_⟩
      match j, hu with
      | 0, hu => exact hu
      | 1, hu => exact hu
      | 2, hu => exact hu
      | 3, hu => exact hu
      | 4, hu => exact hu
      | j + 5, hu => simpa using h2 j u (by simpa using hu)
/-- A row's first trees. -/
theorem Rv.take {w : World} {P : Nat → Prop} {a : Option Addr} {r : F} (h : Rv w P a r) (i : Nat) : Rv w P a (r.take i) := by
  obtain ⟨xs, hk, hx⟩ := h.ex
  obtain ⟨ys, h1, h2⟩ := KF.take r i hk
  refine ⟨ys, h1, fun hne => ?_⟩
  have hxn : xs ≠ [] := by
    rintro rfl
    cases ys with
    | nil => exact hne rfl
    | cons y ys => have := h2 0 y rfl; simp at this
  obtain ⟨g, o, e, hP, hg, hc⟩ := hx hxn
  exact ⟨g, o, e, hP, hg, fun j u hu => hc j u (h2 j u hu)⟩
end Go.Proofs.YtmejlldabdjpjaaGreat

/- The check as a plain function of a tree (no program in it). -/
namespace Go.Proofs.YtmejlldabdjpjaaGreat
open Go.RowKit

abbrev Tx := List UInt8
abbrev Vl := Int × Int × Tx
structure Fn where
  nm : Tx
  pl : Int
  pa : Int
  sl : Int
  cs : List Vl
structure Cs where
  fs : List Fn
  gl : List Tx
  nu : Nat
  lo : List Tx
  lp : Int
  ar : List Tx
  cd : Int
  ct : Int
def Cs.bad (s : Cs) : Bool := !(decide (s.cd = 0) && decide (s.ct = 0))
def fau (c a : Int) (s : Cs) : Cs := if s.bad = true then s else { s with cd := c, ct := a }
def lim (p n m : Int) (s : Cs) : Cs := if m < n then fau 6 p s else s
def kep (t : Tx) : Bool := decide (t = [116, 97, 98, 108, 101]) || decide (t = [117, 116, 102, 56])
def unk (t : Tx) (p : Int) (s : Cs) : Cs := if kep t = true then fau 5 p s else s
def glo (t : Tx) (s : Cs) : Cs := if s.gl.contains t = true then s else { s with gl := s.gl ++ [t] }
def conF (f : Fn) (v : Vl) (p : Int) (s : Cs) : Cs := if f.cs.contains v = true then s else lim p ((f.cs.length : Int) + 1) 250 { s with fs := s.fs.set s.nu { f with cs := f.cs ++ [v] } }
def con (v : Vl) (p : Int) (s : Cs) : Cs := (s.fs[s.nu]?).elim s fun f => conF f v p s
def ngl (t : Tx) (p : Int) (s : Cs) : Cs := glo t (if s.ar.contains t = true then fau 5 p s else s)
def nmC (t : Tx) (p : Int) (s : Cs) : Cs := if s.lo.contains t = true then unk t p s else ngl t p (unk t p s)
/-- Names are brought, one behind the other. -/
def brN : F → Cs → Cs
  | .nil, s => s
  | .cons _ t _ p _ r, s => brN r { unk t p s with lo := s.lo ++ [t] }
def slo (s : Cs) : Cs := (s.fs[s.nu]?).elim s fun f => { s with fs := s.fs.set s.nu { f with sl := max f.sl (s.lo.length : Int) } }
def bri (p : Int) (r : F) (s : Cs) : Cs := slo (lim p ((brN r s).lo.length : Int) 60 (brN r s))
def ixk (k : Int) (ks : F) : Bool := decide (k = 7) && (ks.get? 0).elim false fun x => decide (x.1 = 6) && kep x.2.1
/-- The names of the library, and their numbers. -/
def libL : List (Tx × Int) :=
  [([112, 114, 105, 110, 116], 1), ([116, 121, 112, 101], 2), ([116, 111, 115, 116, 114, 105, 110, 103], 3), ([116, 111, 110, 117, 109, 98, 101, 114], 4), ([110, 101, 120, 116], 5), ([112, 97, 105, 114, 115], 6), ([105, 112, 97, 105, 114, 115], 7), ([114, 97, 119, 108, 101, 110], 8), ([115, 116, 97, 116, 115], 9), ([112, 114, 111, 98, 101, 115], 10),
   ([116, 97, 98, 108, 101, 46, 105, 110, 115, 101, 114, 116], 12), ([116, 97, 98, 108, 101, 46, 114, 101, 109, 111, 118, 101], 13), ([116, 97, 98, 108, 101, 46, 99, 111, 110, 99, 97, 116], 14), ([116, 97, 98, 108, 101, 46, 117, 110, 112, 97, 99, 107], 15), ([116, 97, 98, 108, 101, 46, 109, 111, 118, 101], 16), ([116, 97, 98, 108, 101, 46, 115, 111, 114, 116], 17),
   ([117, 116, 102, 56, 46, 108, 101, 110], 18), ([117, 116, 102, 56, 46, 99, 104, 97, 114], 19), ([117, 116, 102, 56, 46, 99, 111, 100, 101, 112, 111, 105, 110, 116], 20), ([117, 116, 102, 56, 46, 111, 102, 102, 115, 101, 116], 21), ([117, 116, 102, 56, 46, 99, 111, 100, 101, 115], 22)]
def libG : List (Tx × Int) → Tx → Int
  | [], _ => 0
  | x :: l, t => if t = x.1 then x.2 else libG l t
def libN (t : Tx) : Int := libG libL t
abbrev Ndc := Int → Tx → Int → Int → F → Cs → Cs
section
variable (nd : Ndc)
def ckN : F → Cs → Cs
  | .nil, s => s
  | .cons k t n p ks r, s => ckN r (nd k t n p ks s)
/-- The kids of an Assign; the first n are targets. -/
def ckA (n : Int) : Int → F → Cs → Cs
  | _, .nil, s => s
  | i, .cons k t m p ks r, s => ckA n (i + 1) r (nd k t m p ks (if decide (i < n) && ixk k ks then fau 5 p s else s))
def ndG (ks : F) (i : Nat) (s : Cs) : Cs := (ks.get? i).elim s fun x => nd x.1 x.2.1 x.2.2.1 x.2.2.2.1 x.2.2.2.2 s
def lopB (p : Int) (ks : F) (m : Nat) (s : Cs) : Cs :=
  let s3 := bri p (ks.take m) { s with lo := s.lo ++ [[], [], []] }
  let s5 := ndG nd ks (ks.len - 1) { s3 with lp := s3.lp + 1 }
  { s5 with lp := s5.lp - 1, lo := s5.lo.take s.lo.length }
def lopC (p : Int) (ks : F) (m : Nat) (s : Cs) : Cs := lopB nd p ks m (ckN nd ((ks.take (ks.len - 1)).drop m) s)
/-- A Function: its head, then what it holds. -/
def fncH (t : Tx) (n p : Int) (s : Cs) : Cs := glo t (lim p n 50 (unk t p (lim p (s.fs.length : Int) 100 s)))
def fncB (t : Tx) (n p : Int) (ks : F) (m : Nat) (s : Cs) : Cs :=
  let s7 := bri p (ks.take m) { s with fs := s.fs ++ [⟨t, p, n, 0, []⟩], nu := s.fs.length, lo := [], lp := 0, ar := s.lo }
  { ndG nd ks m s7 with nu := s.nu, lo := s.lo, lp := s.lp, ar := [] }
def blkC (ks : F) (s : Cs) : Cs := { ckN nd ks s with lo := (ckN nd ks s).lo.take s.lo.length }
def ckX (k : Int) (t : Tx) (n p : Int) (ks : F) (s : Cs) : Cs :=
  if k = 20 then blkC nd ks s
  else if k = 21 then bri p (ks.take n.toNat) (ckN nd (ks.drop n.toNat) (lim p ((ks.len : Int) - n) 50 (lim p n 50 s)))
  else if k = 22 then ckA nd n 0 ks (lim p ((ks.len : Int) - n) 50 (lim p n 50 s))
  else if k = 25 then { ckN nd ks { s with lp := s.lp + 1 } with lp := (ckN nd ks { s with lp := s.lp + 1 }).lp - 1 }
  else if k = 26 then lopC nd p ks 1 s
  else if k = 27 then lopC nd p ks n.toNat (lim p ((ks.len : Int) - n - 1) 50 (lim p n 50 s))
  else if k = 29 then (if s.lp = 0 then fau 5 p s else s)
  else if k = 30 then ckN nd ks (lim p (ks.len : Int) 50 s)
  else if k = 31 then fncB nd t n p ks n.toNat (fncH t n p s)
  else ckN nd ks s
def ckI (p : Int) (ks : F) (s : Cs) : Cs :=
  if ixk 7 ks = true then (ks.get? 0).elim s fun x => (ks.get? 1).elim s fun y => if (!decide (y.1 = 5) || decide (libN (x.2.1 ++ [46] ++ y.2.1) = 0)) = true then fau 5 p s else s
  else ckN nd ks s
def ckS (k : Int) (t : Tx) (n p : Int) (ks : F) (s : Cs) : Cs :=
  if s.bad = true then s
  else if k = 4 then con (2, n, []) p s
  else if k = 5 then con (3, 0, t) p s
  else if k = 6 then nmC t p s
  else if k = 7 then ckI nd p ks s
  else if k = 8 then ckN nd ks (lim p ((ks.len : Int) - 1) 50 s)
  else if k = 12 then ckN nd ks (lim p (ks.len : Int) 200 s)
  else ckX nd k t n p ks s
end
def ck : Nat → Ndc
  | 0 => fun _ _ _ _ _ s => s
  | N + 1 => ckS (ck N)
/-- How many kids a node has to have. -/
def arC (k n : Int) (l : Nat) : Bool :=
  if k = 7 ∨ k = 26 then decide (2 ≤ l)
  else if k = 21 ∨ k = 22 then decide (0 ≤ n ∧ n ≤ l)
  else if k = 27 ∨ k = 31 then decide (0 ≤ n ∧ n + 1 ≤ l)
  else true
def F.wfC : F → Bool
  | .nil => true
  | .cons k t n _ ks r => arC k n ks.len && decide (t.length ≤ 20000) && ks.wfC && r.wfC
theorem F.wfC_cons {k : Int} {t : Tx} {n p : Int} {ks r : F} (h : (F.cons k t n p ks r).wfC = true) : (one k t n p ks).wfC = true ∧ r.wfC = true := by
  simp only [F.wfC, one, Bool.and_eq_true] at h ⊢
  exact ⟨⟨⟨h.1.1, h.1.2⟩, trivial⟩, h.2⟩
theorem F.wfC_one {k : Int} {t : Tx} {n p : Int} {ks : F} (h : (one k t n p ks).wfC = true) : arC k n ks.len = true ∧ t.length ≤ 20000 ∧ ks.wfC = true := by
  simp only [F.wfC, one, Bool.and_eq_true, decide_eq_true_eq] at h
  exact ⟨h.1.1.1, h.1.1.2, h.1.2⟩
theorem F.wfC_get : ∀ (f : F) (i : Nat) {k : Int} {t : Tx} {n p : Int} {ks : F}, f.wfC = true → f.get? i = some (k, t, n, p, ks) → (one k t n p ks).wfC = true
  | .nil, i, _, _, _, _, _, _, h => by simp [F.get?] at h
  | .cons k t n p ks r, 0, _, _, _, _, _, ho, h => by
    simp only [F.get?, Option.some.injEq, Prod.mk.injEq] at h
    obtain ⟨rfl, rfl, rfl, rfl, rfl⟩ := h
    exact (F.wfC_cons ho).1
  | .cons k t n p ks r, i + 1, _, _, _, _, _, ho, h => F.wfC_get r i (F.wfC_cons ho).2 h
theorem F.wfC_take : ∀ (f : F) (i : Nat), f.wfC = true → (f.take i).wfC = true
  | .nil, i, _ => by cases i <;> rfl
  | .cons _ _ _ _ _ _, 0, _ => rfl
  | .cons k t n p ks r, i + 1, h => by
    simp only [F.wfC, F.take, Bool.and_eq_true] at h ⊢
    exact ⟨h.1, F.wfC_take r i h.2⟩
theorem F.wfC_drop : ∀ (f : F) (i : Nat), f.wfC = true → (f.drop i).wfC = true
  | f, 0, h => by cases f <;> exact h
  | .nil, i + 1, _ => rfl
  | .cons k t n p ks r, i + 1, h => F.wfC_drop r i (F.wfC_cons h).2
theorem F.td_siz : ∀ (f : F) (i : Nat), (f.take i).siz + (f.drop i).siz = f.siz
  | .nil, i => by cases i <;> rfl
  | .cons k t n p ks r, 0 => by simp [F.take, F.drop, F.siz]
  | .cons k t n p ks r, i + 1 => by have := F.td_siz r i; simp only [F.take, F.drop, F.siz]; omega
theorem F.get_drop : ∀ (f : F) (i : Nat) {k : Int} {t : Tx} {n p : Int} {ks : F}, f.get? i = some (k, t, n, p, ks) → ks.siz + 1 ≤ (f.drop i).siz
  | .nil, i, _, _, _, _, _, h => by simp [F.get?] at h
  | .cons k t n p ks r, 0, _, _, _, _, _, h => by
    simp only [F.get?, Option.some.injEq, Prod.mk.injEq] at h
    obtain ⟨rfl, rfl, rfl, rfl, rfl⟩ := h
    simp only [F.drop, F.siz]; omega
  | .cons k t n p ks r, i + 1, _, _, _, _, _, h => F.get_drop r i h
theorem F.take_take : ∀ (f : F) (i j : Nat), i ≤ j → (f.take j).take i = f.take i
  | .nil, i, j, _ => by cases i <;> cases j <;> rfl
  | .cons _ _ _ _ _ _, 0, 0, _ => rfl
  | .cons _ _ _ _ _ _, 0, j + 1, _ => rfl
  | .cons k t n p ks r, i + 1, j + 1, h => by simp only [F.take, F.take_take r i j (by omega)]

theorem F.drop_zero : ∀ (f : F) (i : Nat), f.len ≤ i → (f.drop i).siz = 0
  | .nil, i, _ => by cases i <;> rfl
  | .cons k t n p ks r, 0, h => by simp [F.len] at h
  | .cons k t n p ks r, i + 1, h => F.drop_zero r i (by simp only [F.len] at h; omega)
theorem F.take_le : ∀ (f : F) (i : Nat), (f.take i).len ≤ f.len
  | .nil, i => by cases i <;> exact Nat.le_refl _
  | .cons _ _ _ _ _ _, 0 => Nat.zero_le _
  | .cons k t n p ks r, i + 1 => by have := F.take_le r i; simp only [F.take, F.len]; omega
/-! What stays, what grows. -/
def csS (l : List Fn) : Nat := (l.map fun f => f.cs.length).sum
def Cs.wt (s : Cs) : Nat := s.gl.length + s.lo.length + s.fs.length + csS s.fs
structure Gd (z : Nat) (s s' : Cs) : Prop where
  nu : s'.nu = s.nu
  lp : s'.lp = s.lp
  fs : s.fs.length ≤ s'.fs.length
  lo : s.lo.length ≤ s'.lo.length
  wt : s'.wt ≤ s.wt + 4 * z
theorem Gd.refl (z : Nat) (s : Cs) : Gd z s s := ⟨rfl, rfl, Nat.le_refl _, Nat.le_refl _, by omega⟩
theorem Gd.trans {y z : Nat} {a b c : Cs} (h : Gd y a b) (k : Gd z b c) : Gd (y + z) a c := ⟨k.nu.trans h.nu, k.lp.trans h.lp, Nat.le_trans h.fs k.fs, Nat.le_trans h.lo k.lo, by have := h.wt; have := k.wt; omega⟩
theorem Gd.mono {y z : Nat} {a b : Cs} (h : Gd y a b) (k : y ≤ z) : Gd z a b := ⟨h.nu, h.lp, h.fs, h.lo, by have := h.wt; omega⟩
theorem gd_fau (c a : Int) (s : Cs) : Gd 0 s (fau c a s) := by
  unfold fau; split
  · exact .refl _ _
  · exact ⟨rfl, rfl, Nat.le_refl _, Nat.le_refl _, Nat.le_refl _⟩
theorem gd_lim (p n m : Int) (s : Cs) : Gd 0 s (lim p n m s) := by
  unfold lim; split
  · exact gd_fau _ _ _
  · exact .refl _ _
theorem gd_unk (t : Tx) (p : Int) (s : Cs) : Gd 0 s (unk t p s) := by
  unfold unk; split
  · exact gd_fau _ _ _
  · exact .refl _ _
theorem lo_fau (c a : Int) (s : Cs) : (fau c a s).lo = s.lo := by unfold fau; split <;> rfl
theorem lo_unk (t : Tx) (p : Int) (s : Cs) : (unk t p s).lo = s.lo := by
  unfold unk; split
  · exact lo_fau _ _ _
  · rfl
theorem lo_lim (p n m : Int) (s : Cs) : (lim p n m s).lo = s.lo := by
  unfold lim; split
  · exact lo_fau _ _ _
  · rfl
theorem gd_glo (t : Tx) (s : Cs) : Gd 1 s (glo t s) := by
  unfold glo; split
  · exact .refl _ _
  · exact ⟨rfl, rfl, Nat.le_refl _, Nat.le_refl _, by simp only [Cs.wt, List.length_append, List.length_singleton]; omega⟩
theorem lo_glo (t : Tx) (s : Cs) : (glo t s).lo = s.lo := by unfold glo; split <;> rfl
theorem wt_glo (t : Tx) (s : Cs) : (glo t s).wt ≤ s.wt + 1 := by
  unfold glo; split
  · omega
  · simp only [Cs.wt, List.length_append, List.length_singleton]; omega
theorem wt_fncH (t : Tx) (n p : Int) (s : Cs) : (fncH t n p s).wt ≤ s.wt + 1 := by
  have h := (((gd_lim p (s.fs.length : Int) 100 s).trans (gd_unk t p _)).trans (gd_lim p n 50 _)).wt
  have := wt_glo t (lim p n 50 (unk t p (lim p (s.fs.length : Int) 100 s)))
  unfold fncH
  omega
theorem csS_set : ∀ (l : List Fn) (i : Nat) (f g : Fn), l[i]? = some f → csS (l.set i g) + f.cs.length = csS l + g.cs.length
  | [], i, f, g, h => by simp at h
  | x :: l, 0, f, g, h => by simp at h; subst h; simp [csS]; omega
  | x :: l, i + 1, f, g, h => by have := csS_set l i f g (by simpa using h); simp [csS] at this ⊢; omega
theorem gd_con (v : Vl) (p : Int) (s : Cs) : Gd 1 s (con v p s) := by
  unfold con
  cases hf : s.fs[s.nu]? with
  | none => exact .refl _ _
  | some f =>
    show Gd 1 s (conF f v p s)
    unfold conF; split
    · exact .refl _ _
    · refine (Gd.trans (y := 1) ?_ (gd_lim _ _ _ _)).mono (by omega)
      have h := csS_set s.fs s.nu f { f with cs := f.cs ++ [v] } hf
      simp only [List.length_append, List.length_singleton] at h
      exact ⟨rfl, rfl, by simp, Nat.le_refl _, by simp only [Cs.wt, List.length_set]; omega⟩
theorem gd_ngl (t : Tx) (p : Int) (s : Cs) : Gd 1 s (ngl t p s) := by
  unfold ngl
  split
  · exact ((gd_fau _ _ _).trans (gd_glo _ _)).mono (by omega)
  · exact gd_glo _ _
theorem gd_nmC (t : Tx) (p : Int) (s : Cs) : Gd 1 s (nmC t p s) := by
  unfold nmC
  split
  · exact (gd_unk _ _ _).mono (by omega)
  · exact ((gd_unk _ _ _).trans (gd_ngl _ _ _)).mono (by omega)
theorem gd_brN : ∀ (r : F) (s : Cs), Gd r.len s (brN r s)
  | .nil, s => .refl _ _
  | .cons k t n p ks r, s => by
    have h := gd_unk t p s
    have h1 : Gd 1 s { unk t p s with lo := s.lo ++ [t] } := ⟨h.nu, h.lp, h.fs, by simp, by have w := h.wt; simp only [Cs.wt, lo_unk] at w; simp only [Cs.wt, List.length_append, List.length_singleton]; omega⟩
    exact (h1.trans (gd_brN r _)).mono (by simp only [F.len]; omega)
theorem brN_lo : ∀ (r : F) (s : Cs), (brN r s).lo.length = s.lo.length + r.len
  | .nil, s => rfl
  | .cons k t n p ks r, s => by
    show (brN r { unk t p s with lo := s.lo ++ [t] }).lo.length = _
    rw [brN_lo r]; simp only [F.len, List.length_append, List.length_singleton]; omega
theorem gd_slo (s : Cs) : Gd 0 s (slo s) := by
  unfold slo
  cases hf : s.fs[s.nu]? with
  | none => exact .refl _ _
  | some f =>
    have h := csS_set s.fs s.nu f { f with sl := max f.sl (s.lo.length : Int) } hf
    simp only at h
    exact ⟨rfl, rfl, by simp, Nat.le_refl _, by simp only [Cs.wt, Option.elim, List.length_set]; omega⟩
theorem gd_bri (p : Int) (r : F) (s : Cs) : Gd r.len s (bri p r s) := (((gd_brN r s).trans (gd_lim _ _ _ _)).trans (gd_slo _)).mono (by omega)
theorem bri_lo (p : Int) (r : F) (s : Cs) : (bri p r s).lo.length = s.lo.length + r.len := by
  have h : ∀ s : Cs, (slo s).lo = s.lo := fun s => by unfold slo; cases s.fs[s.nu]? <;> rfl
  unfold bri
  rw [h, lo_lim, brN_lo]
theorem wt_brN : ∀ (r : F) (s : Cs), (brN r s).wt ≤ s.wt + r.len
  | .nil, s => Nat.le_refl _
  | .cons k t n p ks r, s => by
    have w := (gd_unk t p s).wt
    have i := wt_brN r { unk t p s with lo := s.lo ++ [t] }
    simp only [Cs.wt, lo_unk] at w
    show (brN r { unk t p s with lo := s.lo ++ [t] }).wt ≤ _
    simp only [Cs.wt, List.length_append, List.length_singleton, F.len] at i ⊢
    omega
theorem wt_bri (p : Int) (r : F) (s : Cs) : (bri p r s).wt ≤ s.wt + r.len := by
  have h1 := wt_brN r s
  have h2 := (gd_lim p ((brN r s).lo.length : Int) 60 (brN r s)).wt
  have h3 := (gd_slo (lim p ((brN r s).lo.length : Int) 60 (brN r s))).wt
  unfold bri
  omega
section
variable {nd : Ndc} (H : ∀ k t n p ks s, Gd (ks.siz + 1) s (nd k t n p ks s))
include H
theorem gd_ckN : ∀ (r : F) (s : Cs), Gd r.siz s (ckN nd r s)
  | .nil, s => .refl _ _
  | .cons k t n p ks r, s => ((H k t n p ks s).trans (gd_ckN r _)).mono (by simp only [F.siz]; omega)
theorem gd_ckA (n : Int) : ∀ (r : F) (i : Int) (s : Cs), Gd r.siz s (ckA nd n i r s)
  | .nil, i, s => .refl _ _
  | .cons k t m p ks r, i, s => by
    have h : Gd 0 s (if decide (i < n) && ixk k ks then fau 5 p s else s) := by
      split
      · exact gd_fau _ _ _
      · exact .refl _ _
    exact ((h.trans (H k t m p ks _)).trans (gd_ckA n r (i + 1) _)).mono (by simp only [F.siz]; omega)
theorem gd_ndG (ks : F) (i : Nat) (s : Cs) : Gd (ks.drop i).siz s (ndG nd ks i s) := by
  unfold ndG
  cases h : ks.get? i with
  | none => exact .refl _ _
  | some x =>
    obtain ⟨k, t, n, p, f⟩ := x
    exact (H k t n p f s).mono (F.get_drop ks i h)
theorem gd_lopC (p : Int) (ks : F) (m : Nat) (s : Cs) : Gd (ks.siz + 1) s (lopC nd p ks m s) := by
  have h1 := gd_ckN H ((ks.take (ks.len - 1)).drop m) s
  unfold lopC
  generalize ckN nd ((ks.take (ks.len - 1)).drop m) s = s1 at h1 ⊢
  have h3 := gd_bri p (ks.take m) { s1 with lo := s1.lo ++ [[], [], []] }
  have l3 := bri_lo p (ks.take m) { s1 with lo := s1.lo ++ [[], [], []] }
  have w3 := wt_bri p (ks.take m) { s1 with lo := s1.lo ++ [[], [], []] }
  unfold lopB
  generalize bri p (ks.take m) { s1 with lo := s1.lo ++ [[], [], []] } = s3 at h3 l3 w3 ⊢
  have h5 := gd_ndG H ks (ks.len - 1) { s3 with lp := s3.lp + 1 }
  simp only
  generalize ndG nd ks (ks.len - 1) { s3 with lp := s3.lp + 1 } = s5 at h5 ⊢
  have z1 := F.td_siz ks (ks.len - 1)
  have z2 : (ks.take m).len + 4 * ((ks.take (ks.len - 1)).drop m).siz ≤ 4 * (ks.take (ks.len - 1)).siz + 1 := by
    by_cases hm : m + 1 ≤ ks.len
    · have z2 := F.td_siz (ks.take (ks.len - 1)) m
      rw [F.take_take ks m (ks.len - 1) (by omega)] at z2
      have z3 := (ks.take m).len_siz
      omega
    · have e1 := F.take_len ks (ks.len - 1) (by omega)
      have e2 := F.drop_zero (ks.take (ks.len - 1)) m (by omega)
      have e3 := (ks.take (ks.len - 1)).len_siz
      have e4 := F.take_le ks m
      omega
  have w1 := h1.wt
  have w5 := h5.wt
  have e5 := h5.lo
  have n1 := h1.nu
  have n3 := h3.nu
  have n5 := h5.nu
  have q1 := h1.lp
  have q3 := h3.lp
  have q5 := h5.lp
  have f1 := h1.fs
  have f3 := h3.fs
  have f5 := h5.fs
  have e1 := h1.lo
  simp only [Cs.wt, List.length_append, List.length_cons, List.length_nil] at w1 w3 w5 e5 n1 n3 n5 q1 q3 q5 f1 f3 f5 e1 l3
  have l5 : (s5.lo.take s1.lo.length).length = s1.lo.length := by rw [List.length_take]; omega
  refine ⟨?_, ?_, ?_, ?_, ?_⟩
  · show s5.nu = s.nu
    omega
  · show s5.lp - 1 = s.lp
    omega
  · show s.fs.length ≤ s5.fs.length
    omega
  · show s.lo.length ≤ (s5.lo.take s1.lo.length).length
    omega
  · show s5.gl.length + (s5.lo.take s1.lo.length).length + s5.fs.length + csS s5.fs ≤ s.gl.length + s.lo.length + s.fs.length + csS s.fs + 4 * (ks.siz + 1)
    omega
theorem gd_fncB (t : Tx) (n p : Int) (ks : F) (m : Nat) (s : Cs) : s.fs.length ≤ (fncB nd t n p ks m s).fs.length ∧ (fncB nd t n p ks m s).wt ≤ s.wt + 4 * ks.siz + 1 := by
  have h3 := gd_bri p (ks.take m) { s with fs := s.fs ++ [⟨t, p, n, 0, []⟩], nu := s.fs.length, lo := [], lp := 0, ar := s.lo }
  unfold fncB
  generalize bri p (ks.take m) { s with fs := s.fs ++ [⟨t, p, n, 0, []⟩], nu := s.fs.length, lo := [], lp := 0, ar := s.lo } = s3 at h3 ⊢
  have h5 := gd_ndG H ks m s3
  simp only
  generalize ndG nd ks m s3 = s5 at h5 ⊢
  have z1 := F.td_siz ks m
  have z3 := (ks.take m).len_siz
  have w3 := h3.wt
  have w5 := h5.wt
  have f3 := h3.fs
  have f5 := h5.fs
  have hc : csS (s.fs ++ [⟨t, p, n, 0, []⟩]) = csS s.fs := by simp [csS]
  simp only [Cs.wt, List.length_append, List.length_cons, List.length_nil, hc] at *
  exact ⟨by omega, by omega⟩
theorem gd_ckS (k : Int) (t : Tx) (n p : Int) (ks : F) (s : Cs) : Gd (ks.siz + 1) s (ckS nd k t n p ks s) := by
  have L := fun (n m : Int) (s : Cs) => gd_lim p n m s
  unfold ckS
  split
  · exact .refl _ _
  split
  · exact (gd_con _ _ _).mono (by omega)
  split
  · exact (gd_con _ _ _).mono (by omega)
  split
  · exact (gd_nmC _ _ _).mono (by omega)
  split
  · unfold ckI; split
    · cases ks.get? 0 with
      | none => exact .refl _ _
      | some x =>
        cases ks.get? 1 with
        | none => exact .refl _ _
        | some y =>
          simp only [Option.elim]
          split
          · exact (gd_fau _ _ _).mono (by omega)
          · exact .refl _ _
    · exact (gd_ckN H _ _).mono (by omega)
  split
  · exact ((L _ _ _).trans (gd_ckN H _ _)).mono (by omega)
  split
  · exact ((L _ _ _).trans (gd_ckN H _ _)).mono (by omega)
  unfold ckX
  split
  · have h := gd_ckN H ks s
    have w := h.wt
    have e := h.lo
    unfold blkC
    refine ⟨h.nu, h.lp, h.fs, ?_, ?_⟩
    · simp only [List.length_take]; omega
    · simp only [Cs.wt, List.length_take] at *; omega
  split
  · have z := F.td_siz ks n.toNat
    have z3 := (ks.take n.toNat).len_siz
    exact ((((L _ _ _).trans (L _ _ _)).trans (gd_ckN H _ _)).trans (gd_bri _ _ _)).mono (by omega)
  split
  · exact (((L _ _ _).trans (L _ _ _)).trans (gd_ckA H _ _ _ _)).mono (by omega)
  split
  · have h := gd_ckN H ks { s with lp := s.lp + 1 }
    have w := h.wt
    have q := h.lp
    refine ⟨h.nu, ?_, h.fs, h.lo, ?_⟩
    · simp only at q ⊢; omega
    · simp only [Cs.wt] at *; omega
  split
  · next h => subst h; exact gd_lopC H p ks 1 s
  split
  · next h => subst h; exact ((L _ _ _).trans ((L _ _ _).trans (gd_lopC H p ks n.toNat _))).mono (by omega)
  split
  · split
    · exact (gd_fau _ _ _).mono (by omega)
    · exact .refl _ _
  split
  · exact ((L _ _ _).trans (gd_ckN H _ _)).mono (by omega)
  split
  · next h =>
    subst h
    have h1 : Gd _ s (fncH t n p s) := ((((L (s.fs.length : Int) 100 s).trans (gd_unk t p _)).trans (L n 50 _)).trans (gd_glo t _))
    have h2 := gd_fncB H t n p ks n.toNat (fncH t n p s)
    have f1 := h1.fs
    have l1 : (fncH t n p s).lo = s.lo := by unfold fncH; rw [lo_glo, lo_lim, lo_unk, lo_lim]
    have w1 : (fncH t n p s).wt ≤ s.wt + 1 := wt_fncH t n p s
    refine ⟨h1.nu, h1.lp, Nat.le_trans f1 h2.1, ?_, by have := h2.2; omega⟩
    show s.lo.length ≤ (fncH t n p s).lo.length
    rw [l1]; exact Nat.le_refl _
  · exact (gd_ckN H _ _).mono (by omega)
end
theorem gd_ck : ∀ (N : Nat) (k : Int) (t : Tx) (n p : Int) (ks : F) (s : Cs), Gd (ks.siz + 1) s (ck N k t n p ks s)
  | 0, _, _, _, _, _, _ => .refl _ _
  | N + 1, k, t, n, p, ks, s => gd_ckS (gd_ck N) k t n p ks s
end Go.Proofs.YtmejlldabdjpjaaGreat

/- The checker in memory. -/
namespace Go.Proofs.YtmejlldabdjpjaaGreat
open Go.RowKit

/-- What a call keeps: the blocks of No. -/
structure Kn (No : Nat → Prop) (W W' : World) : Prop where
  os : W'.os = W.os
  tape : W'.tape = W.tape
  output : W'.output = W.output
  size : W.heap.size ≤ W'.heap.size
  block : ∀ k, k < W.heap.size → No k → W'.heap[k]? = W.heap[k]?
theorem Kn.refl (No : Nat → Prop) (W : World) : Kn No W W := ⟨rfl, rfl, rfl, Nat.le_refl _, fun _ _ _ => rfl⟩
theorem Kn.trans {No : Nat → Prop} {x y z : World} (h : Kn No x y) (k : Kn No y z) : Kn No x z :=
  ⟨k.os.trans h.os, k.tape.trans h.tape, k.output.trans h.output, Nat.le_trans h.size k.size, fun i hi hn => (k.block i (Nat.lt_of_lt_of_le hi h.size) hn).trans (h.block i hi hn)⟩
theorem Kn.mono {No No' : Nat → Prop} {x y : World} (h : Kn No x y) (hs : ∀ k, k < x.heap.size → No' k → No k) : Kn No' x y := ⟨h.os, h.tape, h.output, h.size, fun k hk hn => h.block k hk (hs k hk hn)⟩
theorem Kn.of_below {No : Nat → Prop} {x y : World} (h : Below x.heap.size x y) : Kn No x y := ⟨h.os, h.tape, h.output, h.size, fun k hk _ => h.block k hk⟩
theorem Kn.alloc {No : Nat → Prop} {a w : World} (h : Kn No a w) (o : Obj) : Kn No a (w.alloc o) := h.trans (.of_below ((Below.refl _ w).alloc (Nat.le_refl _) o))
theorem Kn.drew {No : Nat → Prop} {a w : World} (h : Kn No a w) : Kn No a w.drew := ⟨h.os, h.tape, h.output, h.size, h.block⟩
theorem Kn.setCell {No : Nat → Prop} {b o : Nat} {a w : World} (h : Kn No a w) (hb : ¬ No b) (u : Value) : Kn No a (w.setCell ⟨b, o, none⟩ u) :=
  h.trans ⟨rfl, rfl, rfl, by simp, fun k _ hk => Below.heap_setCell w _ u k (fun e => hb (by have e : k = b := e; rw [← e]; exact hk))⟩
theorem Bx.kn {X : Nat} {e : TypeId} {cur : Array Value} {w w' : World} {No : Nat → Prop} (h : Bx X e cur w) (k : Kn No w w') (hX : No X) : Bx X e cur w' := ⟨(k.block X h.lt hX).trans h.blk⟩
theorem Rv.kn {No : Nat → Prop} {w w' : World} {a : Option Addr} {r : F} (h : Rv w No a r) (k : Kn No w w') : Rv w' No a r := h.keep k.size fun g hg hl => k.block g hl hg
theorem KF.monoP {E : TypeId} {w : World} {P Q : Nat → Prop} {xs : List Value} {f : F} (h : KF E w P xs f) (hb : ∀ g, P g → Q g) : KF E w Q xs f := h.mono fun g hg _ => hb g hg
theorem Rv.mono {P Q : Nat → Prop} {w : World} {a : Option Addr} {r : F} (h : Rv w P a r) (hb : ∀ g, P g → Q g) : Rv w Q a r := by
  obtain ⟨xs, hk, hx⟩ := h.ex
  exact ⟨xs, hk.monoP hb, fun hne => by obtain ⟨g, o, e, hP, r⟩ := hx hne; exact ⟨g, o, e, hb g hP, r⟩⟩

/-- Texts, values and functions as cells. -/
def strs (l : List Tx) : List Value := l.map fun t => .string ⟨t.toArray⟩
def vcl (l : List Vl) : List Value := l.flatMap fun v => [.int .i64 v.1, .int .i64 v.2.1, .string ⟨v.2.2.toArray⟩]
def fcl : List Fn → List Value → List Value
  | f :: fs, v :: vs => .string ⟨f.nm.toArray⟩ :: .int .i64 f.pl :: .int .i64 f.pa :: .int .i64 f.sl :: v :: fcl fs vs
  | _, _ => []
theorem fcl_app : ∀ (fs : List Fn) (vs : List Value) (f : Fn) (v : Value), vs.length = fs.length → fcl (fs ++ [f]) (vs ++ [v]) = fcl fs vs ++ [.string ⟨f.nm.toArray⟩, .int .i64 f.pl, .int .i64 f.pa, .int .i64 f.sl, v]
  | [], [], f, v, _ => rfl
  | [], _ :: _, _, _, h => by simp at h
  | _ :: _, [], _, _, h => by simp at h
  | g :: fs, u :: vs, f, v, h => by
    show _ :: _ :: _ :: _ :: _ :: fcl (fs ++ [f]) (vs ++ [v]) = _
    rw [fcl_app fs vs f v (by simpa using h)]; rfl
theorem fcl_at : ∀ (fs : List Fn) (vs : List Value) (i : Nat) (f : Fn) (v : Value), fs[i]? = some f → vs[i]? = some v →
    (fcl fs vs)[i * 5]? = some (.string ⟨f.nm.toArray⟩) ∧ (fcl fs vs)[i * 5 + 1]? = some (.int .i64 f.pl) ∧ (fcl fs vs)[i * 5 + 2]? = some (.int .i64 f.pa) ∧ (fcl fs vs)[i * 5 + 3]? = some (.int .i64 f.sl) ∧ (fcl fs vs)[i * 5 + 4]? = some v
  | [], _, i, f, v, h, _ => by simp at h
  | _ :: _, [], i, f, v, _, h => by simp at h
  | g :: fs, u :: vs, 0, f, v, h, k => by simp at h k; subst h k; exact ⟨rfl, rfl, rfl, rfl, rfl⟩
  | g :: fs, u :: vs, i + 1, f, v, h, k => by
    have := fcl_at fs vs i f v (by simpa using h) (by simpa using k)
    simpa only [show (i + 1) * 5 = i * 5 + 5 by omega, show i * 5 + 5 + 1 = i * 5 + 1 + 5 by omega, show i * 5 + 5 + 2 = i * 5 + 2 + 5 by omega, show i * 5 + 5 + 3 = i * 5 + 3 + 5 by omega, show i * 5 + 5 + 4 = i * 5 + 4 + 5 by omega, fcl, List.getElem?_cons_succ] using this
theorem fcl_sl : ∀ (fs : List Fn) (vs : List Value) (i : Nat) (f : Fn) (m : Int), fs[i]? = some f → vs.length = fs.length → (fcl fs vs).set (i * 5 + 3) (.int .i64 m) = fcl (fs.set i { f with sl := m }) vs
  | [], _, i, f, m, h, _ => by simp at h
  | _ :: _, [], i, f, v, _, h => by simp at h
  | g :: fs, u :: vs, 0, f, m, h, k => by simp at h; subst h; rfl
  | g :: fs, u :: vs, i + 1, f, m, h, k => by
    have := fcl_sl fs vs i f m (by simpa using h) (by simpa using k)
    rw [show (i + 1) * 5 + 3 = i * 5 + 3 + 5 by omega]
    simp only [fcl, List.set_cons_succ, this]
theorem fcl_cs : ∀ (fs : List Fn) (vs : List Value) (i : Nat) (f : Fn) (l : List Vl) (v : Value), fs[i]? = some f → vs.length = fs.length → (fcl fs vs).set (i * 5 + 4) v = fcl (fs.set i { f with cs := l }) (vs.set i v)
  | [], _, i, f, l, v, h, _ => by simp at h
  | _ :: _, [], i, f, l, v, _, h => by simp at h
  | g :: fs, u :: vs, 0, f, l, v, h, k => by simp at h; subst h; rfl
  | g :: fs, u :: vs, i + 1, f, l, v, h, k => by
    have := fcl_cs fs vs i f l v (by simpa using h) (by simpa using k)
    rw [show (i + 1) * 5 + 4 = i * 5 + 4 + 5 by omega]
    simp only [fcl, List.set_cons_succ, this]

/-- A set of texts in block m. -/
structure Ms (w : World) (m : Nat) (l : List Tx) : Prop where
  ex : ∃ (D : DataW Unit) (n : Nat), w.ownsMap Tryz.prog 9 unitElem m n D ∧ n ≤ l.length ∧ ∀ t : Tx, Maps.has D (.string t) = l.contains t
theorem Ms.keep {w w' : World} {m : Nat} {l : List Tx} (h : Ms w m l) (hb : w'.heap[m]? = w.heap[m]?) : Ms w' m l := by
  obtain ⟨D, n, ⟨es, clock, h1, h2⟩, h3⟩ := h.ex
  exact ⟨D, n, ⟨es, clock, hb.trans h1, h2⟩, h3⟩
theorem Ms.lt {w : World} {m : Nat} {l : List Tx} (h : Ms w m l) : m < w.heap.size := by
  obtain ⟨D, n, h1, _⟩ := h.ex
  exact h1.lt

/-- Where the checker's parts lie: the functions, the globals, the locals, those around, the map, each function's constants; a label for each block. -/
structure Cx where
  vF : Value
  vG : Value
  vL : Value
  vA : Value
  m : Nat
  vs : List Value
  lab : Nat → Nat
def ccl (x : Cx) (s : Cs) : Array Value := #[x.vF, x.vG, .map (some x.m), .int .i64 (s.nu : Nat), x.vL, .int .i64 s.lp, x.vA, .int .i64 s.cd, .int .i64 s.ct]
/-- The checker at block b; it leaves the blocks of No. -/
structure CK (No : Nat → Prop) (b : Nat) (x : Cx) (s : Cs) (w : World) : Prop where
  bx : Bx b 63 (ccl x s) w
  fr : w.ownsRow 0 48 5 x.vF s.fs.length (fcl s.fs x.vs)
  gr : w.ownsRow 0 9 1 x.vG s.gl.length (strs s.gl)
  lr : w.ownsRow 0 9 1 x.vL s.lo.length (strs s.lo)
  ar : w.ownsRow 0 9 1 x.vA s.ar.length (strs s.ar)
  mp : Ms w x.m s.gl
  cs : ∀ (i : Nat) (f : Fn) (v : Value), s.fs[i]? = some f → x.vs[i]? = some v → w.ownsRow 0 54 3 v f.cs.length (vcl f.cs)
  vl : x.vs.length = s.fs.length
  lb : x.lab b = 1
  lF : ∀ g, x.vF.ownBlock = some g → x.lab g = 2
  lG : ∀ g, x.vG.ownBlock = some g → x.lab g = 3
  lL : ∀ g, x.vL.ownBlock = some g → x.lab g = 4
  lA : ∀ g, x.vA.ownBlock = some g → No g
  lm : x.lab x.m = 5
  lc : ∀ (i : Nat) (v : Value) (g : Nat), x.vs[i]? = some v → v.ownBlock = some g → x.lab g = 6 + i
  no : ∀ g, No g → g < w.heap.size ∧ x.lab g = 0
  nu : s.nu < s.fs.length
section
variable {No : Nat → Prop} {b : Nat} {x : Cx} {s : Cs} {w w' : World}
theorem CK.lt (h : CK No b x s w) : b < w.heap.size := h.bx.lt
theorem CK.nob (h : CK No b x s w) : ¬ No b := fun e => by have := (h.no b e).2; have := h.lb; omega
/-- What a change leaves that touches blocks with labels of T alone. -/
structure Tr (x : Cx) (T : Nat → Prop) (w w' : World) : Prop where
  size : w.heap.size ≤ w'.heap.size
  block : ∀ g, g < w.heap.size → ¬ T (x.lab g) → w'.heap[g]? = w.heap[g]?
theorem CK.fr' (h : CK No b x s w) {T : Nat → Prop} (k : Tr x T w w') (hT : ¬ T 2) : w'.ownsRow 0 48 5 x.vF s.fs.length (fcl s.fs x.vs) := own_keep h.fr fun g hg => k.block g (h.fr.lt g hg).2 (by rw [h.lF g hg]; exact hT)
theorem CK.gr' (h : CK No b x s w) {T : Nat → Prop} (k : Tr x T w w') (hT : ¬ T 3) : w'.ownsRow 0 9 1 x.vG s.gl.length (strs s.gl) := own_keep h.gr fun g hg => k.block g (h.gr.lt g hg).2 (by rw [h.lG g hg]; exact hT)
theorem CK.lr' (h : CK No b x s w) {T : Nat → Prop} (k : Tr x T w w') (hT : ¬ T 4) : w'.ownsRow 0 9 1 x.vL s.lo.length (strs s.lo) := own_keep h.lr fun g hg => k.block g (h.lr.lt g hg).2 (by rw [h.lL g hg]; exact hT)
theorem CK.ar' (h : CK No b x s w) {T : Nat → Prop} (k : Tr x T w w') (hT : ¬ T 0) : w'.ownsRow 0 9 1 x.vA s.ar.length (strs s.ar) := own_keep h.ar fun g hg => k.block g (h.ar.lt g hg).2 (by rw [(h.no g (h.lA g hg)).2]; exact hT)
theorem CK.mp' (h : CK No b x s w) {T : Nat → Prop} (k : Tr x T w w') (hT : ¬ T 5) : Ms w' x.m s.gl := h.mp.keep (k.block _ h.mp.lt (by rw [h.lm]; exact hT))
theorem CK.cs' (h : CK No b x s w) {T : Nat → Prop} (k : Tr x T w w') {i : Nat} (hT : ¬ T (6 + i)) {f : Fn} {v : Value} (hf : s.fs[i]? = some f) (hv : x.vs[i]? = some v) : w'.ownsRow 0 54 3 v f.cs.length (vcl f.cs) :=
  own_keep (h.cs i f v hf hv) fun g hg => k.block g ((h.cs i f v hf hv).lt g hg).2 (by rw [h.lc i v g hv hg]; exact hT)
theorem CK.no' (h : CK No b x s w) (k : w.heap.size ≤ w'.heap.size) : ∀ g, No g → g < w'.heap.size ∧ x.lab g = 0 := fun g hg => ⟨Nat.lt_of_lt_of_le (h.no g hg).1 k, (h.no g hg).2⟩
theorem CK.bx' (h : CK No b x s w) {T : Nat → Prop} (k : Tr x T w w') (hT : ¬ T 1) : Bx b 63 (ccl x s) w' := ⟨(k.block b h.lt (by rw [h.lb]; exact hT)).trans h.bx.blk⟩
theorem CK.tr (h : CK No b x s w) (k : Tr x (fun _ => False) w w') : CK No b x s w' :=
  ⟨h.bx' k id, h.fr' k id, h.gr' k id, h.lr' k id, h.ar' k id, h.mp' k id, fun _ _ _ hf hv => h.cs' k id hf hv, h.vl, h.lb, h.lF, h.lG, h.lL, h.lA, h.lm, h.lc, h.no' k.size, h.nu⟩
theorem CK.below (h : CK No b x s w) (k : Below w.heap.size w w') : CK No b x s w' := h.tr ⟨k.size, fun g hg _ => k.block g hg⟩
theorem CK.alloc (h : CK No b x s w) (o : Obj) : CK No b x s (w.alloc o) := h.below ((Below.refl _ w).alloc (Nat.le_refl _) o)
theorem CK.drew (h : CK No b x s w) : CK No b x s w.drew := h.tr ⟨Nat.le_refl _, fun _ _ _ => rfl⟩
/-- Fewer blocks to be left. -/
theorem CK.less {No' : Nat → Prop} (h : CK No b x s w) (hs : ∀ g, No' g → No g) (hA : ∀ g, x.vA.ownBlock = some g → No' g) : CK No' b x s w :=
  ⟨h.bx, h.fr, h.gr, h.lr, h.ar, h.mp, h.cs, h.vl, h.lb, h.lF, h.lG, h.lL, hA, h.lm, h.lc, fun g hg => h.no g (hs g hg), h.nu⟩
/-- A block that is none of the checker's is to be left, too. -/
theorem CK.more (h : CK No b x s w) {X : Nat} (hX : w.heap.size ≤ X) (h2 : X < w'.heap.size) (k : Below w.heap.size w w') : CK (fun g => No g ∨ g = X) b { x with lab := fun g => if g = X then 0 else x.lab g } s w' := by
  have h' := h.below k
  have e : ∀ g, g < w.heap.size → (if g = X then 0 else x.lab g) = x.lab g := fun g hg => if_neg (by omega)
  exact ⟨h'.bx, h'.fr, h'.gr, h'.lr, h'.ar, h'.mp, h'.cs, h.vl, (e b h.lt).trans h.lb, fun g hg => (e g (h.fr.lt g hg).2).trans (h.lF g hg), fun g hg => (e g (h.gr.lt g hg).2).trans (h.lG g hg), fun g hg => (e g (h.lr.lt g hg).2).trans (h.lL g hg), fun g hg => .inl (h.lA g hg), (e _ h.mp.lt).trans h.lm,
    fun i v g hv hg => by
      obtain ⟨f, hf⟩ : ∃ f, s.fs[i]? = some f := by
        have := (List.getElem?_eq_some_iff.1 hv).1
        rw [h.vl] at this
        exact ⟨_, List.getElem?_eq_getElem this⟩
      exact (e g ((h.cs i f v hf hv).lt g hg).2).trans (h.lc i v g hv hg),
    fun g hg => hg.elim (fun hg => ⟨(h'.no g hg).1, (e g (h.no g hg).1).trans (h.no g hg).2⟩) (fun hg => by subst hg; exact ⟨h2, if_pos rfl⟩), h.nu⟩
end
/-- The checker, wherever its parts lie. -/
def Ck (No : Nat → Prop) (b : Nat) (s : Cs) (w : World) : Prop := ∃ x, CK No b x s w
/-- A call that goes on with the check. -/
def CP (No : Nat → Prop) (b : Nat) (W : World) (s : Cs) (e : Ending) (w' : World) : Prop := e = .returned (.tuple #[]) ∧ Ck No b s w' ∧ Kn No W w'
/-- The checker since a call's beginning, beside the block of a struct. -/
structure Cy (No : Nat → Prop) (b : Nat) (s : Cs) (W : World) (X : Nat) (cur : Array Value) (w : World) : Prop where
  ck : Ck (fun g => No g ∨ g = X) b s w
  kn : Kn No W w
  bx : Bx X 42 cur w
  xl : W.heap.size ≤ X
section
variable {No : Nat → Prop} {b : Nat} {x : Cx} {s s' : Cs} {W w w' : World} {X : Nat} {cur : Array Value}
theorem Ck.below (h : Ck No b s w) (k : Below w.heap.size w w') : Ck No b s w' := by obtain ⟨x, h⟩ := h; exact ⟨x, h.below k⟩
theorem Ck.alloc (h : Ck No b s w) (o : Obj) : Ck No b s (w.alloc o) := by obtain ⟨x, h⟩ := h; exact ⟨x, h.alloc o⟩
theorem Ck.cy (h : Ck No b s w) (cur : Array Value) : Cy No b s w w.heap.size cur (w.alloc (.cells cur 42)) := by
  obtain ⟨x, h⟩ := h
  exact ⟨⟨_, h.more (Nat.le_refl _) (by simp) ((Below.refl _ w).alloc (Nat.le_refl _) _)⟩, (Kn.refl _ _).alloc _, Bx.new _ _ _, Nat.le_refl _⟩
theorem Cy.step {e : Ending} (h : Cy No b s W X cur w) (hc : CP (fun g => No g ∨ g = X) b w s' e w') : Cy No b s' W X cur w' :=
  ⟨hc.2.1, h.kn.trans (hc.2.2.mono fun _ _ e => .inl e), h.bx.kn hc.2.2 (.inr rfl), h.xl⟩
theorem Cy.below (h : Cy No b s W X cur w) (k : Below w.heap.size w w') : Cy No b s W X cur w' := ⟨h.ck.below k, h.kn.trans (.of_below k), h.bx.below k, h.xl⟩
theorem Cy.alloc (h : Cy No b s W X cur w) (o : Obj) : Cy No b s W X cur (w.alloc o) := h.below ((Below.refl _ w).alloc (Nat.le_refl _) o)
theorem Cy.out (h : Cy No b s W X cur w) : CP No b W s (.returned (.tuple #[])) w := by
  obtain ⟨x, hx⟩ := h.ck
  by_cases hq : ∃ g, x.vA.ownBlock = some g ∧ g = X
  · obtain ⟨g, h1, rfl⟩ := hq
    rcases hx.ar.2 with ⟨e, _⟩ | ⟨g', cap, cu, e, _, h3, _⟩
    · rw [e] at h1; simp [Value.ownBlock] at h1
    · rw [e] at h1
      have e2 : g' = g := by simpa [Value.ownBlock] using h1
      rw [e2, h.bx.blk] at h3
      injection h3 with h3
      injection h3 with _ h4
      exact absurd h4 (by decide)
  · exact ⟨rfl, ⟨x, hx.less (fun g e => .inl e) fun g hg => (hx.lA g hg).elim id fun e => absurd ⟨g, hg, e⟩ hq⟩, h.kn⟩
theorem Cy.rv {a : Option Addr} {r : F} (h : Cy No b s W X cur w) (hr : Rv W No a r) : Rv w (fun g => No g ∨ g = X) a r := (hr.kn h.kn).mono fun _ e => .inl e
end
end Go.Proofs.YtmejlldabdjpjaaGreat

/- Trees of the right form (plain). -/
namespace Go.Proofs.YtmejlldabdjpjaaGreat
open Go.RowKit

/-- The kinds of a row. -/
def F.kds : F → List Int
  | .nil => []
  | .cons k _ _ _ _ r => k :: r.kds
def isE (k : Int) : Bool := decide (1 ≤ k ∧ k ≤ 14)
def isS (k : Int) : Bool := decide (21 ≤ k ∧ k ≤ 31)
def ifL : List Int → Bool
  | [] => true
  | [b] => b == 20
  | e :: b :: r => isE e && b == 20 && ifL r
/-- Expressions, then a block. -/
def exB (l : List Int) : Bool := l.dropLast.all isE && l.getLast? == some 20
def okN (k n : Int) (l : List Int) : Bool :=
  if k = 1 ∨ k = 2 ∨ k = 3 ∨ k = 5 ∨ k = 6 ∨ k = 29 then true
  else if k = 4 then decide (-9223372036854775808 ≤ n ∧ n ≤ 9223372036854775807)
  else if k = 7 ∨ k = 11 ∨ k = 14 then decide (l.length = 2) && l.all isE
  else if k = 8 then decide (1 ≤ l.length) && l.all isE
  else if k = 9 ∨ k = 10 ∨ k = 13 ∨ k = 23 then decide (l.length = 1) && l.all isE
  else if k = 12 ∨ k = 30 then l.all isE
  else if k = 20 then l.all isS
  else if k = 21 ∨ k = 22 then decide (1 ≤ n ∧ n ≤ l.length) && l.all isE
  else if k = 24 then ifL l
  else if k = 25 then decide (l.length = 2) && exB l
  else if k = 26 then decide (2 ≤ l.length) && l.head? == some 6 && exB l
  else if k = 27 ∨ k = 31 then decide (0 ≤ n ∧ n + 1 ≤ l.length) && exB l
  else if k = 28 then decide (l.length = 1) && exB l
  else false
def F.okT : F → Bool
  | .nil => true
  | .cons k t n _ ks r => okN k n ks.kds && decide (t.length ≤ 20000) && ks.okT && r.okT
theorem F.kds_len : ∀ f : F, f.kds.length = f.len
  | .nil => rfl
  | .cons k t n p ks r => by simp only [F.kds, F.len, List.length_cons, r.kds_len]
theorem F.okT_cons {k : Int} {t : List UInt8} {n p : Int} {ks r : F} (h : (F.cons k t n p ks r).okT = true) : (one k t n p ks).okT = true ∧ r.okT = true := by
  simp only [F.okT, one, Bool.and_eq_true] at h ⊢
  exact ⟨⟨⟨h.1.1, h.1.2⟩, trivial⟩, h.2⟩
theorem F.okT_one {k : Int} {t : List UInt8} {n p : Int} {ks : F} (h : (one k t n p ks).okT = true) : okN k n ks.kds = true ∧ t.length ≤ 20000 ∧ ks.okT = true := by
  simp only [F.okT, one, Bool.and_eq_true, decide_eq_true_eq] at h
  exact ⟨h.1.1.1, h.1.1.2, h.1.2⟩
theorem F.okT_get : ∀ (f : F) (i : Nat) {k : Int} {t : List UInt8} {n p : Int} {ks : F}, f.okT = true → f.get? i = some (k, t, n, p, ks) → (one k t n p ks).okT = true
  | .nil, i, _, _, _, _, _, _, h => by simp [F.get?] at h
  | .cons k t n p ks r, 0, _, _, _, _, _, ho, h => by
    simp only [F.get?, Option.some.injEq, Prod.mk.injEq] at h
    obtain ⟨rfl, rfl, rfl, rfl, rfl⟩ := h
    exact (F.okT_cons ho).1
  | .cons k t n p ks r, i + 1, _, _, _, _, _, ho, h => F.okT_get r i (F.okT_cons ho).2 h
theorem F.kds_get : ∀ (f : F) (i : Nat) {k : Int} {t : List UInt8} {n p : Int} {ks : F}, f.get? i = some (k, t, n, p, ks) → f.kds[i]? = some k
  | .nil, i, _, _, _, _, _, h => by simp [F.get?] at h
  | .cons k t n p ks r, 0, _, _, _, _, _, h => by
    simp only [F.get?, Option.some.injEq, Prod.mk.injEq] at h
    obtain ⟨rfl, rfl, rfl, rfl, rfl⟩ := h
    rfl
  | .cons k t n p ks r, i + 1, _, _, _, _, _, h => by simpa [F.kds] using F.kds_get r i h
theorem okN_arC {k n : Int} {f : F} (h : okN k n f.kds = true) : arC k n f.len = true := by
  have e := f.kds_len
  unfold arC
  split
  · next hk => rcases hk with rfl | rfl <;> (simp [okN] at h; simp; omega)
  split
  · next hk => rcases hk with rfl | rfl <;> (simp [okN] at h; simp; omega)
  split
  · next hk => rcases hk with rfl | rfl <;> (simp [okN] at h; simp; omega)
  · rfl
theorem F.okT_wfC : ∀ f : F, f.okT = true → f.wfC = true
  | .nil, _ => rfl
  | .cons k t n p ks r, h => by
    simp only [F.okT, Bool.and_eq_true] at h
    simp only [F.wfC, Bool.and_eq_true]
    exact ⟨⟨⟨okN_arC h.1.1.1, h.1.1.2⟩, F.okT_wfC ks h.1.2⟩, F.okT_wfC r h.2⟩
end Go.Proofs.YtmejlldabdjpjaaGreat

/- Every tree that the grammar tells is of the right form. -/
namespace Go.Proofs.YtmejlldabdjpjaaGreat

theorem F.kds_app : ∀ f g : F, (f.app g).kds = f.kds ++ g.kds
  | .nil, g => rfl
  | .cons k t n p ks r, g => by simp only [F.app, F.kds, List.cons_append, F.kds_app r g]
theorem F.okT_app : ∀ f g : F, (f.app g).okT = (f.okT && g.okT)
  | .nil, g => by simp [F.app, F.okT]
  | .cons k t n p ks r, g => by simp only [F.app, F.okT, F.okT_app r g, Bool.and_assoc]
/-- The tokens' texts are short, their numbers small. -/
def Rtk (l : List Tok) : Prop := ∀ t ∈ l, t.t.length ≤ 20000 ∧ -9223372036854775808 ≤ t.v ∧ t.v ≤ 9223372036854775807
theorem Rtk.tl {l : List Tok} (h : Rtk l) : Rtk l.tail := fun t ht => h t (List.mem_of_mem_tail ht)
theorem Rtk.ht {l : List Tok} (h : Rtk l) : (ht l).length ≤ 20000 := by
  cases l with
  | nil => exact Nat.zero_le _
  | cons t l => exact (h t (List.mem_cons_self ..)).1
theorem Rtk.hv {l : List Tok} (h : Rtk l) : -9223372036854775808 ≤ hv l ∧ hv l ≤ 9223372036854775807 := by
  cases l with
  | nil => exact ⟨by decide, by decide⟩
  | cons t l => exact (h t (List.mem_cons_self ..)).2
/-- Rows of expressions, of statements; one tree. -/
structure REx (f : F) : Prop where
  ok : f.okT = true
  al : f.kds.all isE = true
structure RSt (f : F) : Prop where
  ok : f.okT = true
  al : f.kds.all isS = true
structure OEx (f : F) : Prop where
  ex : ∃ k, f.kds = [k] ∧ isE k = true
  ok : f.okT = true
structure OSt (f : F) : Prop where
  ex : ∃ k, f.kds = [k] ∧ isS k = true
  ok : f.okT = true
structure OBk (f : F) : Prop where
  ex : f.kds = [20]
  ok : f.okT = true
structure RIf (f : F) : Prop where
  ok : f.okT = true
  al : ifL f.kds = true
  ev : f.len % 2 = 0
theorem REx.nil : REx .nil := ⟨rfl, rfl⟩
theorem REx.app {f g : F} (h : REx f) (k : REx g) : REx (f.app g) := ⟨by rw [F.okT_app, h.ok, k.ok]; rfl, by rw [F.kds_app, List.all_append, h.al, k.al]; rfl⟩
theorem OEx.row {f : F} (h : OEx f) : REx f := by
  obtain ⟨k, e, hk⟩ := h.ex
  exact ⟨h.ok, by rw [e]; simpa using hk⟩
theorem OEx.len {f : F} (h : OEx f) : f.len = 1 := by
  obtain ⟨k, e, hk⟩ := h.ex
  rw [← f.kds_len, e]; rfl
theorem OBk.len {f : F} (h : OBk f) : f.len = 1 := by rw [← f.kds_len, h.ex]; rfl
theorem RSt.nil : RSt .nil := ⟨rfl, rfl⟩
theorem RSt.app {f g : F} (h : RSt f) (k : OSt g) : RSt (f.app g) := by
  obtain ⟨x, e, hk⟩ := k.ex
  exact ⟨by rw [F.okT_app, h.ok, k.ok]; rfl, by rw [F.kds_app, List.all_append, h.al, e]; simpa using hk⟩
theorem okT_mk {k n p : Int} {t : List UInt8} {ks : F} (h1 : okN k n ks.kds = true) (h2 : t.length ≤ 20000) (h3 : ks.okT = true) : (one k t n p ks).okT = true := by
  simp only [one, F.okT, h1, h3, Bool.and_true, Bool.true_and, decide_eq_true_eq]
  exact h2
theorem OEx.of {k n p : Int} {t : List UInt8} {ks : F} (hk : isE k = true) (h1 : okN k n ks.kds = true) (h2 : t.length ≤ 20000) (h3 : ks.okT = true) : OEx (one k t n p ks) := ⟨⟨k, rfl, hk⟩, okT_mk h1 h2 h3⟩
theorem OSt.of {k n p : Int} {t : List UInt8} {ks : F} (hk : isS k = true) (h1 : okN k n ks.kds = true) (h2 : t.length ≤ 20000) (h3 : ks.okT = true) : OSt (one k t n p ks) := ⟨⟨k, rfl, hk⟩, okT_mk h1 h2 h3⟩
theorem exB_app {f b : F} (h : REx f) (hb : OBk b) : exB (f.app b).kds = true := by
  rw [F.kds_app, hb.ex]
  simp only [exB, List.dropLast_concat, List.getLast?_append, List.getLast?_singleton, h.al, Bool.true_and]
  rfl
theorem app_ok {f b : F} (h : f.okT = true) (hb : b.okT = true) : (f.app b).okT = true := by rw [F.okT_app, h, hb]; rfl
theorem ifL_app : ∀ (n : Nat) (l m : List Int), l.length = 2 * n → ifL l = true → ifL (l ++ m) = ifL m
  | 0, l, m, h, _ => by
    obtain rfl : l = [] := List.eq_nil_of_length_eq_zero (by omega)
    rfl
  | n + 1, [], m, h, _ => by simp at h
  | n + 1, [_], m, h, _ => by simp at h; omega
  | n + 1, e :: b :: r, m, h, hi => by
    have h0 : isE e = true ∧ b = 20 ∧ ifL r = true := by cases r <;> simpa [ifL, and_assoc] using hi
    have h1 : r.length = 2 * n := by simp at h; omega
    have h2 := ifL_app n r m h1 h0.2.2
    rw [List.cons_append, List.cons_append]
    have e1 : ifL (e :: b :: (r ++ m)) = (isE e && b == 20 && ifL (r ++ m)) := by cases r ++ m <;> rfl
    rw [e1, h2, h0.1, h0.2.1]; simp
theorem RIf.app {f e b : F} (h : RIf f) (he : OEx e) (hb : OBk b) : RIf ((f.app e).app b) := by
  obtain ⟨k, e1, hk⟩ := he.ex
  refine ⟨app_ok (app_ok h.ok he.ok) hb.ok, ?_, ?_⟩
  · rw [F.kds_app, F.kds_app, e1, hb.ex, List.append_assoc, ifL_app (f.len / 2) _ _ (by rw [f.kds_len]; have := h.ev; omega) h.al]
    simp [ifL, hk]
  · rw [F.len_app, F.len_app, he.len, hb.len]; have := h.ev; omega
theorem RIf.els {f b : F} (h : RIf f) (hb : OBk b) : ifL (f.app b).kds = true := by
  rw [F.kds_app, hb.ex, ifL_app (f.len / 2) _ _ (by rw [f.kds_len]; have := h.ev; omega) h.al]
  rfl

/-- A going through: its trees and the tokens left are so. -/
def Wok (x : PR) (R : F → List Tok → Prop) : Prop :=
  match x with
  | .ok f m => R f m
  | .bad _ => True
  | .out => True
theorem Wok.ok {f : F} {m : List Tok} {R : F → List Tok → Prop} (h : R f m) : Wok (.ok f m) R := h
theorem Wok.mono {x : PR} {Q R : F → List Tok → Prop} (h : Wok x Q) (hk : ∀ f m, Q f m → R f m) : Wok x R := by
  cases x with
  | ok f m => exact hk f m h
  | bad p => exact trivial
  | out => exact trivial
theorem Wok.bind {x : PR} {k : F → List Tok → PR} {Q R : F → List Tok → Prop} (h : Wok x Q) (hk : ∀ f m, Q f m → Wok (k f m) R) : Wok (x.bind k) R := by
  cases x with
  | ok f m => exact hk f m h
  | bad p => exact trivial
  | out => exact trivial
theorem Wok.need {c : Nat} {l : List Tok} {k : List Tok → PR} {R : F → List Tok → Prop} (hl : Rtk l) (h : Rtk l.tail → Wok (k l.tail) R) : Wok (need c l k) R := by
  unfold Go.Proofs.YtmejlldabdjpjaaGreat.need
  split
  · exact h hl.tl
  · exact trivial
theorem Wok.nam {q : Int} {l : List Tok} {k : F → List Tok → PR} {R : F → List Tok → Prop} (hl : Rtk l) (hq : q = 5 ∨ q = 6) (h : ∀ f, OEx f → f.text.length ≤ 20000 → f.kds = [q] → Rtk l.tail → Wok (k f l.tail) R) : Wok (nam q l k) R := by
  unfold Go.Proofs.YtmejlldabdjpjaaGreat.nam
  split
  · refine h _ (.of ?_ ?_ hl.ht rfl) hl.ht rfl hl.tl
    · rcases hq with rfl | rfl <;> rfl
    · rcases hq with rfl | rfl <;> rfl
  · exact trivial
theorem Wok.tgt {f : F} {k : PR} {R : F → List Tok → Prop} (h : Wok k R) : Wok (tgt f k) R := by
  unfold Go.Proofs.YtmejlldabdjpjaaGreat.tgt
  split
  · exact h
  · exact trivial
/-- What a job tells of its trees' form. -/
@[reducible] def Okj (j : J) (f : F) : Prop :=
  match j with
  | .blk _ => OBk f
  | .bk _ a => RSt a → RSt f
  | .stat => OSt f
  | .lst a => REx a → REx f ∧ a.len ≤ f.len
  | .nms a => REx a → REx f ∧ a.len ≤ f.len
  | .asg a => REx a → REx f ∧ a.len ≤ f.len
  | .ifs a => RIf a → f.okT = true ∧ ifL f.kds = true
  | .tab a => REx a → REx f
  | .exl _ g => OEx g → OEx f
  | .sufl g => OEx g → OEx f
  | _ => OEx f
theorem two_ex {k : Int} {t : List UInt8} {p : Int} {f g : F} (hk : k = 7 ∨ k = 11 ∨ k = 14) (hf : OEx f) (hg : OEx g) (h2 : t.length ≤ 20000) : OEx (one k t 0 p (f.app g)) := by
  have h7 := (hf.row.app hg.row).al
  have e4 : ((f.app g).kds).length = 2 := by rw [F.kds_len, F.len_app, hf.len, hg.len]
  refine .of ?_ ?_ h2 (app_ok hf.ok hg.ok)
  · rcases hk with rfl | rfl | rfl <;> rfl
  · rcases hk with rfl | rfl | rfl <;> (simp [okN, e4] at h7 ⊢; exact h7)
section
variable {rec : J → List Tok → PR} (ih : ∀ j l, Rtk l → Wok (rec j l) fun f m => Rtk m ∧ Okj j f)
include ih
theorem ok_body {l : List Tok} {k : F → List Tok → PR} {R : F → List Tok → Prop} (hl : Rtk l) (h : ∀ f m, Rtk m → OBk f → Wok (k f m) R) : Wok (bodyP rec l k) R :=
  .need hl fun R1 => .bind (ih _ _ R1) fun f _ ⟨R2, T⟩ => .need R2 fun R3 => h f _ R3 T
theorem ok_last {l : List Tok} (hl : Rtk l) : Wok (lastP rec l) fun f m => Rtk m ∧ OSt f := by
  unfold lastP
  split
  · exact .ok ⟨hl.tl.tl, .of rfl rfl (Nat.zero_le _) rfl⟩
  · split
    · exact .ok ⟨hl.tl, .of rfl rfl (Nat.zero_le _) rfl⟩
    · refine .bind (ih _ _ hl.tl) fun f m ⟨R2, T⟩ => ?_
      have hT := (T .nil).1
      refine .ok ⟨?_, .of rfl (by simpa [okN] using hT.al) (Nat.zero_le _) hT.ok⟩
      split
      · exact R2.tl
      · exact R2
theorem ok_fun {l : List Tok} (hl : Rtk l) : Wok (funP rec l) fun f m => Rtk m ∧ OSt f := by
  unfold funP parP
  refine .nam hl.tl (.inr rfl) fun m T hm _ R2 => .need R2 fun R3 => .bind (Q := fun ps m => Rtk m ∧ REx ps) ?_ fun ps l1 ⟨R4, O4⟩ => .need R4 fun R5 => .bind (ih _ _ R5) fun b l2 ⟨R6, T6⟩ => .need R6 fun R7 => .ok ⟨R7, .of rfl ?_ hm (app_ok O4.ok T6.ok)⟩
  · split
    · exact .ok ⟨R3, .nil⟩
    · exact .nam R3 (.inr rfl) fun f T4 _ _ R4 => .mono (ih _ _ R4) fun ps m ⟨R5, h5⟩ => ⟨R5, (h5 T4.row).1⟩
  · have := exB_app O4 T6
    have e : (ps.app b).kds.length = ps.len + 1 := by rw [F.kds_len, F.len_app, T6.len]
    simp [okN, this, e]
theorem ok_br {a : F} {l : List Tok} (hl : Rtk l) (hA : RIf a) : Wok (brP rec a l) fun f m => Rtk m ∧ RIf f := by
  unfold brP
  exact .bind (ih _ _ hl) fun e l1 ⟨R1, T1⟩ => .need R1 fun R2 => .bind (ih _ _ R2) fun b l2 ⟨R3, T3⟩ => .ok ⟨R3, hA.app T1 T3⟩
theorem ok_num {p : Int} {a : F} {l : List Tok} (hl : Rtk l) (hA : OEx a) (ha6 : a.kds = [6]) : Wok (numP rec p a l) fun f m => Rtk m ∧ OSt f := by
  unfold numP
  refine .bind (ih _ _ hl) fun e1 l1 ⟨R1, T1⟩ => .need R1 fun R2 => .bind (ih _ _ R2) fun e2 l2 ⟨R3, T3⟩ => ?_
  have h2 := (hA.row.app T1.row).app T3.row
  split
  · exact .bind (ih _ _ R3.tl) fun e3 l3 ⟨R5, T5⟩ => ok_body ih R5 fun b l4 R6 T6 => .ok ⟨R6, .of rfl (by
      have h3 := exB_app (h2.app T5.row) T6
      have e4 : (((((a.app e1).app e2).app e3).app b).kds).length = 5 := by rw [F.kds_len, F.len_app, F.len_app, F.len_app, F.len_app, hA.len, T1.len, T3.len, T5.len, T6.len]
      have e5 : (((((a.app e1).app e2).app e3).app b).kds).head? = some 6 := by rw [F.kds_app, F.kds_app, F.kds_app, F.kds_app, ha6]; rfl
      simp [okN, h3, e4, e5]) (Nat.zero_le _) (app_ok (h2.app T5.row).ok T6.ok)⟩
  · exact ok_body ih R3 fun b l4 R6 T6 => .ok ⟨R6, .of rfl (by
      have h3 := exB_app h2 T6
      have e4 : ((((a.app e1).app e2).app b).kds).length = 4 := by rw [F.kds_len, F.len_app, F.len_app, F.len_app, hA.len, T1.len, T3.len, T6.len]
      have e5 : ((((a.app e1).app e2).app b).kds).head? = some 6 := by rw [F.kds_app, F.kds_app, F.kds_app, ha6]; rfl
      simp [okN, h3, e4, e5]) (Nat.zero_le _) (app_ok h2.ok T6.ok)⟩
theorem ok_for {l : List Tok} (hl : Rtk l) : Wok (forP rec l) fun f m => Rtk m ∧ OSt f := by
  unfold forP
  refine .nam hl.tl (.inr rfl) fun m T _ h6 R2 => ?_
  split
  · exact ok_num ih R2.tl T h6
  · exact .bind (ih _ _ R2) fun ns l1 ⟨R3, T3⟩ => .need R3 fun R4 => .bind (ih _ _ R4) fun f l2 ⟨R5, T5⟩ => ok_body ih R5 fun b l3 R6 T6 => .ok ⟨R6, .of rfl (by
      have h0 := T3 T.row
      have h1 := T5 h0.1
      have h3 := exB_app h1.1 T6
      have e4 : ((f.app b).kds).length = f.len + 1 := by rw [F.kds_len, F.len_app, T6.len]
      have h4 := h1.2
      simp [okN, h3, e4]
      omega) (Nat.zero_le _) (app_ok (T5 (T3 T.row).1).1.ok T6.ok)⟩
theorem ok_loc {l : List Tok} (hl : Rtk l) : Wok (locP rec l) fun f m => Rtk m ∧ OSt f := by
  unfold locP
  refine .nam hl.tl (.inr rfl) fun m T _ _ R2 => .bind (ih _ _ R2) fun ns l1 ⟨R3, T3⟩ => ?_
  have h0 := T3 T.row
  have e0 := T.len
  have h5 := h0.2
  split
  · exact .bind (ih _ _ R3.tl) fun f l2 ⟨R5, T5⟩ => .ok ⟨R5, .of rfl (by
      have h1 := T5 h0.1
      have h6 := h1.2
      have h7 := h1.1.al
      have e4 := f.kds_len
      simp [okN, e4] at h7 ⊢
      exact ⟨by omega, h7⟩) (Nat.zero_le _) (T5 h0.1).1.ok⟩
  · exact .ok ⟨R3, .of rfl (by
      have h7 := h0.1.al
      have e4 := ns.kds_len
      simp [okN, e4] at h7 ⊢
      exact ⟨by omega, h7⟩) (Nat.zero_le _) h0.1.ok⟩
theorem ok_asg {l : List Tok} (hl : Rtk l) : Wok (asgP rec l) fun f m => Rtk m ∧ OSt f := by
  unfold asgP
  refine .bind (ih _ _ hl) fun f l1 ⟨R1, T1⟩ => ?_
  split
  · exact .tgt (.bind (ih _ _ R1) fun ts l2 ⟨R2, T2⟩ => .need R2 fun R3 => .bind (ih _ _ R3) fun g l3 ⟨R4, T4⟩ => .ok ⟨R4, .of rfl (by
      have h0 := T2 (OEx.row T1)
      have h1 := T4 h0.1
      have e0 := OEx.len T1
      have h5 := h0.2
      have h6 := h1.2
      have h7 := h1.1.al
      have e4 := g.kds_len
      simp [okN, e4] at h7 ⊢
      exact ⟨by omega, h7⟩) (Nat.zero_le _) (T4 (T2 (OEx.row T1)).1).1.ok⟩)
  · split
    · exact .ok ⟨R1, .of rfl (by
        have T1 : OEx f := T1
        have h7 := T1.row.al
        have e4 := f.kds_len
        have e5 := T1.len
        simp [okN, e4, e5] at h7 ⊢
        exact h7) (Nat.zero_le _) (OEx.ok T1)⟩
    · exact trivial
theorem ok_arg {a : F} {l : List Tok} (hl : Rtk l) (hA : REx a) : Wok (argP rec a l) fun f m => Rtk m ∧ REx f ∧ a.len ≤ f.len := by
  unfold argP
  split
  · exact .ok ⟨hl.tl, hA, Nat.le_refl _⟩
  · exact .bind (ih _ _ hl) fun f l1 ⟨R1, T1⟩ => .need R1 fun R2 => .ok ⟨R2, T1 hA⟩
theorem ok_stem {l : List Tok} (hl : Rtk l) : Wok (stemP rec l) fun f m => Rtk m ∧ OEx f := by
  unfold stemP
  split
  · exact .bind (ih _ _ hl.tl) fun e l1 ⟨R1, T1⟩ => .need R1 fun R2 => .ok ⟨R2, .of rfl (by
      have T1 : OEx e := T1
      have h7 := T1.row.al
      have e4 := e.kds_len
      have e5 := T1.len
      simp [okN, e4, e5] at h7 ⊢
      exact h7) (Nat.zero_le _) (OEx.ok T1)⟩
  · exact .nam hl (.inr rfl) fun f T _ _ R2 => .ok ⟨R2, T⟩
theorem ok_step (j : J) (l : List Tok) (hl : Rtk l) : Wok (stp' rec j l) fun f m => Rtk m ∧ Okj j f := by
  cases j with
  | blk c => exact .bind (ih _ _ hl) fun f l1 ⟨R1, T1⟩ => .ok ⟨R1, rfl, okT_mk (by have := (T1 .nil).al; simpa [okN] using this) (Nat.zero_le _) (T1 .nil).ok⟩
  | bk c a =>
    simp only [stp']
    split
    · exact ih _ _ hl.tl
    · split
      · exact .bind (ok_last ih hl) fun f m ⟨R1, T1⟩ => .ok ⟨R1, fun hA => hA.app T1⟩
      · split
        · exact .bind (ok_fun ih hl) fun f m ⟨R1, T1⟩ => .mono (ih _ _ R1) fun g m' ⟨R2, T2⟩ => ⟨R2, fun hA => T2 (hA.app T1)⟩
        · split
          · exact .ok ⟨hl, id⟩
          · exact .bind (ih _ _ hl) fun f m ⟨R1, T1⟩ => .mono (ih _ _ R1) fun g m' ⟨R2, T2⟩ => ⟨R2, fun hA => T2 (hA.app T1)⟩
  | stat =>
    simp only [stp']
    split
    · exact ok_body ih hl fun b m R1 T1 => .ok ⟨R1, .of rfl (by
        have := exB_app REx.nil T1
        have e4 := b.kds_len
        have e5 := T1.len
        simp only [F.app] at this
        simp [okN, this, e4, e5]) (Nat.zero_le _) T1.ok⟩
    · split
      · exact .bind (ih _ _ hl.tl) fun e l1 ⟨R1, T1⟩ => ok_body ih R1 fun b m R2 T2 => .ok ⟨R2, .of rfl (by
          have := exB_app (OEx.row T1) T2
          have e4 : ((e.app b).kds).length = 2 := by rw [F.kds_len, F.len_app, OEx.len T1, T2.len]
          simp [okN, this, e4]) (Nat.zero_le _) (app_ok (OEx.ok T1) T2.ok)⟩
      · split
        · exact .bind (ih _ _ hl.tl) fun f l1 ⟨R1, T1⟩ => .ok ⟨R1, .of rfl (by
            have := (T1 ⟨rfl, rfl, rfl⟩).2
            simpa [okN] using this) (Nat.zero_le _) (T1 ⟨rfl, rfl, rfl⟩).1⟩
        · split
          · exact ok_for ih hl
          · split
            · exact ok_loc ih hl
            · split
              · exact .ok ⟨hl.tl, .of rfl rfl (Nat.zero_le _) rfl⟩
              · exact ok_asg ih hl
  | lst a =>
    refine .bind (ih _ _ hl) fun f m ⟨R1, T1⟩ => ?_
    have T1 : OEx f := T1
    have e := F.len_app a f
    split
    · exact .mono (ih _ _ R1.tl) fun g m' ⟨R2, T2⟩ => ⟨R2, fun hA => ⟨(T2 (hA.app T1.row)).1, by have := (T2 (hA.app T1.row)).2; omega⟩⟩
    · exact .ok ⟨R1, fun hA => ⟨hA.app T1.row, by omega⟩⟩
  | nms a =>
    simp only [stp']
    split
    · exact .nam hl.tl (.inr rfl) fun f T1 _ _ R1 => .mono (ih _ _ R1) fun g m' ⟨R2, T2⟩ => ⟨R2, fun hA => ⟨(T2 (hA.app T1.row)).1, by have := (T2 (hA.app T1.row)).2; have := F.len_app a f; omega⟩⟩
    · exact .ok ⟨hl, fun hA => ⟨hA, Nat.le_refl _⟩⟩
  | ifs a =>
    by_cases hA : RIf a
    · refine .bind (ok_br ih hl hA) fun f m ⟨R1, T1⟩ => ?_
      split
      · exact .mono (ih _ _ R1.tl) fun g m' ⟨R2, T2⟩ => ⟨R2, fun _ => T2 T1⟩
      · split
        · exact .bind (ih _ _ R1.tl) fun b l2 ⟨R2, T2⟩ => .need R2 fun R3 => .ok ⟨R3, fun _ => ⟨app_ok T1.ok (OBk.ok T2), T1.els T2⟩⟩
        · exact .need R1 fun R3 => .ok ⟨R3, fun _ => ⟨T1.ok, T1.al⟩⟩
    · have key : Wok (stp' rec (.ifs a) l) fun _ m => Rtk m := by
        simp only [stp', brP]
        refine .bind (.bind (ih _ _ hl) fun e l1 ⟨R1, T1⟩ => .need R1 fun R2 => .bind (ih _ _ R2) fun b l2 ⟨R3, T3⟩ => .ok (R := fun _ m => Rtk m) R3) fun f m R1 => ?_
        split
        · exact .mono (ih _ _ (Rtk.tl R1)) fun g m' h => h.1
        · split
          · exact .bind (ih _ _ (Rtk.tl R1)) fun b l2 ⟨R2, T2⟩ => .need R2 fun R3 => .ok R3
          · exact .need R1 fun R3 => .ok R3
      exact .mono key fun f m h => ⟨h, fun hx => absurd hx hA⟩
  | asg a =>
    simp only [stp']
    split
    · exact .bind (ih _ _ hl.tl) fun f m ⟨R1, T1⟩ => .tgt (.mono (ih _ _ R1) fun g m' ⟨R2, T2⟩ => ⟨R2, fun hA => ⟨(T2 (hA.app (OEx.row T1))).1, by have := (T2 (hA.app (OEx.row T1))).2; have := F.len_app a f; omega⟩⟩)
    · exact .ok ⟨hl, fun hA => ⟨hA, Nat.le_refl _⟩⟩
  | ex a => exact .bind (ih _ _ hl) fun f m ⟨R1, T1⟩ => .mono (ih _ _ R1) fun g m' ⟨R2, T2⟩ => ⟨R2, T2 T1⟩
  | exl a f =>
    simp only [stp']
    split
    · exact .bind (ih _ _ hl.tl) fun g l1 ⟨R1, T1⟩ => .mono (ih _ _ R1) fun x m' ⟨R2, T2⟩ => ⟨R2, fun hf => T2 (two_ex (.inr (.inl rfl)) hf T1 hl.ht)⟩
    · exact .ok ⟨hl, id⟩
  | opd =>
    simp only [stp']
    split
    · exact ih _ _ hl
    · split
      · unfold tabP
        exact .bind (ih _ _ hl.tl) fun f l1 ⟨R1, T1⟩ => .need R1 fun R2 => .ok ⟨R2, .of rfl (by have := (T1 .nil).al; simpa [okN] using this) (Nat.zero_le _) (T1 .nil).ok⟩
      · split
        · exact .bind (ih _ _ hl.tl) fun f l1 ⟨R1, T1⟩ => .ok ⟨R1, .of rfl (by
            have T1 : OEx f := T1
            have h7 := T1.row.al
            have e4 := f.kds_len
            have e5 := T1.len
            simp [okN, e4, e5] at h7 ⊢
            exact h7) hl.ht (OEx.ok T1)⟩
        · split
          · exact .ok ⟨hl.tl, .of rfl (by have := hl.hv; simp [okN]; omega) (Nat.zero_le _) rfl⟩
          · split
            · exact .ok ⟨hl.tl, .of rfl rfl hl.ht rfl⟩
            · split
              · exact .ok ⟨hl.tl, .of rfl rfl (Nat.zero_le _) rfl⟩
              · split
                · exact .ok ⟨hl.tl, .of rfl rfl (Nat.zero_le _) rfl⟩
                · split
                  · exact .ok ⟨hl.tl, .of rfl rfl (Nat.zero_le _) rfl⟩
                  · exact trivial
  | suf => exact .bind (ok_stem ih hl) fun f m ⟨R1, T1⟩ => .mono (ih _ _ R1) fun g m' ⟨R2, T2⟩ => ⟨R2, T2 T1⟩
  | sufl f =>
    simp only [stp']
    split
    · exact .bind (ih _ _ hl.tl) fun k l1 ⟨R1, T1⟩ => .need R1 fun R2 => .mono (ih _ _ R2) fun g m' ⟨R3, T3⟩ => ⟨R3, fun hf => T3 (two_ex (.inl rfl) hf T1 (Nat.zero_le _))⟩
    · split
      · exact .nam hl.tl (.inl rfl) fun k T1 _ _ R2 => .mono (ih _ _ R2) fun g m' ⟨R3, T3⟩ => ⟨R3, fun hf => T3 (two_ex (.inl rfl) hf T1 (Nat.zero_le _))⟩
      · split
        · by_cases hf : OEx f
          · exact .bind (ok_arg ih hl.tl hf.row) fun g l1 ⟨R1, T1, h1⟩ => .mono (ih _ _ R1) fun x m' ⟨R2, T2⟩ => ⟨R2, fun _ => T2 (.of rfl (by
              have h7 := T1.al
              have e4 := g.kds_len
              have e5 := hf.len
              simp [okN, e4] at h7 ⊢
              exact ⟨by omega, h7⟩) (Nat.zero_le _) T1.ok)⟩
          · refine .bind (Q := fun _ m => Rtk m) ?_ fun g l1 R1 => .mono (ih _ _ R1) fun x m' ⟨R2, _⟩ => ⟨R2, fun hx => absurd hx hf⟩
            unfold argP
            split
            · exact .ok hl.tl.tl
            · exact .bind (ih _ _ hl.tl) fun f l1 ⟨R1, T1⟩ => .need R1 fun R2 => .ok R2
        · exact .ok ⟨hl, id⟩
  | tab a =>
    simp only [stp']
    split
    · exact .ok ⟨hl, id⟩
    · refine .bind (ih _ _ hl) fun f m ⟨R1, T1⟩ => ?_
      have T1 : OEx f := T1
      split
      · exact .mono (ih _ _ R1.tl) fun g m' ⟨R2, T2⟩ => ⟨R2, fun hA => T2 (hA.app T1.row)⟩
      · exact .ok ⟨R1, fun hA => hA.app T1.row⟩
  | fld =>
    simp only [stp']
    split
    · exact .bind (ih _ _ hl.tl) fun k l1 ⟨R1, T1⟩ => .need R1 fun R2 => .need R2 fun R3 => .bind (ih _ _ R3) fun v l2 ⟨R4, T4⟩ => .ok ⟨R4, two_ex (.inr (.inr rfl)) T1 T4 (Nat.zero_le _)⟩
    · split
      · exact .bind (ih _ _ hl.tl.tl) fun v l2 ⟨R4, T4⟩ => .ok ⟨R4, two_ex (.inr (.inr rfl)) (.of rfl rfl hl.ht rfl) T4 (Nat.zero_le _)⟩
      · exact .bind (ih _ _ hl) fun v l2 ⟨R4, T4⟩ => .ok ⟨R4, .of rfl (by
          have T4 : OEx v := T4
          have h7 := T4.row.al
          have e4 := v.kds_len
          have e5 := T4.len
          simp [okN, e4, e5] at h7 ⊢
          exact h7) (Nat.zero_le _) (OEx.ok T4)⟩
end
theorem ok_all : ∀ (n : Nat) (j : J) (l : List Tok), Rtk l → Wok (pr n j l) fun f m => Rtk m ∧ Okj j f
  | 0, _, _, _ => trivial
  | n + 1, j, l, hl => ok_step (ok_all n) j l hl
end Go.Proofs.YtmejlldabdjpjaaGreat

/- The tokens' texts are short, their numbers small. -/
namespace Go.Proofs.YtmejlldabdjpjaaGreat

theorem qt_len (q : UInt8) : ∀ (m : Nat) (l : List UInt8) (i : Nat) (acc : List UInt8), l.length ≤ m → ∀ v n, qt q l i acc = .ok v n → v.length ≤ 10000 := by
  intro m
  induction m with
  | zero =>
    intro l i acc hl v n h
    have : l = [] := List.length_eq_zero_iff.1 (by omega)
    subst this
    rw [qt] at h
    cases h
  | succ m ih =>
    intro l i acc hl v n h
    cases l with
    | nil => rw [qt] at h; cases h
    | cons c t =>
      have hu : ∀ n, (t.drop n).length ≤ m := fun n => by simp at hl ⊢; omega
      rw [qt] at h
      split at h
      · cases h
      split at h
      · split at h
        · cases h
        · injection h with h1 h2
          rw [← h1]
          omega
      split at h
      · split at h
        · cases h
        split at h
        · cases h
        exact ih _ _ _ (hu _) v n h
      · exact ih _ _ _ (by simp at hl; exact hl) v n h
theorem parN_in (l : List UInt8) : -9223372036854775808 ≤ W.parN l ∧ W.parN l ≤ 9223372036854775807 := by
  unfold W.parN
  generalize W.numN l 9223372036854775807 = x
  unfold Go.RowKit.wrap64
  omega
theorem stp_rtk (l : List UInt8) (hl : l.length ≤ 20000) (k : Int) (t : List UInt8) (v : Int) (n : Nat) (h : stp l = .tok k t v n) : t.length ≤ 20000 ∧ -9223372036854775808 ≤ v ∧ v ≤ 9223372036854775807 := by
  have hT : ∀ m, (l.take m).length ≤ 20000 := fun m => by rw [List.length_take]; omega
  unfold stp at h
  split at h
  · cases h
  split at h
  · cases h
  split at h
  · split at h
    · cases h
    · injection h with h1 h2 h3 h4
      subst h2 h3
      exact ⟨hT _, by decide, by decide⟩
  split at h
  · split at h
    · cases h
    · injection h with h1 h2 h3 h4
      subst h2 h3
      exact ⟨hT _, parN_in _⟩
  split at h
  · split at h
    · next v' n' hq =>
      injection h with h1 h2 h3 h4
      subst h2 h3
      exact ⟨by have := qt_len _ _ _ _ _ (Nat.le_refl _) _ _ hq; omega, by decide, by decide⟩
    · cases h
  split at h
  · cases h
  · injection h with h1 h2 h3 h4
    subst h2 h3
    exact ⟨hT _, by decide, by decide⟩
theorem scn_rtk : ∀ (m : Nat) (l : List UInt8) (p : Nat) (acc ts : List Tok), l.length ≤ m → m ≤ 20000 → Rtk acc → scn l p acc = .ok ts → Rtk ts := by
  intro m
  induction m with
  | zero =>
    intro l p acc ts hl _ ha h
    have : l = [] := List.length_eq_zero_iff.1 (by omega)
    subst this
    rw [scn] at h
    injection h with h
    subst h
    intro x hx
    rcases List.mem_append.1 hx with hx | hx
    · exact ha x hx
    · have := List.mem_singleton.1 hx; subst this; exact ⟨Nat.zero_le _, by show (-9223372036854775808 : Int) ≤ 0; decide, by show (0 : Int) ≤ 9223372036854775807; decide⟩
  | succ m ih =>
    intro l p acc ts hl hm ha h
    cases l with
    | nil =>
      rw [scn] at h
      injection h with h
      subst h
      intro x hx
      rcases List.mem_append.1 hx with hx | hx
      · exact ha x hx
      · have := List.mem_singleton.1 hx; subst this; exact ⟨Nat.zero_le _, by show (-9223372036854775808 : Int) ≤ 0; decide, by show (0 : Int) ≤ 9223372036854775807; decide⟩
    | cons c u =>
      have hu : ∀ n, (u.drop n).length ≤ m := fun n => by simp at hl ⊢; omega
      rw [scn] at h
      split at h
      · exact ih _ _ _ _ (hu _) (by omega) ha h
      · next k t v n hs =>
        refine ih _ _ _ _ (hu _) (by omega) (fun x hx => ?_) h
        rcases List.mem_append.1 hx with hx | hx
        · exact ha x hx
        · have := List.mem_singleton.1 hx; subst this; exact stp_rtk _ (by omega) _ _ _ _ hs
      · cases h
theorem scT_rtk (l : List UInt8) : Rtk (scT l).1 := by
  unfold scT
  split
  · intro x hx; cases hx
  · next hb =>
    split
    · next ts h => exact scn_rtk _ _ _ _ _ (Nat.le_refl _) (by omega) (fun x hx => by cases hx) h
    · intro x hx; cases hx
end Go.Proofs.YtmejlldabdjpjaaGreat

/- What Parse tells is a block of the right form. -/
namespace Go.Proofs.YtmejlldabdjpjaaGreat

theorem chk_okT {l : List Tok} (hl : Rtk l) : Wok (chk l) fun f _ => ∃ p ks, f = one 20 [] 0 p ks ∧ (one 20 [] 0 p ks).okT = true := by
  have e : 8 * l.length + 4 = (8 * l.length + 3) + 1 := rfl
  unfold chk
  rw [e, pr_succ]
  refine .bind (Q := fun f m => Rtk m ∧ ∃ p ks, f = one 20 [] 0 p ks ∧ (one 20 [] 0 p ks).okT = true) ?_ fun f m ⟨R1, h1⟩ => ?_
  · exact .bind (ok_all _ _ _ hl) fun f m ⟨R1, T1⟩ => .ok ⟨R1, _, f, rfl, okT_mk (by have := (T1 .nil).al; simpa [okN] using this) (Nat.zero_le _) (T1 .nil).ok⟩
  · split
    · exact h1
    · exact trivial
theorem prT_okT (l : List UInt8) (h : (prT l).2.1 = 0) : ∃ p ks, (prT l).1 = one 20 [] 0 p ks ∧ (one 20 [] 0 p ks).okT = true := by
  unfold prT at h ⊢
  by_cases hc : (scT l).2.1 = 0
  · have hcc : ¬ (scT l).2.1 ≠ 0 := fun x => x hc
    rw [if_neg hcc] at h ⊢
    have hw := chk_okT (scT_rtk l)
    have hno := chk_some (scT l).1
    cases hk : chk (scT l).1 with
    | out => exact absurd hk hno
    | bad p => rw [hk] at h; exact absurd h (by decide : ¬ (4 : Int) = 0)
    | ok f m =>
      rw [hk] at hw
      obtain ⟨p, ks, h1, h2⟩ := hw
      exact ⟨p, ks, h1, h2⟩
  · rw [if_pos hc] at h
    exact absurd h hc
end Go.Proofs.YtmejlldabdjpjaaGreat

/- How great a tree is: at most three times its tokens (no program in it). -/
namespace Go.Proofs.YtmejlldabdjpjaaGreat

theorem F.siz_app : ∀ f g : F, (f.app g).siz = f.siz + g.siz
  | .nil, g => by simp [F.app, F.siz]
  | .cons k t n p ks r, g => by simp only [F.app, F.siz, F.siz_app r g]; omega
theorem siz_one (k : Int) (t : List UInt8) (n p : Int) (ks : F) : (one k t n p ks).siz = ks.siz + 1 := by simp only [one, F.siz]
/-- Where trees are told: what holds of them and of the tokens left. -/
def Gz (R : F → List Tok → Prop) (x : PR) : Prop := ∀ f m, x = .ok f m → R f m
theorem Gz.ok {R : F → List Tok → Prop} {f : F} {m : List Tok} (h : R f m) : Gz R (.ok f m) := fun f' m' e => by injection e with e1 e2; rw [← e1, ← e2]; exact h
theorem Gz.bad {R : F → List Tok → Prop} (p : Int) : Gz R (.bad p) := fun f m h => by cases h
theorem Gz.mono {Q R : F → List Tok → Prop} {x : PR} (h : Gz Q x) (hk : ∀ f m, Q f m → R f m) : Gz R x := fun f m e => hk f m (h f m e)
theorem Gz.bind {Q R : F → List Tok → Prop} {x : PR} {k : F → List Tok → PR} (h : Gz Q x) (hk : ∀ f m, Q f m → Gz R (k f m)) : Gz R (x.bind k) := by
  cases x with
  | ok f m => exact hk f m (h f m rfl)
  | bad p => exact .bad p
  | out => exact fun f m h => by cases h
theorem Gz.need {R : F → List Tok → Prop} {c : Nat} {l : List Tok} {k : List Tok → PR} (hc' : c ≠ 56) (h : l.tail.length + 1 = l.length → Gz R (k l.tail)) : Gz R (need c l k) := by
  unfold Go.Proofs.YtmejlldabdjpjaaGreat.need
  split
  · next e => exact h (tail_len (by rw [e]; exact hc'))
  · exact .bad _
theorem Gz.nam {R : F → List Tok → Prop} {q : Int} {l : List Tok} {k : F → List Tok → PR} (h : ∀ f, f.siz = 1 → l.tail.length + 1 = l.length → Gz R (k f l.tail)) : Gz R (nam q l k) := by
  unfold Go.Proofs.YtmejlldabdjpjaaGreat.nam
  split
  · next e => exact h _ rfl (tail_len (by rw [e]; decide))
  · exact .bad _
theorem Gz.tgt {R : F → List Tok → Prop} {f : F} {x : PR} (h : Gz R x) : Gz R (tgt f x) := by
  unfold Go.Proofs.YtmejlldabdjpjaaGreat.tgt; split
  · exact h
  · exact .bad _
theorem Gz.cnd {R : F → List Tok → Prop} {c : Prop} {i : Decidable c} {a b : PR} (h1 : c → Gz R a) (h2 : ¬ c → Gz R b) : Gz R (@ite _ c i a b) := by
  split
  · next h => exact h1 h
  · next h => exact h2 h
@[reducible] def Zs (j : J) (l : List Tok) (f : F) (m : List Tok) : Prop :=
  match j with
  | .blk _ => f.siz + 3 * m.length ≤ 3 * l.length + 1
  | .bk _ a => f.siz + 3 * m.length ≤ a.siz + 3 * l.length
  | .stat => f.siz + 3 * m.length + 1 ≤ 3 * l.length
  | .lst a => f.siz + 3 * m.length + 2 ≤ a.siz + 3 * l.length
  | .nms a => f.siz + 3 * m.length ≤ a.siz + 3 * l.length
  | .ifs a => f.siz + 3 * m.length + 2 ≤ a.siz + 3 * l.length
  | .asg a => f.siz + 3 * m.length ≤ a.siz + 3 * l.length
  | .ex _ => f.siz + 3 * m.length + 2 ≤ 3 * l.length
  | .exl _ g => f.siz + 3 * m.length ≤ g.siz + 3 * l.length
  | .opd => f.siz + 3 * m.length + 2 ≤ 3 * l.length
  | .suf => f.siz + 3 * m.length + 2 ≤ 3 * l.length
  | .sufl g => f.siz + 3 * m.length ≤ g.siz + 3 * l.length
  | .tab a => f.siz + 3 * m.length ≤ a.siz + 3 * l.length
  | .fld => f.siz + 3 * m.length + 1 ≤ 3 * l.length
section
variable {rec : J → List Tok → PR} (ih : ∀ j l, Gz (Zs j l) (rec j l))
include ih
theorem gz_body {R : F → List Tok → Prop} {l : List Tok} {k : F → List Tok → PR} (h : ∀ f m, f.siz + 3 * m.length + 5 ≤ 3 * l.length → Gz R (k f m)) : Gz R (bodyP rec l k) :=
  .need (by decide) fun e => .bind (ih (.blk false) _) fun f m h1 => .need (by decide) fun e2 => h f _ (by simp only [Zs] at h1; omega)
theorem gz_step (j : J) (l : List Tok) : Gz (Zs j l) (stp' rec j l) := by
  have tl : ∀ c, hc l = c → c ≠ 56 → l.tail.length + 1 = l.length := fun c h h2 => tail_len (by rw [h]; exact h2)
  cases j with
  | blk c => exact .bind (ih (.bk c .nil) l) fun f m h => .ok (by simp only [Zs, siz_one, F.siz] at h ⊢; omega)
  | bk c a =>
    refine .cnd (fun h => (ih (.bk c a) _).mono fun f m h1 => by have := tl _ h (by decide); simp only [Zs] at h1 ⊢; omega) fun _ => .cnd (fun h => ?_) fun _ => .cnd (fun h => ?_) fun _ => .cnd (fun _ => .ok (by simp only [Zs]; omega)) fun _ => .bind (ih .stat l) fun f m h1 => (ih (.bk c _) m).mono fun g m2 h2 => by simp only [Zs, F.siz_app] at h1 h2 ⊢; omega
    · have := tl _ h (by decide)
      refine .bind (Q := fun f m => f.siz + 3 * m.length ≤ 3 * l.length) ?_ fun f m h1 => .ok (by simp only [Zs, F.siz_app]; omega)
      refine .cnd (fun h2 => .ok ?_) fun _ => .cnd (fun _ => .ok (by simp only [siz_one, F.siz]; omega)) fun _ => .bind (ih (.lst .nil) _) fun f m h2 => .ok ?_
      · have : l.tail.tail.length ≤ l.tail.length := by simp
        simp only [siz_one, F.siz]; omega
      · simp only [Zs, F.siz] at h2
        have : (if hc m = 1 then m.tail else m).length ≤ m.length := by split <;> simp
        simp only [siz_one]; omega
    · have := tl _ h.2 (by decide)
      refine .bind (Q := fun f m => f.siz + 3 * m.length ≤ 3 * l.length) ?_ fun f m h1 => (ih (.bk c _) m).mono fun g m2 h2 => by simp only [Zs, F.siz_app] at h2 ⊢; omega
      refine .nam fun f hf e1 => .need (by decide) fun e2 => .bind (Q := fun ps m => ps.siz + 3 * m.length ≤ 3 * l.tail.tail.tail.length) (.cnd (fun _ => .ok (by simp only [F.siz]; omega)) fun _ => .nam fun g hg e3 => (ih (.nms g) _).mono fun ps m h3 => by simp only [Zs] at h3; omega) fun ps m h3 => .need (by decide) fun e4 => .bind (ih (.blk false) _) fun b m2 h4 => .need (by decide) fun e5 => .ok (by simp only [Zs] at h4; simp only [siz_one, F.siz_app]; omega)
  | stat =>
    refine .cnd (fun h => gz_body ih fun f m h1 => .ok (by simp only [Zs, siz_one]; omega)) fun _ => .cnd (fun h => ?_) fun _ => .cnd (fun h => ?_) fun _ => .cnd (fun h => ?_) fun _ => .cnd (fun h => ?_) fun _ => .cnd (fun h => .ok (by have := tl _ h (by decide); simp only [Zs, siz_one, F.siz]; omega)) fun _ => ?_
    · have := tl _ h (by decide)
      exact .bind (ih (.ex 0) _) fun f m h1 => gz_body ih fun b m2 h2 => .ok (by simp only [Zs, siz_one, F.siz_app] at h1 ⊢; omega)
    · have := tl _ h (by decide)
      exact .bind (ih (.ifs .nil) _) fun f m h1 => .ok (by simp only [Zs, siz_one, F.siz] at h1 ⊢; omega)
    · have := tl _ h (by decide)
      refine .nam fun f hf e1 => .cnd (fun h2 => ?_) fun _ => .bind (ih (.nms f) _) fun ns m h2 => .need (by decide) fun e2 => .bind (ih (.lst ns) _) fun g m2 h3 => gz_body ih fun b m3 h4 => .ok (by simp only [Zs, siz_one, F.siz_app] at h2 h3 ⊢; omega)
      have := tail_len (l := l.tail.tail) (by rw [h2]; decide)
      exact .bind (ih (.ex 0) _) fun a1 m h3 => .need (by decide) fun e2 => .bind (ih (.ex 0) _) fun a2 m2 h4 => .cnd (fun h5 => .bind (ih (.ex 0) _) fun a3 m3 h6 => gz_body ih fun b m4 h7 => .ok (by have := tail_len (l := m2) (by rw [h5]; decide); simp only [Zs, siz_one, F.siz_app] at h3 h4 h6 ⊢; omega)) fun _ => gz_body ih fun b m4 h7 => .ok (by simp only [Zs, siz_one, F.siz_app] at h3 h4 ⊢; omega)
    · have := tl _ h (by decide)
      exact .nam fun f hf e1 => .bind (ih (.nms f) _) fun ns m h2 => .cnd (fun h5 => .bind (ih (.lst ns) _) fun g m2 h3 => .ok (by have := tail_len (l := m) (by rw [h5]; decide); simp only [Zs, siz_one] at h2 h3 ⊢; omega)) fun _ => .ok (by simp only [Zs, siz_one] at h2 ⊢; omega)
    · exact .bind (ih .suf l) fun f m h1 => .cnd (fun _ => .tgt (.bind (ih (.asg f) _) fun ts m2 h2 => .need (by decide) fun e2 => .bind (ih (.lst ts) _) fun g m3 h3 => .ok (by simp only [Zs, siz_one] at h1 h2 h3 ⊢; omega))) fun _ => .cnd (fun _ => .ok (by simp only [Zs, siz_one] at h1 ⊢; omega)) fun _ => .bad _
  | lst a => exact .bind (ih (.ex 0) l) fun f m h1 => .cnd (fun h => (ih (.lst _) _).mono fun g m2 h2 => by have := tail_len (l := m) (by rw [h]; decide); simp only [Zs, F.siz_app] at h1 h2 ⊢; omega) fun _ => .ok (by simp only [Zs, F.siz_app] at h1 ⊢; omega)
  | nms a => exact .cnd (fun h => .nam fun f hf e1 => (ih (.nms _) _).mono fun g m2 h2 => by have := tl _ h (by decide); simp only [Zs, F.siz_app] at h2 ⊢; omega) fun _ => .ok (by simp only [Zs]; omega)
  | ifs a => exact .bind (Q := fun f m => f.siz + 3 * m.length + 2 ≤ a.siz + 3 * l.length) (.bind (ih (.ex 0) l) fun f m h1 => .need (by decide) fun e1 => .bind (ih (.blk false) _) fun b m2 h2 => .ok (by simp only [Zs, F.siz_app] at h1 h2 ⊢; omega)) fun f m h1 => .cnd (fun h => (ih (.ifs f) _).mono fun g m2 h2 => by have := tail_len (l := m) (by rw [h]; decide); simp only [Zs] at h2 ⊢; omega) fun _ => .cnd (fun h => .bind (ih (.blk false) _) fun b m2 h2 => .need (by decide) fun e2 => .ok (by have := tail_len (l := m) (by rw [h]; decide); simp only [Zs, F.siz_app] at h2 ⊢; omega)) fun _ => .need (by decide) fun e2 => .ok (by simp only [Zs]; omega)
  | asg a => exact .cnd (fun h => .bind (ih .suf _) fun f m h1 => .tgt ((ih (.asg _) m).mono fun g m2 h2 => by have := tl _ h (by decide); simp only [Zs, F.siz_app] at h1 h2 ⊢; omega)) fun _ => .ok (by simp only [Zs]; omega)
  | ex a => exact .bind (ih .opd l) fun f m h1 => (ih (.exl a f) m).mono fun g m2 h2 => by simp only [Zs] at h1 h2 ⊢; omega
  | exl a g => exact .cnd (fun h => .bind (ih (.ex _) _) fun f m h1 => (ih (.exl a _) m).mono fun g2 m2 h2 => by have := tail_len (l := l) (by intro e; rw [e] at h; exact absurd h (Nat.not_lt_zero a)); simp only [Zs, siz_one, F.siz_app] at h1 h2 ⊢; omega) fun _ => .ok (by simp only [Zs]; omega)
  | opd => exact .cnd (fun _ => ih .suf l) fun _ => .cnd (fun h => .bind (ih (.tab .nil) _) fun f m h1 => .need (by decide) fun e1 => .ok (by have := tl _ h (by decide); simp only [Zs, siz_one, F.siz] at h1 ⊢; omega)) fun _ => .cnd (fun h => .bind (ih .opd _) fun f m h1 => .ok (by have : l.tail.length + 1 = l.length := by { rcases h with h | h | h <;> exact tl _ h (by decide) }; simp only [Zs, siz_one] at h1 ⊢; omega)) fun _ => .cnd (fun h => .ok (by have := tl _ h (by decide); simp only [Zs, siz_one, F.siz]; omega)) fun _ => .cnd (fun h => .ok (by have := tl _ h (by decide); simp only [Zs, siz_one, F.siz]; omega)) fun _ => .cnd (fun h => .ok (by have := tl _ h (by decide); simp only [Zs, siz_one, F.siz]; omega)) fun _ => .cnd (fun h => .ok (by have := tl _ h (by decide); simp only [Zs, siz_one, F.siz]; omega)) fun _ => .cnd (fun h => .ok (by have := tl _ h (by decide); simp only [Zs, siz_one, F.siz]; omega)) fun _ => .bad _
  | suf => exact .bind (Q := fun f m => f.siz + 3 * m.length + 2 ≤ 3 * l.length) (.cnd (fun h => .bind (ih (.ex 0) _) fun f m h1 => .need (by decide) fun e1 => .ok (by have := tl _ h (by decide); simp only [Zs, siz_one] at h1 ⊢; omega)) fun _ => .nam fun f hf e1 => .ok (by omega)) fun f m h1 => (ih (.sufl f) m).mono fun g m2 h2 => by simp only [Zs] at h2 ⊢; omega
  | sufl g => exact .cnd (fun h => .bind (ih (.ex 0) _) fun f m h1 => .need (by decide) fun e1 => (ih (.sufl _) _).mono fun g2 m2 h2 => by have := tl _ h (by decide); simp only [Zs, siz_one, F.siz_app] at h1 h2 ⊢; omega) fun _ => .cnd (fun h => .nam fun f hf e1 => (ih (.sufl _) _).mono fun g2 m2 h2 => by have := tl _ h (by decide); simp only [Zs, siz_one, F.siz_app] at h2 ⊢; omega) fun _ => .cnd (fun h => .bind (Q := fun f m => f.siz + 3 * m.length ≤ g.siz + 3 * l.tail.length) (.cnd (fun h2 => .ok (by have := tail_len (l := l.tail) (by rw [h2]; decide); omega)) fun _ => .bind (ih (.lst g) _) fun f m h1 => .need (by decide) fun e1 => .ok (by simp only [Zs] at h1 ⊢; omega)) fun f m h1 => (ih (.sufl _) m).mono fun g2 m2 h2 => by have := tl _ h (by decide); simp only [Zs, siz_one] at h2 ⊢; omega) fun _ => .ok (by simp only [Zs]; omega)
  | tab a => exact .cnd (fun _ => .ok (by simp only [Zs]; omega)) fun _ => .bind (ih .fld l) fun f m h1 => .cnd (fun h => (ih (.tab _) _).mono fun g m2 h2 => by have : m.tail.length ≤ m.length := by { simp }; simp only [Zs, F.siz_app] at h1 h2 ⊢; omega) fun _ => .ok (by simp only [Zs, F.siz_app] at h1 ⊢; omega)
  | fld => exact .cnd (fun h => .bind (ih (.ex 0) _) fun f m h1 => .need (by decide) fun e1 => .need (by decide) fun e2 => .bind (ih (.ex 0) _) fun v m2 h2 => .ok (by have := tl _ h (by decide); simp only [Zs, siz_one, F.siz_app] at h1 h2 ⊢; omega)) fun _ => .cnd (fun h => .bind (ih (.ex 0) _) fun v m h1 => .ok (by have := tl _ h.1 (by decide); have := tail_len (l := l.tail) (by rw [h.2]; decide); simp only [Zs, siz_one, F.siz_app, F.siz] at h1 ⊢; omega)) fun _ => .bind (ih (.ex 0) l) fun v m h1 => .ok (by simp only [Zs, siz_one] at h1 ⊢; omega)
end
theorem gz_all : ∀ (n : Nat) (j : J) (l : List Tok), Gz (Zs j l) (pr n j l)
  | 0, _, _ => fun f m h => by cases h
  | n + 1, j, l => gz_step (gz_all n) j l
/-- Trees of a text are not great. -/
theorem prT_siz (l : List UInt8) : (prT l).1.siz ≤ 60010 := by
  unfold prT
  split
  · show noF.siz ≤ 60010
    decide
  · next hc =>
    have hc := Classical.byContradiction hc
    have hG := (scT_ok l hc).1
    have hl := (scT_ok l hc).2.1
    have hlen := GT.len _ _ hG
    cases hk : chk (scT l).1 with
    | bad p => show noF.siz ≤ 60010; decide
    | out => show noF.siz ≤ 60010; decide
    | ok f m =>
      show f.siz ≤ 60010
      unfold chk at hk
      cases hx : pr (8 * (scT l).1.length + 4) (.blk true) (scT l).1 with
      | bad p => rw [hx] at hk; cases hk
      | out => rw [hx] at hk; cases hk
      | ok g m2 =>
        have := gz_all _ _ _ g m2 hx
        rw [hx] at hk
        simp only [PR.bind] at hk
        split at hk
        · injection hk with h1 h2
          rw [← h1]
          simp only [Zs] at this
          omega
        · cases hk
end Go.Proofs.YtmejlldabdjpjaaGreat

/- Where Parse tells no fault there is no place of one. -/
namespace Go.Proofs.YtmejlldabdjpjaaGreat
open Go.RowKit

theorem prT_zero (l : List UInt8) (f : F) (x : Int) (h : prT l = (f, 0, x)) : x = 0 := by
  unfold prT at h
  split at h
  · next hc =>
    injection h with _ h2
    injection h2 with h2 _
    exact absurd h2 hc
  · cases hk : chk (scT l).1 with
    | ok g m =>
      rw [hk] at h
      injection h with _ h2
      injection h2 with _ h3
      exact h3.symm
    | bad p =>
      rw [hk] at h
      injection h with _ h2
      injection h2 with h2 _
      exact absurd h2 (by decide)
    | out => exact absurd hk (chk_some _)
end Go.Proofs.YtmejlldabdjpjaaGreat

/- Check as a plain function of a text; the checker as it begins. -/
namespace Go.Proofs.YtmejlldabdjpjaaGreat
open Go.RowKit

def s0 (p : Int) : Cs := ⟨[⟨[], p, 0, 0, []⟩], [], 0, [], 0, [], 0, 0⟩
def outC (s : Cs) : (List Fn × List Tx) × Int × Int := if s.bad = true then (([], []), s.cd, s.ct) else ((s.fs, s.gl), 0, 0)
def chF : F → (List Fn × List Tx) × Int × Int
  | .nil => (([], []), 0, 0)
  | .cons k t n p ks _ => if 100 < ks.hgt + 1 then (([], []), 6, p) else outC (ck (ks.siz + 1) k t n p ks (s0 p))
/-- What Check tells of a text. -/
def chT (l : List UInt8) : (List Fn × List Tx) × Int × Int := if (prT l).2.1 = 0 then chF (prT l).1 else (([], []), (prT l).2.1, (prT l).2.2)

/-- A report in memory. -/
structure Rp (w : World) (vF vG : Value) (fs : List Fn) (gl : List Tx) : Prop where
  fr : ∃ vs, w.ownsRow 0 48 5 vF fs.length (fcl fs vs) ∧ vs.length = fs.length ∧ ∀ (i : Nat) (f : Fn) (v : Value), fs[i]? = some f → vs[i]? = some v → w.ownsRow 0 54 3 v f.cs.length (vcl f.cs)
  gr : w.ownsRow 0 9 1 vG gl.length (strs gl)
theorem Rp.nil (w : World) : Rp w (.slice none 0 0) (.slice none 0 0) [] [] := ⟨⟨[], World.ownsRow_nil _ _ _ _, rfl, fun i f v hf => by simp at hf⟩, World.ownsRow_nil _ _ _ _⟩
theorem Rp.below {w w' : World} {vF vG : Value} {fs : List Fn} {gl : List Tx} (h : Rp w vF vG fs gl) (k : Below w.heap.size w w') : Rp w' vF vG fs gl := by
  obtain ⟨vs, h1, h2, h3⟩ := h.fr
  exact ⟨⟨vs, own_keep h1 fun g hg => k.block g (h1.lt g hg).2, h2, fun i f v hf hv => own_keep (h3 i f v hf hv) fun g hg => k.block g ((h3 i f v hf hv).lt g hg).2⟩, own_keep h.gr fun g hg => k.block g (h.gr.lt g hg).2⟩
/-- The checker as it begins. -/
theorem CK.start (W : World) (p : Int) {W4 : World} (hW : ((W.alloc (.map #[] 0)).alloc (.cells #[.slice (some ⟨W.heap.size + 1 + 1, 0, none⟩) 1 1, .slice none 0 0, .map (some W.heap.size), .int .i64 0, .slice none 0 0, .int .i64 0, .slice none 0 0, .int .i64 0, .int .i64 0] 63)).alloc (.cells #[.string ⟨#[]⟩, .int .i64 p, .int .i64 0, .int .i64 0, .slice none 0 0] 48) = W4) :
    Ck (fun g => g < W.heap.size) (W.heap.size + 1) (s0 p) W4 ∧ Kn (fun g => g < W.heap.size) W W4 := by
  have e1 : (W.alloc (.map #[] 0)).heap.size = W.heap.size + 1 := by simp
  have X1 := Bx.new (W.alloc (.map #[] 0)) 63 #[.slice (some ⟨W.heap.size + 1 + 1, 0, none⟩) 1 1, .slice none 0 0, .map (some W.heap.size), .int .i64 0, .slice none 0 0, .int .i64 0, .slice none 0 0, .int .i64 0, .int .i64 0]
  rw [e1] at X1
  have hM : Ms (W.alloc (.map #[] 0)) W.heap.size [] := ⟨.map [], 0, World.ownsMap_made W Tryz.prog 9 unitElem, Nat.le_refl _, fun t => by simp [Maps.has]⟩
  have e2 : ((W.alloc (.map #[] 0)).alloc (.cells #[.slice (some ⟨W.heap.size + 1 + 1, 0, none⟩) 1 1, .slice none 0 0, .map (some W.heap.size), .int .i64 0, .slice none 0 0, .int .i64 0, .slice none 0 0, .int .i64 0, .int .i64 0] 63)).heap.size = W.heap.size + 1 + 1 := by simp
  obtain ⟨V2, hV2⟩ : ∃ V2, (W.alloc (.map #[] 0)).alloc (.cells #[.slice (some ⟨W.heap.size + 1 + 1, 0, none⟩) 1 1, .slice none 0 0, .map (some W.heap.size), .int .i64 0, .slice none 0 0, .int .i64 0, .slice none 0 0, .int .i64 0, .int .i64 0] 63) = V2 := ⟨_, rfl⟩
  have B2 : Below (W.heap.size + 1) (W.alloc (.map #[] 0)) V2 := by rw [← hV2, ← e1]; exact (Below.refl _ _).alloc (Nat.le_refl _) _
  have B0 : Below W.heap.size W (W.alloc (.map #[] 0)) := (Below.refl _ _).alloc (Nat.le_refl _) _
  rw [hV2] at X1 e2 hW
  have X3 := Bx.new V2 48 #[.string ⟨#[]⟩, .int .i64 p, .int .i64 0, .int .i64 0, .slice none 0 0]
  rw [e2] at X3
  have B3 : Below (W.heap.size + 1 + 1) V2 (V2.alloc (.cells #[.string ⟨#[]⟩, .int .i64 p, .int .i64 0, .int .i64 0, .slice none 0 0] 48)) := by rw [← e2]; exact (Below.refl _ _).alloc (Nat.le_refl _) _
  rw [hW] at X3 B3
  have X4 : Bx (W.heap.size + 1) 63 _ W4 := ⟨(B3.block _ (by omega)).trans X1.blk⟩
  have hM4 : Ms W4 W.heap.size [] := hM.keep ((B3.block _ (by omega)).trans (B2.block _ (by omega)))
  have hs3 := X3.lt
  clear hW
  refine ⟨⟨⟨.slice (some ⟨W.heap.size + 1 + 1, 0, none⟩) 1 1, .slice none 0 0, .slice none 0 0, .slice none 0 0, W.heap.size, [.slice none 0 0], fun g => if g = W.heap.size + 1 then 1 else if g = W.heap.size + 1 + 1 then 2 else if g = W.heap.size then 5 else 0⟩, X4, ?_, World.ownsRow_nil _ _ _ _, World.ownsRow_nil _ _ _ _, World.ownsRow_nil _ _ _ _, hM4, fun i f v hf hv => ?_, rfl, if_pos rfl, fun g hg => ?_, fun g hg => ?_, fun g hg => ?_, fun g hg => ?_, ?_, fun i v g hv hg => ?_, fun g hg => ⟨?_, ?_⟩, Nat.zero_lt_one⟩, ⟨?_, ?_, ?_, ?_, fun g hg hn => ?_⟩⟩
  · exact ⟨rfl, .inr ⟨W.heap.size + 1 + 1, 1, _, rfl, Nat.zero_le _, X3.blk, Nat.le_refl _, by decide, rfl, rfl⟩⟩
  · cases i with
    | zero => simp [s0] at hf hv; subst hf hv; exact World.ownsRow_nil _ _ _ _
    | succ i => simp [s0] at hf
  · have e : W.heap.size + 1 + 1 = g := by simpa [Value.ownBlock] using hg
    subst e
    simp
  · simp [Value.ownBlock] at hg
  · simp [Value.ownBlock] at hg
  · simp [Value.ownBlock] at hg
  · show (if W.heap.size = W.heap.size + 1 then 1 else if W.heap.size = W.heap.size + 1 + 1 then 2 else if W.heap.size = W.heap.size then 5 else 0) = 5
    rw [if_neg (by omega), if_neg (by omega), if_pos rfl]
  · cases i with
    | zero => simp at hv; subst hv; simp [Value.ownBlock] at hg
    | succ i => simp at hv
  · have : g < W.heap.size := hg
    omega
  · have : g < W.heap.size := hg
    show (if g = W.heap.size + 1 then 1 else if g = W.heap.size + 1 + 1 then 2 else if g = W.heap.size then 5 else 0) = 0
    rw [if_neg (by omega), if_neg (by omega), if_neg (by omega)]
  · exact (B3.os.trans B2.os).trans B0.os
  · exact (B3.tape.trans B2.tape).trans B0.tape
  · exact (B3.output.trans B2.output).trans B0.output
  · omega
  · exact (B3.block g (by omega)).trans ((B2.block g (by omega)).trans (B0.block g hg))
end Go.Proofs.YtmejlldabdjpjaaGreat
