/- A start that meets the listed tables: the heap that the program's own door leaves. -/
import Derived.Test.YtpmmploedkbeoaaGreatDoorRows
import Derived.WalkKit
import Derived.ProofKit
import Derived.LaidMore
import Derived.OpenShut
import Derived.Stop.Joined
import Derived.Stop.LaidErr
import Derived.Lib.LaidTab
import Derived.Lib.ItoaNum
import Derived.Test.YtpmmploedkbeoaaGreatDoorProg
import Derived.WalkSpells
import Derived.Below
import Derived.Laws.BitsAllLaws
import Derived.Tactics
import Derived.Tactics2
import Derived.LoopTactic
namespace Go.Proofs.YtpmmploedkbeoaaGreatDoor
open Go.ChangeShapes Go.WideShapes Go.ChangeAt Go.RowKit

theorem own : ownKnob Tryz.prog.godebug = none := by kernel_rfl
def laid3 : List (String × DataW Unit) := [("math/bits.deBruijn32tab", Rows.laid_math_bits_deBruijn32tab), ("math/bits.deBruijn64tab", Rows.laid_math_bits_deBruijn64tab), ("internal/strconv.uint64pow10", Rows.laid_internal_strconv_uint64pow10)]

/-- The door's own heap meets the list. -/
theorem door_met (os : Os) (args : Array Value) : laidMetH Tryz.prog laid3 ((World.doorLaid Tryz.prog 400 os).forCall (fun _ _ => 0) ⟨#[], args, []⟩).memory :=
  laidMetH_of_parts3 (fuel := 8) (laidMet_of_run' 8 (by kernel_rfl) (by kernel_rfl)) (by kernel_rfl) (by kernel_rfl)
end Go.Proofs.YtpmmploedkbeoaaGreatDoor


/- The pure part: chains as lists of nodes' numbers; what a search and a store come to; what stays true behind any stores. -/
namespace Go.Proofs.YtpmmploedkbeoaaGreatDoor

abbrev V := Int × Int × ByteArray
def nil : V := (0, 0, ⟨#[]⟩)
def upd {α : Type} (f : Nat → α) (m : Nat) (a : α) : Nat → α := fun i => if i = m then a else f i
theorem upd_at {α : Type} (f : Nat → α) (m : Nat) (a : α) : upd f m a m = a := by simp [upd]
theorem upd_ne {α : Type} (f : Nat → α) {m i : Nat} (a : α) (h : i ≠ m) : upd f m a i = f i := by simp [upd, h]

/-- A part: what each node holds, by main position the chain, the free pointer. -/
structure G where
  K : Nat → V
  X : Nat → V
  C : Nat → List Nat
  f : Nat

/-- What stays true. -/
structure Inv (z : Nat) (pl : V → Nat) (ok : V → Prop) (g : G) : Prop where
  key : ∀ i, i < z → g.K i = nil ∨ ok (g.K i)
  val : ∀ i, i < z → g.K i = nil → g.X i = nil
  cok : ∀ m, m < z → ∀ j, j ∈ g.C m → j < z ∧ g.K j ≠ nil ∧ pl (g.K j) = m
  nd : ∀ m, m < z → (g.C m).Nodup
  hd : ∀ m, m < z → g.C m = [] ∨ ∃ t, g.C m = m :: t
  inC : ∀ i, i < z → g.K i ≠ nil → i ∈ g.C (pl (g.K i))
  one : ∀ i j, i < z → j < z → g.K i ≠ nil → g.K i = g.K j → i = j
  fle : g.f ≤ z
  up : ∀ i, i < z → g.f ≤ i → g.K i ≠ nil

/-- The search. -/
def scan (K : Nat → V) (k : V) : List Nat → Nat → Option Nat × Nat
  | [], r => (none, r)
  | a :: c, r => if K a = k then (some a, r + 1) else scan K k c (r + 1)
def from_ (m : Nat) : List Nat → List Nat
  | [] => []
  | a :: c => if a = m then a :: c else from_ m c
def suf (pl : V → Nat) (g : G) (m : Nat) : List Nat := if g.K m = nil then [m] else from_ m (g.C (pl (g.K m)))
def find (pl : V → Nat) (g : G) (k : V) : Option Nat × Nat := scan g.K k (suf pl g (pl k)) 0

/-- The links. -/
def nx (i : Nat) : List Nat → Int
  | _ :: b :: _ => (b : Int) - i
  | _ => 0
def nxt (c : List Nat) (i : Nat) : Int := nx i (from_ i c)
def link (pl : V → Nat) (g : G) (i : Nat) : Int := if g.K i = nil then 0 else nxt (g.C (pl (g.K i))) i

/-- The free pointer's way. -/
def tf (K : Nat → V) : Nat → Option Nat
  | 0 => none
  | f + 1 => if K f = nil then some f else tf K f

def setX (g : G) (i : Nat) (v : V) : G := { g with X := upd g.X i v }
def ins0 (g : G) (m : Nat) (k v : V) : G := { g with K := upd g.K m k, X := upd g.X m v, C := upd g.C m [m] }
def ins1 (g : G) (m a : Nat) (k v : V) : G := { K := upd g.K a k, X := upd g.X a v, C := upd g.C m (m :: a :: (g.C m).tail), f := a }
def swp (m a : Nat) (j : Nat) : Nat := if j = m then a else j
def ins2 (g : G) (o m a : Nat) (k v : V) : G :=
  { K := upd (upd g.K a (g.K m)) m k, X := upd (upd g.X a (g.X m)) m v, C := upd (upd g.C o ((g.C o).map (swp m a))) m [m], f := a }

/-- The insertion of a key that no node holds: the part behind it, and whether there was room. -/
def ins (pl : V → Nat) (g : G) (k v : V) : G × Bool :=
  if g.K (pl k) = nil then (ins0 g (pl k) k v, true)
  else match tf g.K g.f with
    | none => ({ g with f := 0 }, false)
    | some a => if pl (g.K (pl k)) = pl k then (ins1 g (pl k) a k v, true) else (ins2 g (pl (g.K (pl k))) (pl k) a k v, true)

theorem from_split {m : Nat} {p q : List Nat} (h : m ∉ p) : from_ m (p ++ m :: q) = m :: q := by
  induction p with
  | nil => simp [from_]
  | cons a p ih =>
    simp only [List.mem_cons, not_or] at h
    simp only [List.cons_append, from_]
    rw [if_neg (fun e => h.1 e.symm), ih h.2]
theorem mem_split {m : Nat} {c : List Nat} (h : m ∈ c) : ∃ p q, c = p ++ m :: q ∧ m ∉ p := by
  induction c with
  | nil => cases h
  | cons a c ih =>
    by_cases e : a = m
    · exact ⟨[], c, by rw [e]; rfl, by simp⟩
    · rcases List.mem_cons.1 h with h | h
      · exact absurd h.symm e
      · obtain ⟨p, q, rfl, hp⟩ := ih h
        exact ⟨a :: p, q, rfl, by simp [hp]; exact fun x => e x.symm⟩
theorem nxt_split {i : Nat} {p q : List Nat} (h : i ∉ p) : nxt (p ++ i :: q) i = nx i (i :: q) := by rw [nxt, from_split h]

variable {z : Nat} {pl : V → Nat} {ok : V → Prop} {g : G}

/-- A chain's end piece, as the links lead along it. -/
def Lk (z : Nat) (_pl : V → Nat) (g : G) (l : List Nat) : Prop := (∃ m p, m < z ∧ g.C m = p ++ l) ∨ ∃ m, m < z ∧ g.K m = nil ∧ l = [m]

theorem Inv.lk_suf (h : Inv z pl ok g) (hpl : ∀ k, ok k → pl k < z) {m : Nat} (hm : m < z) : Lk z pl g (suf pl g m) ∧ ∃ c, suf pl g m = m :: c := by
  unfold suf
  by_cases e : g.K m = nil
  · rw [if_pos e]; exact ⟨.inr ⟨m, hm, e, rfl⟩, [], rfl⟩
  · rw [if_neg e]
    obtain ⟨p, q, hc, hp⟩ := mem_split (h.inC m hm e)
    rw [hc, from_split hp]
    have ho : pl (g.K m) < z := hpl _ ((h.key m hm).resolve_left e)
    exact ⟨.inl ⟨_, p, ho, hc⟩, q, rfl⟩
theorem Inv.lk_link (h : Inv z pl ok g) {i : Nat} {c : List Nat} (hl : Lk z pl g (i :: c)) : link pl g i = nx i (i :: c) := by
  rcases hl with ⟨m, p, hm, hc⟩ | ⟨m, hm, e, hc⟩
  · have hmem : i ∈ g.C m := by rw [hc]; simp
    obtain ⟨h1, h2, h3⟩ := h.cok m hm i hmem
    have hn := h.nd m hm
    rw [hc, List.nodup_append] at hn
    rw [link, if_neg h2, h3, hc, nxt_split (fun hp => hn.2.2 i hp i (by simp) rfl)]
  · obtain ⟨rfl, rfl⟩ : i = m ∧ c = [] := by simpa using hc
    rw [link, if_pos e]; rfl
theorem Inv.lk_lt (h : Inv z pl ok g) {i : Nat} {c : List Nat} (hl : Lk z pl g (i :: c)) : i < z := by
  rcases hl with ⟨m, p, hm, hc⟩ | ⟨m, hm, e, hc⟩
  · exact (h.cok m hm i (by rw [hc]; simp)).1
  · obtain ⟨rfl, rfl⟩ : i = m ∧ c = [] := by simpa using hc
    exact hm
theorem Inv.lk_tail (_ : Inv z pl ok g) {i b : Nat} {c : List Nat} (hl : Lk z pl g (i :: b :: c)) : Lk z pl g (b :: c) := by
  rcases hl with ⟨m, p, hm, hc⟩ | ⟨m, hm, e, hc⟩
  · exact .inl ⟨m, p ++ [i], hm, by rw [hc]; simp⟩
  · simp at hc
theorem Inv.lk_ne (h : Inv z pl ok g) {i b : Nat} {c : List Nat} (hl : Lk z pl g (i :: b :: c)) : i ≠ b := by
  rcases hl with ⟨m, p, hm, hc⟩ | ⟨m, hm, e, hc⟩
  · have hn := h.nd m hm
    rw [hc, List.nodup_append] at hn
    have := hn.2.1
    simp at this
    exact this.1.1
  · simp at hc

/-- A found node is one that holds the key; a key that is held is found. -/
theorem scan_some {K : Nat → V} {k : V} {l : List Nat} {r i n : Nat} (h : scan K k l r = (some i, n)) : K i = k ∧ i ∈ l ∧ r < n ∧ n ≤ r + l.length := by
  induction l generalizing r with
  | nil => simp [scan] at h
  | cons a l ih =>
    rw [scan] at h
    split at h
    · obtain ⟨rfl, rfl⟩ : a = i ∧ r + 1 = n := by simpa using h
      exact ⟨by assumption, by simp, by omega, by simp⟩
    · obtain ⟨h1, h2, h3, h4⟩ := ih h
      exact ⟨h1, by simp [h2], by omega, by simp; omega⟩
theorem scan_none {K : Nat → V} {k : V} {l : List Nat} {r n : Nat} (h : scan K k l r = (none, n)) : (∀ i, i ∈ l → K i ≠ k) ∧ n = r + l.length := by
  induction l generalizing r with
  | nil => simp [scan] at h; exact ⟨by simp, by simp [h]⟩
  | cons a l ih =>
    rw [scan] at h
    split at h
    · simp at h
    · obtain ⟨h1, h2⟩ := ih h
      exact ⟨fun i hi => by rcases List.mem_cons.1 hi with rfl | hi; assumption; exact h1 i hi, by simp; omega⟩
theorem scan_split {K : Nat → V} {k : V} {i : Nat} {p q : List Nat} (r : Nat) (hp : ∀ j, j ∈ p → K j ≠ k) (hi : K i = k) : scan K k (p ++ i :: q) r = (some i, r + p.length + 1) := by
  induction p generalizing r with
  | nil => simp [scan, hi]
  | cons a p ih =>
    simp only [List.cons_append, scan]
    rw [if_neg (hp a (by simp)), ih (r + 1) (fun j hj => hp j (by simp [hj]))]
    simp; omega

theorem Inv.suf_lt (h : Inv z pl ok g) (hpl : ∀ k, ok k → pl k < z) {m : Nat} (hm : m < z) : ∀ i, i ∈ suf pl g m → i < z := by
  unfold suf
  by_cases e : g.K m = nil
  · rw [if_pos e]; intro i hi; simp at hi; omega
  · rw [if_neg e]
    obtain ⟨p, q, hc, hp⟩ := mem_split (h.inC m hm e)
    have ho : pl (g.K m) < z := hpl _ ((h.key m hm).resolve_left e)
    rw [hc, from_split hp]
    exact fun i hi => (h.cok _ ho i (by rw [hc]; simp at hi ⊢; exact .inr hi)).1

/-- The whole chain is read where its own main position is. -/
theorem Inv.suf_own (h : Inv z pl ok g) {m : Nat} (hm : m < z) (hne : g.C m ≠ []) : suf pl g m = g.C m := by
  rcases h.hd m hm with e | ⟨t, e⟩
  · exact absurd e hne
  · have hc := h.cok m hm m (by rw [e]; simp)
    rw [suf, if_neg hc.2.1, hc.2.2, e, from_, if_pos rfl]

/-- Where a held key is found: at its node, behind as many reads as its place in the chain says. -/
theorem Inv.find_held (h : Inv z pl ok g) (hpl : ∀ k, ok k → pl k < z) {i : Nat} (hi : i < z) (hk : g.K i ≠ nil) :
    ∃ p q, g.C (pl (g.K i)) = p ++ i :: q ∧ i ∉ p ∧ find pl g (g.K i) = (some i, p.length + 1) := by
  have ho : pl (g.K i) < z := hpl _ ((h.key i hi).resolve_left hk)
  obtain ⟨p, q, hc, hp⟩ := mem_split (h.inC i hi hk)
  refine ⟨p, q, hc, hp, ?_⟩
  rw [find, h.suf_own ho (by rw [hc]; simp), hc, scan_split 0 _ rfl]
  · simp
  · intro j hj e
    have hj2 := h.cok _ ho j (by rw [hc]; simp [hj])
    have := h.one j i hj2.1 hi hj2.2.1 e
    exact hp (this ▸ hj)
theorem Inv.find_none (h : Inv z pl ok g) (hpl : ∀ k, ok k → pl k < z) {k : V} (hk : k ≠ nil) {n : Nat} (hf : find pl g k = (none, n)) : ∀ i, i < z → g.K i ≠ k := by
  intro i hi e
  obtain ⟨p, q, _, _, h2⟩ := h.find_held hpl hi (by rw [e]; exact hk)
  rw [e, hf] at h2
  cases h2
theorem Inv.find_some (h : Inv z pl ok g) (hpl : ∀ k, ok k → pl k < z) {k : V} (hk : ok k) {i n : Nat} (hf : find pl g k = (some i, n)) : g.K i = k ∧ i < z ∧ 0 < n := by
  obtain ⟨h1, h2, h3, _⟩ := scan_some hf
  exact ⟨h1, h.suf_lt hpl (hpl k hk) i h2, by omega⟩

theorem tf_some {K : Nat → V} {f a : Nat} (h : tf K f = some a) : a < f ∧ K a = nil ∧ ∀ i, a < i → i < f → K i ≠ nil := by
  induction f with
  | zero => cases h
  | succ f ih =>
    rw [tf] at h
    split at h
    · obtain rfl : f = a := by simpa using h
      exact ⟨by omega, by assumption, fun i h1 h2 => by omega⟩
    · obtain ⟨h1, h2, h3⟩ := ih h
      refine ⟨by omega, h2, fun i h4 h5 => ?_⟩
      by_cases e : i = f
      · rw [e]; assumption
      · exact h3 i h4 (by omega)
theorem tf_none {K : Nat → V} {f : Nat} (h : tf K f = none) : ∀ i, i < f → K i ≠ nil := by
  induction f with
  | zero => intro i hi; omega
  | succ f ih =>
    rw [tf] at h
    split at h
    · cases h
    · intro i hi
      by_cases e : i = f
      · rw [e]; assumption
      · exact ih h i (by omega)

/-- What each step keeps. -/
theorem Inv.setX (h : Inv z pl ok g) {i : Nat} (v : V) (hk : g.K i ≠ nil) : Inv z pl ok (setX g i v) :=
  ⟨h.key, fun j hj e => by
    have : j ≠ i := fun x => hk (x ▸ e)
    show upd g.X i v j = nil
    rw [upd_ne _ _ this]; exact h.val j hj e, h.cok, h.nd, h.hd, h.inC, h.one, h.fle, h.up⟩
theorem Inv.none (h : Inv z pl ok g) (ht : tf g.K g.f = none) : Inv z pl ok { g with f := 0 } :=
  ⟨h.key, h.val, h.cok, h.nd, h.hd, h.inC, h.one, by simp, fun i hi _ => by
    by_cases e : g.f ≤ i
    · exact h.up i hi e
    · exact tf_none ht i (by omega)⟩
theorem Inv.empty_chain (h : Inv z pl ok g) {m : Nat} (hm : m < z) (hb : g.K m = nil ∨ pl (g.K m) ≠ m) : g.C m = [] := by
  rcases h.hd m hm with e | ⟨t, e⟩
  · exact e
  · have hc := h.cok m hm m (by rw [e]; simp)
    rcases hb with hb | hb
    · exact absurd hb hc.2.1
    · exact absurd hc.2.2 hb
theorem Inv.ins0 (h : Inv z pl ok g) {k : V} (v : V) (hk : ok k) (hkn : k ≠ nil) (hm : pl k < z) (hnew : ∀ i, i < z → g.K i ≠ k) (he : g.K (pl k) = nil) : Inv z pl ok (ins0 g (pl k) k v) := by
  have hC := h.empty_chain hm (.inl he)
  generalize hM : pl k = m at *
  refine ⟨fun i hi => ?_, fun i hi e => ?_, fun o ho j hj => ?_, fun o ho => ?_, fun o ho => ?_, fun i hi e => ?_, fun i j hi hj e e2 => ?_, h.fle, fun i hi hf => ?_⟩ <;> simp only [Proofs.YtpmmploedkbeoaaGreatDoor.ins0] at *
  · by_cases e : i = m
    · rw [e, upd_at]; exact .inr hk
    · rw [upd_ne _ _ e]; exact h.key i hi
  · by_cases e2 : i = m
    · rw [e2, upd_at] at e; exact absurd e hkn
    · rw [upd_ne _ _ e2] at e ⊢; exact h.val i hi e
  · by_cases e : o = m
    · rw [e, upd_at] at hj
      obtain rfl : j = m := by simpa using hj
      rw [upd_at]
      exact ⟨hm, hkn, by rw [hM, e]⟩
    · rw [upd_ne _ _ e] at hj
      obtain ⟨h1, h2, h3⟩ := h.cok o ho j hj
      have : j ≠ m := fun x => h2 (x ▸ he)
      rw [upd_ne _ _ this]; exact ⟨h1, h2, h3⟩
  · by_cases e : o = m
    · rw [e, upd_at]; simp
    · rw [upd_ne _ _ e]; exact h.nd o ho
  · by_cases e : o = m
    · rw [e, upd_at]; exact .inr ⟨[], rfl⟩
    · rw [upd_ne _ _ e]; exact h.hd o ho
  · by_cases e2 : i = m
    · rw [e2, upd_at, hM, upd_at]; simp
    · rw [upd_ne _ _ e2] at e ⊢
      have hin := h.inC i hi e
      have : pl (g.K i) ≠ m := fun x => by rw [x, hC] at hin; cases hin
      rw [upd_ne _ _ this]; exact hin
  · by_cases e3 : i = m <;> by_cases e4 : j = m
    · omega
    · rw [e3, upd_at, upd_ne _ _ e4] at e2; exact absurd e2.symm (hnew j hj)
    · rw [e4, upd_at, upd_ne _ _ e3] at e2; exact absurd e2 (hnew i hi)
    · rw [upd_ne _ _ e3] at e e2; rw [upd_ne _ _ e4] at e2; exact h.one i j hi hj e e2
  · by_cases e : i = m
    · rw [e, upd_at]; exact hkn
    · rw [upd_ne _ _ e]; exact h.up i hi hf
theorem Inv.ins1 (h : Inv z pl ok g) {k : V} {a : Nat} (v : V) (hk : ok k) (hkn : k ≠ nil) (hm : pl k < z) (hnew : ∀ i, i < z → g.K i ≠ k) (hne : g.K (pl k) ≠ nil) (hO : pl (g.K (pl k)) = pl k) (ht : tf g.K g.f = some a) :
    Inv z pl ok (ins1 g (pl k) a k v) := by
  obtain ⟨t1, t2, t3⟩ := tf_some ht
  have ha : a < z := Nat.lt_of_lt_of_le t1 h.fle
  have hin := h.inC _ hm hne
  rw [hO] at hin
  generalize hM : pl k = m at *
  obtain ⟨t, hC⟩ : ∃ t, g.C m = m :: t := by
    rcases h.hd m hm with e | e
    · rw [e] at hin; cases hin
    · exact e
  have ham : a ≠ m := fun x => hne (x ▸ t2)
  have hnotin : ∀ o, o < z → a ∉ g.C o := fun o ho hx => (h.cok o ho a hx).2.1 t2
  have hnd := h.nd m hm
  rw [hC] at hnd
  refine ⟨fun i hi => ?_, fun i hi e => ?_, fun o ho j hj => ?_, fun o ho => ?_, fun o ho => ?_, fun i hi e => ?_, fun i j hi hj e e2 => ?_, ?_, fun i hi hf => ?_⟩ <;> simp only [Proofs.YtpmmploedkbeoaaGreatDoor.ins1] at *
  · by_cases e : i = a
    · rw [e, upd_at]; exact .inr hk
    · rw [upd_ne _ _ e]; exact h.key i hi
  · by_cases e2 : i = a
    · rw [e2, upd_at] at e; exact absurd e hkn
    · rw [upd_ne _ _ e2] at e ⊢; exact h.val i hi e
  · by_cases e : o = m
    · rw [e, upd_at, hC] at hj
      by_cases e2 : j = a
      · rw [e2, upd_at]; exact ⟨ha, hkn, by rw [hM, e]⟩
      · rw [upd_ne _ _ e2, e]
        exact h.cok m hm j (by rw [hC]; simp [e2] at hj ⊢; exact hj)
    · rw [upd_ne _ _ e] at hj
      have : j ≠ a := fun x => hnotin o ho (x ▸ hj)
      rw [upd_ne _ _ this]; exact h.cok o ho j hj
  · by_cases e : o = m
    · rw [e, upd_at, hC]
      have := hnotin m hm
      rw [hC] at this
      simp only [List.tail_cons, List.nodup_cons, List.mem_cons, not_or] at hnd this ⊢
      exact ⟨⟨fun x => ham x.symm, hnd.1⟩, this.2, hnd.2⟩
    · rw [upd_ne _ _ e]; exact h.nd o ho
  · by_cases e : o = m
    · rw [e, upd_at]; exact .inr ⟨_, rfl⟩
    · rw [upd_ne _ _ e]; exact h.hd o ho
  · by_cases e2 : i = a
    · rw [e2, upd_at, hM, upd_at]; simp
    · rw [upd_ne _ _ e2] at e ⊢
      have hin := h.inC i hi e
      by_cases e3 : pl (g.K i) = m
      · rw [e3, upd_at]
        rw [e3, hC] at hin
        rw [hC]
        simp at hin ⊢
        rcases hin with q | q
        · exact .inl q
        · exact .inr (.inr q)
      · rw [upd_ne _ _ e3]; exact hin
  · by_cases e3 : i = a <;> by_cases e4 : j = a
    · omega
    · rw [e3, upd_at, upd_ne _ _ e4] at e2; exact absurd e2.symm (hnew j hj)
    · rw [e4, upd_at, upd_ne _ _ e3] at e2; exact absurd e2 (hnew i hi)
    · rw [upd_ne _ _ e3] at e e2; rw [upd_ne _ _ e4] at e2; exact h.one i j hi hj e e2
  · omega
  · by_cases e : i = a
    · rw [e, upd_at]; exact hkn
    · rw [upd_ne _ _ e]
      by_cases e2 : g.f ≤ i
      · exact h.up i hi e2
      · exact t3 i (by omega) (by omega)
theorem mem_swp {m a j : Nat} {c : List Nat} (h : j ∈ c.map (swp m a)) : (j = a ∧ m ∈ c) ∨ (j ∈ c ∧ j ≠ m) := by
  obtain ⟨x, hx, rfl⟩ := List.mem_map.1 h
  unfold swp
  by_cases e : x = m
  · rw [if_pos e]; exact .inl ⟨rfl, e ▸ hx⟩
  · rw [if_neg e]; exact .inr ⟨hx, e⟩
theorem swp_nd {m a : Nat} {c : List Nat} (h : c.Nodup) (ha : a ∉ c) : (c.map (swp m a)).Nodup := by
  induction c with
  | nil => simp
  | cons x c ih =>
    simp only [List.map_cons, List.nodup_cons, List.mem_cons, not_or] at h ha ⊢
    refine ⟨fun hx => ?_, ih h.2 ha.2⟩
    rcases mem_swp hx with ⟨e, hm⟩ | ⟨hy, hne⟩
    · by_cases e2 : x = m
      · exact h.1 (e2 ▸ hm)
      · rw [swp, if_neg e2] at e; exact ha.1 e.symm
    · by_cases e2 : x = m
      · rw [swp, if_pos e2] at hy; exact ha.2 hy
      · rw [swp, if_neg e2] at hy; exact h.1 hy
theorem Inv.ins2 (h : Inv z pl ok g) (hpl : ∀ k, ok k → pl k < z) {k : V} {a : Nat} (v : V) (hk : ok k) (hkn : k ≠ nil) (hm : pl k < z) (hnew : ∀ i, i < z → g.K i ≠ k) (hne : g.K (pl k) ≠ nil) (hO : pl (g.K (pl k)) ≠ pl k) (ht : tf g.K g.f = some a) :
    Inv z pl ok (ins2 g (pl (g.K (pl k))) (pl k) a k v) := by
  obtain ⟨t1, t2, t3⟩ := tf_some ht
  have ha : a < z := Nat.lt_of_lt_of_le t1 h.fle
  have hin := h.inC _ hm hne
  have hkm := (h.key _ hm).resolve_left hne
  have hCm := h.empty_chain hm (.inr hO)
  generalize hM : pl k = m at *
  have ho : pl (g.K m) < z := hpl _ hkm
  generalize hOo : pl (g.K m) = o at *
  have ham : a ≠ m := fun x => hne (x ▸ t2)
  have hnotin : ∀ q, q < z → a ∉ g.C q := fun q hq hx => (h.cok q hq a hx).2.1 t2
  obtain ⟨t, hCo⟩ : ∃ t, g.C o = o :: t := by
    rcases h.hd o ho with e | e
    · rw [e] at hin; cases hin
    · exact e
  refine ⟨fun i hi => ?_, fun i hi e => ?_, fun q hq j hj => ?_, fun q hq => ?_, fun q hq => ?_, fun i hi e => ?_, fun i j hi hj e e2 => ?_, ?_, fun i hi hf => ?_⟩ <;> simp only [Proofs.YtpmmploedkbeoaaGreatDoor.ins2] at *
  · by_cases e : i = m
    · rw [e, upd_at]; exact .inr hk
    · rw [upd_ne _ _ e]
      by_cases e2 : i = a
      · rw [e2, upd_at]; exact .inr hkm
      · rw [upd_ne _ _ e2]; exact h.key i hi
  · by_cases e2 : i = m
    · rw [e2, upd_at] at e; exact absurd e hkn
    · rw [upd_ne _ _ e2] at e ⊢
      by_cases e3 : i = a
      · rw [e3, upd_at] at e; exact absurd e hne
      · rw [upd_ne _ _ e3] at e ⊢; exact h.val i hi e
  · by_cases e : q = m
    · rw [e, upd_at] at hj
      obtain rfl : j = m := by simpa using hj
      rw [upd_at]; exact ⟨hm, hkn, by rw [hM, e]⟩
    · rw [upd_ne _ _ e] at hj
      by_cases e2 : q = o
      · rw [e2, upd_at] at hj
        rcases mem_swp hj with ⟨e3, _⟩ | ⟨hj2, hjm⟩
        · rw [e3, upd_ne _ _ ham, upd_at]; exact ⟨ha, hne, by rw [hOo, e2]⟩
        · have hc := h.cok o ho j hj2
          have : j ≠ a := fun x => hc.2.1 (x ▸ t2)
          rw [upd_ne _ _ hjm, upd_ne _ _ this, e2]; exact hc
      · rw [upd_ne _ _ e2] at hj
        have hc := h.cok q hq j hj
        have n1 : j ≠ a := fun x => hc.2.1 (x ▸ t2)
        have n2 : j ≠ m := fun x => e2 (by rw [← hc.2.2, x, hOo])
        rw [upd_ne _ _ n2, upd_ne _ _ n1]; exact hc
  · by_cases e : q = m
    · rw [e, upd_at]; simp
    · rw [upd_ne _ _ e]
      by_cases e2 : q = o
      · rw [e2, upd_at]; exact swp_nd (h.nd o ho) (hnotin o ho)
      · rw [upd_ne _ _ e2]; exact h.nd q hq
  · by_cases e : q = m
    · rw [e, upd_at]; exact .inr ⟨_, rfl⟩
    · rw [upd_ne _ _ e]
      by_cases e2 : q = o
      · rw [e2, upd_at, hCo]; exact .inr ⟨_, by rw [List.map_cons, swp, if_neg hO]⟩
      · rw [upd_ne _ _ e2]; exact h.hd q hq
  · by_cases e2 : i = m
    · rw [e2, upd_at, hM, upd_at]; simp
    · rw [upd_ne _ _ e2] at e ⊢
      by_cases e3 : i = a
      · rw [e3, upd_at, hOo, upd_ne _ _ hO, upd_at]
        exact List.mem_map.2 ⟨m, hin, by rw [swp, if_pos rfl]⟩
      · rw [upd_ne _ _ e3] at e ⊢
        have hi2 := h.inC i hi e
        have n1 : pl (g.K i) ≠ m := fun x => by rw [x, hCm] at hi2; cases hi2
        rw [upd_ne _ _ n1]
        by_cases e4 : pl (g.K i) = o
        · rw [e4, upd_at]
          rw [e4] at hi2
          exact List.mem_map.2 ⟨i, hi2, by rw [swp, if_neg e2]⟩
        · rw [upd_ne _ _ e4]; exact hi2
  · have key : ∀ x, x < z → x ≠ m → upd g.K a (g.K m) x ≠ k := fun x hx hxm => by
      by_cases e5 : x = a
      · rw [e5, upd_at]; exact hnew m hm
      · rw [upd_ne _ _ e5]; exact hnew x hx
    by_cases e3 : i = m <;> by_cases e4 : j = m
    · omega
    · rw [e3, upd_at, upd_ne _ _ e4] at e2; exact absurd e2.symm (key j hj e4)
    · rw [e4, upd_at, upd_ne _ _ e3] at e2; exact absurd e2 (key i hi e3)
    · rw [upd_ne _ _ e3] at e e2; rw [upd_ne _ _ e4] at e2
      by_cases e5 : i = a <;> by_cases e6 : j = a
      · omega
      · rw [e5, upd_at, upd_ne _ _ e6] at e2
        exact absurd (h.one m j hm hj hne e2) (fun x => e4 x.symm)
      · rw [e6, upd_at, upd_ne _ _ e5] at e2; rw [upd_ne _ _ e5] at e
        exact absurd (h.one i m hi hm e e2) e3
      · rw [upd_ne _ _ e5] at e e2; rw [upd_ne _ _ e6] at e2; exact h.one i j hi hj e e2
  · omega
  · by_cases e : i = m
    · rw [e, upd_at]; exact hkn
    · rw [upd_ne _ _ e]
      by_cases e3 : i = a
      · rw [e3, upd_at]; exact hne
      · rw [upd_ne _ _ e3]
        by_cases e2 : g.f ≤ i
        · exact h.up i hi e2
        · exact t3 i (by omega) (by omega)
end Go.Proofs.YtpmmploedkbeoaaGreatDoor

/- The pure part, on: what each step does to the links. -/
namespace Go.Proofs.YtpmmploedkbeoaaGreatDoor
variable {z : Nat} {pl : V → Nat} {ok : V → Prop} {g : G}

/-- The link that node a needs to lead where node m's leads. -/
def bey (l : Int) (m a : Nat) : Int := if l = 0 then 0 else m + l - a
theorem bey_nx {m a : Nat} {t : List Nat} (h : (m :: t).Nodup) : bey (nx m (m :: t)) m a = nx a (a :: t) := by
  cases t with
  | nil => simp [bey, nx]
  | cons b t =>
    have hb : m ≠ b := by simp at h; exact h.1.1
    have e1 : nx m (m :: b :: t) = (b : Int) - m := rfl
    have e2 : nx a (a :: b :: t) = (b : Int) - a := rfl
    rw [e1, e2, bey, if_neg (by omega)]; omega
theorem link_of {i : Nat} {k : V} (hk : g.K i = k) (hn : k ≠ nil) : link pl g i = nxt (g.C (pl k)) i := by subst hk; rw [link, if_neg hn]
theorem link_no {i : Nat} (hk : g.K i = nil) : link pl g i = 0 := by rw [link, if_pos hk]
/-- Where neither the key nor its chain has changed. -/
theorem link_same {g g' : G} {i : Nat} (hk : g'.K i = g.K i) (hc : g.K i ≠ nil → nxt (g'.C (pl (g.K i))) i = nxt (g.C (pl (g.K i))) i) : link pl g' i = link pl g i := by
  by_cases e : g.K i = nil
  · rw [link_no e, link_no (hk.trans e)]
  · rw [link_of hk e, link_of rfl e]; exact hc e
theorem link_setX (i : Nat) (v : V) (j : Nat) : link pl (setX g i v) j = link pl g j := rfl
theorem link_f (f j : Nat) : link pl { g with f := f } j = link pl g j := rfl

theorem Inv.link_ins0 (h : Inv z pl ok g) {k : V} (v : V) (hkn : k ≠ nil) (hm : pl k < z) (he : g.K (pl k) = nil) {i : Nat} (hi : i < z) :
    link pl (Proofs.YtpmmploedkbeoaaGreatDoor.ins0 g (pl k) k v) i = if i = pl k then 0 else link pl g i := by
  have hC := h.empty_chain hm (.inl he)
  generalize hM : pl k = m at *
  by_cases e : i = m
  · rw [if_pos e, link_of (k := k) (by show upd g.K m k i = k; rw [e, upd_at]) hkn]
    show nxt (upd g.C m [m] (pl k)) i = 0
    rw [hM, upd_at, e]; simp [nxt, from_, nx]
  · rw [if_neg e]
    refine link_same (by show upd g.K m k i = _; rw [upd_ne _ _ e]) (fun e2 => ?_)
    have hin := h.inC i hi e2
    have : pl (g.K i) ≠ m := fun x => by rw [x, hC] at hin; cases hin
    show nxt (upd g.C m [m] (pl (g.K i))) i = _
    rw [upd_ne _ _ this]

theorem from_skip {i x : Nat} {c : List Nat} (h : x ≠ i) : from_ i (x :: c) = from_ i c := by rw [from_, if_neg h]

theorem Inv.link_ins1 (h : Inv z pl ok g) {k : V} {a : Nat} (v : V) (hkn : k ≠ nil) (hm : pl k < z) (hne : g.K (pl k) ≠ nil) (hO : pl (g.K (pl k)) = pl k) (ht : tf g.K g.f = some a) {i : Nat} :
    link pl (Proofs.YtpmmploedkbeoaaGreatDoor.ins1 g (pl k) a k v) i = if i = a then bey (link pl g (pl k)) (pl k) a else if i = pl k then (a : Int) - (pl k : Nat) else link pl g i := by
  obtain ⟨t1, t2, t3⟩ := tf_some ht
  have hin := h.inC _ hm hne
  rw [hO] at hin
  generalize hM : pl k = m at *
  obtain ⟨t, hC⟩ : ∃ t, g.C m = m :: t := by
    rcases h.hd m hm with e | e
    · rw [e] at hin; cases hin
    · exact e
  have ham : a ≠ m := fun x => hne (x ▸ t2)
  have hnd := h.nd m hm
  rw [hC] at hnd
  have hlm : link pl g m = nx m (m :: t) := by rw [link_of rfl hne, hO, hC, nxt, from_, if_pos rfl]
  rw [hlm, bey_nx hnd]
  by_cases e : i = a
  · rw [if_pos e, link_of (k := k) (by show upd g.K a k i = k; rw [e, upd_at]) hkn]
    show nxt (upd g.C m _ (pl k)) i = _
    rw [hM, upd_at, hC, List.tail_cons, e, nxt, from_skip (fun x => ham x.symm), from_, if_pos rfl]
  · rw [if_neg e]
    by_cases e2 : i = m
    · rw [if_pos e2, link_of (k := g.K m) (by show upd g.K a k i = _; rw [e2, upd_ne _ _ (fun x => ham x.symm)]) hne]
      show nxt (upd g.C m _ (pl (g.K m))) i = _
      rw [hO, upd_at, e2, nxt, from_, if_pos rfl]; rfl
    · rw [if_neg e2]
      refine link_same (by show upd g.K a k i = _; rw [upd_ne _ _ e]) (fun e3 => ?_)
      show nxt (upd g.C m _ (pl (g.K i))) i = _
      by_cases e4 : pl (g.K i) = m
      · rw [e4, upd_at, hC, List.tail_cons, nxt, nxt, from_skip (fun x => e2 x.symm), from_skip (fun x => e x.symm), from_skip (fun x => e2 x.symm)]
      · rw [upd_ne _ _ e4]

theorem map_swp_id {m a : Nat} {p : List Nat} (h : m ∉ p) : p.map (swp m a) = p := by
  induction p with
  | nil => rfl
  | cons x p ih =>
    simp only [List.mem_cons, not_or] at h
    rw [List.map_cons, ih h.2, swp, if_neg (fun e => h.1 e.symm)]

/-- Whom the node that is moved out follows. -/
theorem Inv.before (h : Inv z pl ok g) (hpl : ∀ k, ok k → pl k < z) {m : Nat} (hm : m < z) (hne : g.K m ≠ nil) (hO : pl (g.K m) ≠ m) : ∃ p b q, g.C (pl (g.K m)) = p ++ b :: m :: q := by
  have hin := h.inC _ hm hne
  have ho : pl (g.K m) < z := hpl _ ((h.key _ hm).resolve_left hne)
  generalize pl (g.K m) = o at *
  obtain ⟨p, q, hc, hp⟩ := mem_split hin
  rcases List.eq_nil_or_concat p with e | ⟨p', b, e⟩
  · rcases h.hd o ho with e2 | ⟨t, e2⟩
    · rw [e2] at hin; cases hin
    · rw [hc, e] at e2; simp at e2; exact absurd e2.1.symm hO
  · exact ⟨p', b, q, by rw [hc, e]; simp⟩

theorem Inv.link_ins2 (h : Inv z pl ok g) (hpl : ∀ k, ok k → pl k < z) {k : V} {a b : Nat} {p q : List Nat} (v : V) (hkn : k ≠ nil) (hm : pl k < z) (hne : g.K (pl k) ≠ nil) (hO : pl (g.K (pl k)) ≠ pl k) (ht : tf g.K g.f = some a)
    (hC : g.C (pl (g.K (pl k))) = p ++ b :: pl k :: q) {i : Nat} (hi : i < z) :
    link pl (Proofs.YtpmmploedkbeoaaGreatDoor.ins2 g (pl (g.K (pl k))) (pl k) a k v) i = if i = pl k then 0 else if i = a then bey (link pl g (pl k)) (pl k) a else if i = b then (a : Int) - b else link pl g i := by
  obtain ⟨t1, t2, t3⟩ := tf_some ht
  have hkm := (h.key _ hm).resolve_left hne
  have hCm := h.empty_chain hm (.inr hO)
  generalize hM : pl k = m at *
  have ho : pl (g.K m) < z := hpl _ hkm
  generalize hOo : pl (g.K m) = o at *
  have ham : a ≠ m := fun x => hne (x ▸ t2)
  have hnot : a ∉ g.C o := fun hx => (h.cok o ho a hx).2.1 t2
  have hnd := h.nd o ho
  rw [hC] at hnd hnot
  have hbc := h.cok o ho b (by rw [hC]; simp)
  have hnd2 := hnd
  rw [List.nodup_append] at hnd2
  obtain ⟨n1, n2, n3⟩ := hnd2
  simp only [List.nodup_cons, List.mem_cons, not_or] at n2
  obtain ⟨⟨hbm, hbq⟩, hmq, hq⟩ := n2
  have hmp : m ∉ p := fun x => n3 m x m (by simp) rfl
  have hbp : b ∉ p := fun x => n3 b x b (by simp) rfl
  simp only [List.mem_append, List.mem_cons, not_or] at hnot
  obtain ⟨hap, hab, _, haq⟩ := hnot
  have hmap : (p ++ b :: m :: q).map (swp m a) = p ++ b :: a :: q := by
    rw [List.map_append, List.map_cons, List.map_cons, map_swp_id hmp, map_swp_id hmq, swp, if_neg hbm, swp, if_pos rfl]
  have hlm : link pl g m = nx m (m :: q) := by
    rw [link_of rfl hne, hOo, hC]
    rw [show p ++ b :: m :: q = (p ++ [b]) ++ m :: q by simp]
    exact nxt_split (by simp; exact ⟨hmp, fun x => hbm x.symm⟩)
  rw [hlm, bey_nx (by simp; exact ⟨hmq, hq⟩)]
  by_cases e : i = m
  · rw [if_pos e, link_of (k := k) (by show upd (upd g.K a (g.K m)) m k i = k; rw [e, upd_at]) hkn]
    show nxt (upd (upd g.C o _) m [m] (pl k)) i = _
    rw [hM, upd_at, e]; simp [nxt, from_, nx]
  · rw [if_neg e]
    by_cases e2 : i = a
    · rw [if_pos e2, link_of (k := g.K m) (by show upd (upd g.K a (g.K m)) m k i = _; rw [e2, upd_ne _ _ ham, upd_at]) hne]
      show nxt (upd (upd g.C o ((g.C o).map (swp m a))) m [m] (pl (g.K m))) i = _
      rw [hOo, upd_ne _ _ hO, upd_at, hC, hmap, e2]
      rw [show p ++ b :: a :: q = (p ++ [b]) ++ a :: q by simp]
      exact nxt_split (by simp; exact ⟨hap, hab⟩)
    · rw [if_neg e2]
      have hK : (Proofs.YtpmmploedkbeoaaGreatDoor.ins2 g o m a k v).K i = g.K i := by show upd (upd g.K a (g.K m)) m k i = _; rw [upd_ne _ _ e, upd_ne _ _ e2]
      by_cases e3 : i = b
      · subst e3
        rw [if_pos rfl, link_of hK hbc.2.1]
        show nxt (upd (upd g.C o ((g.C o).map (swp m a))) m [m] (pl (g.K i))) i = _
        rw [hbc.2.2, upd_ne _ _ hO, upd_at, hC, hmap, nxt_split hbp]; rfl
      · rw [if_neg e3]
        refine link_same hK (fun e4 => ?_)
        show nxt (upd (upd g.C o ((g.C o).map (swp m a))) m [m] (pl (g.K i))) i = _
        · have hin := h.inC i hi e4
          have n5 : pl (g.K i) ≠ m := fun x => by rw [x, hCm] at hin; cases hin
          rw [upd_ne _ _ n5]
          by_cases e5 : pl (g.K i) = o
          · rw [e5, upd_at, hC, hmap]
            rw [e5, hC] at hin
            simp only [List.mem_append, List.mem_cons] at hin
            rcases hin with hin | hin | hin | hin
            · obtain ⟨p1, p2, rfl, hp1⟩ := mem_split hin
              rw [List.append_assoc, List.append_assoc, List.cons_append, List.cons_append, nxt_split hp1, nxt_split hp1]
              cases p2 <;> rfl
            · exact absurd hin e3
            · exact absurd hin e
            · obtain ⟨q1, q2, rfl, hq1⟩ := mem_split hin
              have hip : i ∉ p := fun x => n3 i x i (by simp) rfl
              rw [show p ++ b :: a :: (q1 ++ i :: q2) = (p ++ b :: a :: q1) ++ i :: q2 by simp, show p ++ b :: m :: (q1 ++ i :: q2) = (p ++ b :: m :: q1) ++ i :: q2 by simp]
              rw [nxt_split (by simp; exact ⟨hip, e3, e2, hq1⟩), nxt_split (by simp; exact ⟨hip, e3, e, hq1⟩)]
          · rw [upd_ne _ _ e5]

/-- Room where a node has no key. -/
theorem Inv.room (h : Inv z pl ok g) {i : Nat} (hi : i < z) (he : g.K i = nil) : ∃ a, tf g.K g.f = some a := by
  cases e : tf g.K g.f with
  | some a => exact ⟨a, rfl⟩
  | none =>
    by_cases hf : g.f ≤ i
    · exact absurd he (h.up i hi hf)
    · exact absurd he (tf_none e i (by omega))

/-- An insertion keeps what stays true, and no free pointer goes up. -/
theorem Inv.ins (h : Inv z pl ok g) (hpl : ∀ k, ok k → pl k < z) {k : V} (v : V) (hk : ok k) (hkn : k ≠ nil) (hnew : ∀ i, i < z → g.K i ≠ k) : Inv z pl ok (Proofs.YtpmmploedkbeoaaGreatDoor.ins pl g k v).1 ∧ (Proofs.YtpmmploedkbeoaaGreatDoor.ins pl g k v).1.f ≤ g.f := by
  unfold Proofs.YtpmmploedkbeoaaGreatDoor.ins
  by_cases e : g.K (pl k) = nil
  · rw [if_pos e]; exact ⟨h.ins0 v hk hkn (hpl k hk) hnew e, Nat.le_refl _⟩
  · rw [if_neg e]
    cases ht : tf g.K g.f with
    | none => exact ⟨h.none ht, Nat.zero_le _⟩
    | some a =>
      have hlt := (tf_some ht).1
      simp only
      by_cases e2 : pl (g.K (pl k)) = pl k
      · rw [if_pos e2]; exact ⟨h.ins1 v hk hkn (hpl k hk) hnew e e2 ht, by show a ≤ g.f; omega⟩
      · rw [if_neg e2]; exact ⟨h.ins2 hpl v hk hkn (hpl k hk) hnew e e2 ht, by show a ≤ g.f; omega⟩
/-- The keys and values behind an insertion that went in: one node more. -/
theorem Inv.ins_map (h : Inv z pl ok g) (hpl : ∀ k, ok k → pl k < z) {k : V} (v : V) (hk : ok k) (hb : (Proofs.YtpmmploedkbeoaaGreatDoor.ins pl g k v).2 = true) :
    ∀ k' v', k' ≠ nil → ((∃ i, i < z ∧ (Proofs.YtpmmploedkbeoaaGreatDoor.ins pl g k v).1.K i = k' ∧ (Proofs.YtpmmploedkbeoaaGreatDoor.ins pl g k v).1.X i = v') ↔ (k' = k ∧ v' = v) ∨ ∃ i, i < z ∧ g.K i = k' ∧ g.X i = v') := by
  intro k' v' hk'
  have hm := hpl k hk
  unfold Proofs.YtpmmploedkbeoaaGreatDoor.ins at hb ⊢
  generalize hM : pl k = m at *
  by_cases e : g.K m = nil
  · rw [if_pos e]
    simp only [Proofs.YtpmmploedkbeoaaGreatDoor.ins0]
    constructor
    · rintro ⟨i, hi, h1, h2⟩
      by_cases q : i = m
      · rw [q, upd_at] at h1 h2; exact .inl ⟨h1.symm, h2.symm⟩
      · rw [upd_ne _ _ q] at h1 h2; exact .inr ⟨i, hi, h1, h2⟩
    · rintro (⟨rfl, rfl⟩ | ⟨i, hi, h1, h2⟩)
      · exact ⟨m, hm, upd_at _ _ _, upd_at _ _ _⟩
      · have q : i ≠ m := fun x => hk' (by rw [← h1, x, e])
        exact ⟨i, hi, by rw [upd_ne _ _ q]; exact h1, by rw [upd_ne _ _ q]; exact h2⟩
  · rw [if_neg e] at hb ⊢
    cases ht : tf g.K g.f with
    | none => rw [ht] at hb; cases hb
    | some a =>
      have hlt := tf_some ht
      have ha : a < z := Nat.lt_of_lt_of_le hlt.1 h.fle
      have ham : a ≠ m := fun x => e (x ▸ hlt.2.1)
      simp only
      by_cases e2 : pl (g.K m) = m
      · rw [if_pos e2]
        simp only [Proofs.YtpmmploedkbeoaaGreatDoor.ins1]
        constructor
        · rintro ⟨i, hi, h1, h2⟩
          by_cases q : i = a
          · rw [q, upd_at] at h1 h2; exact .inl ⟨h1.symm, h2.symm⟩
          · rw [upd_ne _ _ q] at h1 h2; exact .inr ⟨i, hi, h1, h2⟩
        · rintro (⟨rfl, rfl⟩ | ⟨i, hi, h1, h2⟩)
          · exact ⟨a, ha, upd_at _ _ _, upd_at _ _ _⟩
          · have q : i ≠ a := fun x => hk' (by rw [← h1, x, hlt.2.1])
            exact ⟨i, hi, by rw [upd_ne _ _ q]; exact h1, by rw [upd_ne _ _ q]; exact h2⟩
      · rw [if_neg e2]
        simp only [Proofs.YtpmmploedkbeoaaGreatDoor.ins2]
        constructor
        · rintro ⟨i, hi, h1, h2⟩
          by_cases q : i = m
          · rw [q, upd_at] at h1 h2; exact .inl ⟨h1.symm, h2.symm⟩
          · rw [upd_ne _ _ q] at h1 h2
            by_cases q2 : i = a
            · rw [q2, upd_at] at h1 h2; exact .inr ⟨m, hm, h1, h2⟩
            · rw [upd_ne _ _ q2] at h1 h2; exact .inr ⟨i, hi, h1, h2⟩
        · rintro (⟨rfl, rfl⟩ | ⟨i, hi, h1, h2⟩)
          · exact ⟨m, hm, upd_at _ _ _, upd_at _ _ _⟩
          · have q : i ≠ a := fun x => hk' (by rw [← h1, x, hlt.2.1])
            by_cases q2 : i = m
            · subst q2
              exact ⟨a, ha, by rw [upd_ne _ _ ham, upd_at]; exact h1, by rw [upd_ne _ _ ham, upd_at]; exact h2⟩
            · exact ⟨i, hi, by rw [upd_ne _ _ q2, upd_ne _ _ q]; exact h1, by rw [upd_ne _ _ q2, upd_ne _ _ q]; exact h2⟩
end Go.Proofs.YtpmmploedkbeoaaGreatDoor

/- Plain facts on the hash of a text, and the walks of Of, the program's and the reference's. -/
namespace Go.Proofs.YtpmmploedkbeoaaGreatDoor
open Go.RowKit

theorem i64_xor_nat (a b : Nat) (ha : a < 4294967296) (hb : b < 4294967296) : bits .xor .i64 (a : Int) (b : Int) = ((a ^^^ b : Nat) : Int) := by
  have hx : a ^^^ b < 2 ^ 32 := Nat.xor_lt_two_pow (by omega) (by omega)
  show IntKind.i64.wrap ((BitVec.ofInt 64 (a : Int) ^^^ BitVec.ofInt 64 (b : Int)).toNat : Int) = _
  rw [BitVec.toNat_xor, ofInt_u64 a (by omega), ofInt_u64 b (by omega), IntKind.wrap_i64]
  omega

/-- One byte more. -/
def fnv1 (h : Nat) (b : UInt8) : Nat := ((h ^^^ b.toNat) * 16777619) % 4294967296
def fnv (l : List UInt8) : Nat := l.foldl fnv1 2166136261
theorem fold_snoc (l : List UInt8) (c : UInt8) (h : Nat) : (l ++ [c]).foldl fnv1 h = fnv1 (l.foldl fnv1 h) c := by rw [List.foldl_append, List.foldl_cons, List.foldl_nil]
theorem fnv_snoc (l : List UInt8) (c : UInt8) : fnv (l ++ [c]) = fnv1 (fnv l) c := fold_snoc l c _
theorem fold_lt (l : List UInt8) : ∀ h, h < 4294967296 → l.foldl fnv1 h < 4294967296 := by
  induction l with
  | nil => intro h hh; exact hh
  | cons c l ih => intro h _; rw [List.foldl_cons]; exact ih _ (by unfold fnv1; exact Nat.mod_lt _ (Nat.zero_lt_succ _))
theorem start_lt : 2166136261 < 4294967296 := Nat.lt_of_sub_pos (show 0 < 2128831035 from Nat.zero_lt_succ _)
theorem fnv_lt (l : List UInt8) : fnv l < 4294967296 := fold_lt l _ start_lt
theorem take_snoc (s : ByteArray) (k : Nat) (h : k < s.size) : s.data.toList.take (k + 1) = s.data.toList.take k ++ [s[k]] := by
  rw [List.take_add_one]
  congr 1
  have : s.data.toList[k]? = some s[k] := by
    have h2 : k < s.data.toList.length := by simpa using h
    rw [List.getElem?_eq_getElem h2]; rfl
  rw [this]; rfl
theorem take_all (s : ByteArray) (k : Nat) (h : ¬ k < s.size) : s.data.toList.take k = s.data.toList := by
  apply List.take_of_length_le
  have : s.data.toList.length = s.size := by simp
  omega
theorem ret1 {a b : Int} (h : a = b) : Ending.returned (.int .i64 a) = .returned (.int .i64 b) := by rw [h]

theorem step_u32 (h : Nat) (b : UInt8) (hh : h < 4294967296) : bits .xor .u32 (h : Int) (((b.toNat : Nat) : Int) % 4294967296) * 16777619 % 4294967296 = ((fnv1 h b : Nat) : Int) := by
  have hb := b.toNat_lt
  have e : ((b.toNat : Nat) : Int) % 4294967296 = ((b.toNat : Nat) : Int) := by omega
  rw [e, u32_xor_nat h b.toNat hh (by omega)]
  unfold fnv1
  omega
theorem step_i64 (h : Nat) (b : UInt8) (hh : h < 4294967296) : (wrap64 (bits .xor .i64 (h : Int) (wrap64 ((b.toNat : Nat) : Int)) * 16777619)).tmod 4294967296 = ((fnv1 h b : Nat) : Int) := by
  have hb := b.toNat_lt
  have hx : h ^^^ b.toNat < 2 ^ 32 := Nat.xor_lt_two_pow (by omega) (by omega)
  have e : wrap64 ((b.toNat : Nat) : Int) = ((b.toNat : Nat) : Int) := by unfold wrap64; omega
  rw [e, i64_xor_nat h b.toNat hh (by omega)]
  have e2 : wrap64 (((h ^^^ b.toNat : Nat) : Int) * 16777619) = ((h ^^^ b.toNat : Nat) : Int) * 16777619 := by unfold wrap64; omega
  rw [e2, Int.tmod_eq_emod_of_nonneg (by omega)]
  unfold fnv1; omega

set_option maxHeartbeats 1000000 in
theorem of_any (s : ByteArray) (w : World) (hs : s.size ≤ 9223372036854775807) :
    Calls Tryz.prog 217 #[.string s] w fun e w' => e = .returned (.int .i64 (fnv s.data.toList)) ∧ w' = w := by
  go_enter Tryz.func217, Tryz.ntmps217
  go_wp2
  go_loop [3, 7] (fun h i => ∃ k : Nat, k ≤ s.size ∧ i = .int .i64 k ∧ ∃ m : Nat, h = .int .u32 (m : Nat) ∧ Hid (m = fnv (s.data.toList.take k))) (fun _ i => s.size - (intOf i).toNat)
  case atStart => exact ⟨0, Nat.zero_le _, rfl, 2166136261, rfl, rfl⟩
  case round =>
    obtain ⟨k, hk, rfl, m, rfl, HM⟩ := hrel
    by_cases hlt : k < s.size
    · have hm : m < 4294967296 := by rw [HM.out]; exact fnv_lt _
      have h1 : Hid _ := step_u32 m s[k] hm
      have HM2 : Hid (fnv1 m s[k] = fnv (s.data.toList.take (k + 1))) := by
        show _ = _
        rw [take_snoc s k hlt, fnv_snoc, HM.out]
      clear HM
      go_wp2
      go_round
      case rel => exact ⟨k + 1, by omega, by go_num, fnv1 m s[k], congrArg (Value.int .u32) h1.out, HM2⟩
      case measure => simp [intOf]; omega
    · have HT := take_all s k hlt
      rw [HT] at HM
      have hm : m < 4294967296 := by rw [HM.out]; exact fnv_lt _
      clear HT
      go_wp2
      go_ret
      exact ⟨ret1 (by rw [HM.out]), rfl⟩

end Go.Proofs.YtpmmploedkbeoaaGreatDoor

/- The walks of Check, the program's and the reference's, and of the sizes. -/
namespace Go.Proofs.YtpmmploedkbeoaaGreatDoor
open Go.RowKit

/-- A value as plain data; its block. -/
abbrev vl (k n : Int) (s : ByteArray) : Value := .agg #[.int .i64 k, .int .i64 n, .string s]
abbrev vb (k n : Int) (s : ByteArray) : Obj := .cells #[.int .i64 k, .int .i64 n, .string s] 37

/-- Is it in form? -/
def inF (k n : Int) (s : ByteArray) : Bool :=
  if k = 0 then decide (n = 0) && s.toList.isEmpty else if k = 1 then decide (n = 0 ∨ n = 1) && s.toList.isEmpty else if k = 2 then s.toList.isEmpty
  else if k = 3 then decide (n = 0) && decide ((s.size : Int) ≤ 10000) else if k = 4 ∨ k = 5 ∨ k = 6 then decide (1 ≤ n) && s.toList.isEmpty else false
def chk (k n : Int) (s : ByteArray) : Int := if inF k n s then 0 else 2

set_option maxHeartbeats 1000000 in
theorem check_any (k n : Int) (s : ByteArray) (w : World)  :
    Calls Tryz.prog 67 #[vl k n s] w fun e w' => e = .returned (.int .i64 (chk k n s)) ∧ w' = w.alloc (vb k n s) := by
  unfold vl vb
  go_enter Tryz.func67, Tryz.ntmps67
  go_wp2
  all_goals (go_ret; refine ⟨ret1 ?_, by first | rfl | (simp_all; done)⟩; first | (simp_all [chk, inF]; done) | (simp_all [chk, inF]; omega))

end Go.Proofs.YtpmmploedkbeoaaGreatDoor

/- The walks of isSize, Power and spread. -/
namespace Go.Proofs.YtpmmploedkbeoaaGreatDoor
open Go.RowKit

theorem i64_and_nat (a b : Nat) (ha : a < 4294967296) (hb : b < 4294967296) : bits .and .i64 (a : Int) (b : Int) = ((a &&& b : Nat) : Int) := by
  have hx : a &&& b < 2 ^ 32 := Nat.and_lt_two_pow _ (by omega)
  show IntKind.i64.wrap ((BitVec.ofInt 64 (a : Int) &&& BitVec.ofInt 64 (b : Int)).toNat : Int) = _
  rw [BitVec.toNat_and, ofInt_u64 a (by omega), ofInt_u64 b (by omega), IntKind.wrap_i64]
  omega

/-- A power of two from 1 to 65536. -/
def pw (z : Int) : Bool := decide (1 ≤ z ∧ z ≤ 65536) && decide (z.toNat &&& (z.toNat - 1) = 0)
theorem pw_of (z : Int) (h : pw z = true) : ∃ i : Nat, i ≤ 16 ∧ z = ((2 ^ i : Nat) : Int) := by
  simp only [pw, Bool.and_eq_true, decide_eq_true_eq] at h
  obtain ⟨⟨h1, h2⟩, h3⟩ := h
  obtain ⟨n, rfl⟩ : ∃ n : Nat, z = n := ⟨z.toNat, by omega⟩
  simp only [Int.toNat_natCast] at h3
  have hn : n ≠ 0 := by omega
  have a1 : 2 ^ n.log2 ≤ n := Nat.log2_self_le hn
  have a2 : n < 2 ^ (n.log2 + 1) := Nat.lt_log2_self
  refine ⟨n.log2, ?_, ?_⟩
  · by_cases h : n.log2 ≤ 16
    · exact h
    · have := Nat.pow_le_pow_right (show 0 < 2 by omega) (show 17 ≤ n.log2 by omega)
      have : 2 ^ 17 = 131072 := by decide
      omega
  · by_cases he : n = 2 ^ n.log2
    · exact congrArg Nat.cast he
    · exfalso
      have t1 := Nat.testBit_of_two_pow_le_and_two_pow_add_one_gt (n := n) (i := n.log2) a1 (by omega)
      have t2 := Nat.testBit_of_two_pow_le_and_two_pow_add_one_gt (n := n - 1) (i := n.log2) (by omega) (by omega)
      have := congrArg (fun x => x.testBit n.log2) h3
      simp [Nat.testBit_and, t1, t2] at this
theorem pow_at : ∀ i : Nat, i < 17 → pw ((2 ^ i : Nat) : Int) = true ∧ 1 ≤ 2 ^ i ∧ 2 ^ i ≤ 65536 := by decide +kernel
theorem pw_bounds (z : Int) (h : pw z = true) : 1 ≤ z ∧ z ≤ 65536 := by
  simp only [pw, Bool.and_eq_true, decide_eq_true_eq] at h; exact h.1
theorem ret_bool {a b : Bool} (h : a = b) : Ending.returned (.bool a) = .returned (.bool b) := by rw [h]

set_option maxHeartbeats 1000000 in
theorem isSize_any (z : Int) (w : World) : Calls Tryz.prog 215 #[.int .i64 z] w fun e w' => e = .returned (.bool (pw z)) ∧ w' = w := by
  by_cases h : 1 ≤ z ∧ z ≤ 65536
  · have hb : Hid (bits .and .i64 z (z - 1) = ((z.toNat &&& (z.toNat - 1) : Nat) : Int)) := by
      have := i64_and_nat z.toNat (z.toNat - 1) (by omega) (by omega)
      rw [show ((z.toNat : Nat) : Int) = z by omega, show ((z.toNat - 1 : Nat) : Int) = z - 1 by omega] at this
      exact this
    obtain ⟨h0, h1⟩ := h
    go_enter Tryz.func215, Tryz.ntmps215
    go_wp2
    all_goals (go_ret; refine ⟨ret_bool ?_, rfl⟩)
    rw [hb.out, pw, decide_eq_true (show 1 ≤ z ∧ z ≤ 65536 from ⟨h0, h1⟩), Bool.true_and]
    rw [Bool.eq_iff_iff]; simp
  · have hp : pw z = false := by simp only [pw, decide_eq_false h, Bool.false_and]
    rw [hp]
    clear hp
    go_enter Tryz.func215, Tryz.ntmps215
    go_wp2
    all_goals (go_ret; first | exact ⟨rfl, rfl⟩ | (exfalso; omega))

set_option maxHeartbeats 1000000 in
theorem spread_any (n z : Int) (w : World) (h0 : 0 ≤ n) (h1 : n ≤ 18446744073709551615) (hz : 1 ≤ z) (hz' : z ≤ 65536) : Calls Tryz.prog 216 #[.int .u64 n, .int .i64 z] w fun e w' => e = .returned (.int .i64 (n % (if z = 1 then 1 else z - 1))) ∧ w' = w := by
  by_cases h : z = 1
  · subst h
    go_enter Tryz.func216, Tryz.ntmps216
    go_wp2
    go_ret; exact ⟨rfl, rfl⟩
  · go_enter Tryz.func216, Tryz.ntmps216
    go_wp2
    go_ret; refine ⟨ret1 ?_, rfl⟩
    have := Int.emod_nonneg n (show z - 1 ≠ 0 by omega)
    have := Int.emod_lt_of_pos n (show 0 < z - 1 by omega)
    unfold wrap64; omega

end Go.Proofs.YtpmmploedkbeoaaGreatDoor
