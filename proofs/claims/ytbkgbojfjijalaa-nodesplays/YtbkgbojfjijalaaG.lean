/- The pure part: chains as lists of nodes' numbers; what a search and a store come to; what stays true behind any stores. -/
namespace Go.Proofs.Ytbkgbojfjijalaa

abbrev V := Int × Int × ByteArray
def nil : V := (0, 0, ⟨#[]⟩)
def upd {α : Type} (f : Nat → α) (m : Nat) (a : α) : Nat → α := fun i => if i = m then a else f i
theorem upd_at {α : Type} (f : Nat → α) (m : Nat) (a : α) : upd f m a m = a := by simp [upd]
theorem upd_ne {α : Type} (f : Nat → α) {m i : Nat} (a : α) (h : i ≠ m) : upd f m a i = f i := by simp [upd, h]

/-- A part: what each node holds, by main position the chain, the free pointer. -/
structure G where
  K : Nat → V
  X : Nat → V
  C : Nat → List Nat
  f : Nat

/-- What stays true. -/
structure Inv (z : Nat) (pl : V → Nat) (ok : V → Prop) (g : G) : Prop where
  key : ∀ i, i < z → g.K i = nil ∨ ok (g.K i)
  val : ∀ i, i < z → g.K i = nil → g.X i = nil
  cok : ∀ m, m < z → ∀ j, j ∈ g.C m → j < z ∧ g.K j ≠ nil ∧ pl (g.K j) = m
  nd : ∀ m, m < z → (g.C m).Nodup
  hd : ∀ m, m < z → g.C m = [] ∨ ∃ t, g.C m = m :: t
  inC : ∀ i, i < z → g.K i ≠ nil → i ∈ g.C (pl (g.K i))
  one : ∀ i j, i < z → j < z → g.K i ≠ nil → g.K i = g.K j → i = j
  fle : g.f ≤ z
  up : ∀ i, i < z → g.f ≤ i → g.K i ≠ nil

/-- The search. -/
def scan (K : Nat → V) (k : V) : List Nat → Nat → Option Nat × Nat
  | [], r => (none, r)
  | a :: c, r => if K a = k then (some a, r + 1) else scan K k c (r + 1)
def from_ (m : Nat) : List Nat → List Nat
  | [] => []
  | a :: c => if a = m then a :: c else from_ m c
def suf (pl : V → Nat) (g : G) (m : Nat) : List Nat := if g.K m = nil then [m] else from_ m (g.C (pl (g.K m)))
def find (pl : V → Nat) (g : G) (k : V) : Option Nat × Nat := scan g.K k (suf pl g (pl k)) 0

/-- The links. -/
def nx (i : Nat) : List Nat → Int
  | _ :: b :: _ => (b : Int) - i
  | _ => 0
def nxt (c : List Nat) (i : Nat) : Int := nx i (from_ i c)
def link (pl : V → Nat) (g : G) (i : Nat) : Int := if g.K i = nil then 0 else nxt (g.C (pl (g.K i))) i

/-- The free pointer's way. -/
def tf (K : Nat → V) : Nat → Option Nat
  | 0 => none
  | f + 1 => if K f = nil then some f else tf K f

def setX (g : G) (i : Nat) (v : V) : G := { g with X := upd g.X i v }
def ins0 (g : G) (m : Nat) (k v : V) : G := { g with K := upd g.K m k, X := upd g.X m v, C := upd g.C m [m] }
def ins1 (g : G) (m a : Nat) (k v : V) : G := { K := upd g.K a k, X := upd g.X a v, C := upd g.C m (m :: a :: (g.C m).tail), f := a }
def swp (m a : Nat) (j : Nat) : Nat := if j = m then a else j
def ins2 (g : G) (o m a : Nat) (k v : V) : G :=
  { K := upd (upd g.K a (g.K m)) m k, X := upd (upd g.X a (g.X m)) m v, C := upd (upd g.C o ((g.C o).map (swp m a))) m [m], f := a }

/-- The insertion of a key that no node holds: the part behind it, and whether there was room. -/
def ins (pl : V → Nat) (g : G) (k v : V) : G × Bool :=
  if g.K (pl k) = nil then (ins0 g (pl k) k v, true)
  else match tf g.K g.f with
    | none => ({ g with f := 0 }, false)
    | some a => if pl (g.K (pl k)) = pl k then (ins1 g (pl k) a k v, true) else (ins2 g (pl (g.K (pl k))) (pl k) a k v, true)

theorem from_split {m : Nat} {p q : List Nat} (h : m ∉ p) : from_ m (p ++ m :: q) = m :: q := by
  induction p with
  | nil => simp [from_]
  | cons a p ih =>
    simp only [List.mem_cons, not_or] at h
    simp only [List.cons_append, from_]
    rw [if_neg (fun e => h.1 e.symm), ih h.2]
theorem mem_split {m : Nat} {c : List Nat} (h : m ∈ c) : ∃ p q, c = p ++ m :: q ∧ m ∉ p := by
  induction c with
  | nil => cases h
  | cons a c ih =>
    by_cases e : a = m
    · exact ⟨[], c, by rw [e]; rfl, by simp⟩
    · rcases List.mem_cons.1 h with h | h
      · exact absurd h.symm e
      · obtain ⟨p, q, rfl, hp⟩ := ih h
        exact ⟨a :: p, q, rfl, by simp [hp]; exact fun x => e x.symm⟩
theorem nxt_split {i : Nat} {p q : List Nat} (h : i ∉ p) : nxt (p ++ i :: q) i = nx i (i :: q) := by rw [nxt, from_split h]

variable {z : Nat} {pl : V → Nat} {ok : V → Prop} {g : G}

/-- A chain's end piece, as the links lead along it. -/
def Lk (z : Nat) (_pl : V → Nat) (g : G) (l : List Nat) : Prop := (∃ m p, m < z ∧ g.C m = p ++ l) ∨ ∃ m, m < z ∧ g.K m = nil ∧ l = [m]

theorem Inv.lk_suf (h : Inv z pl ok g) (hpl : ∀ k, ok k → pl k < z) {m : Nat} (hm : m < z) : Lk z pl g (suf pl g m) ∧ ∃ c, suf pl g m = m :: c := by
  unfold suf
  by_cases e : g.K m = nil
  · rw [if_pos e]; exact ⟨.inr ⟨m, hm, e, rfl⟩, [], rfl⟩
  · rw [if_neg e]
    obtain ⟨p, q, hc, hp⟩ := mem_split (h.inC m hm e)
    rw [hc, from_split hp]
    have ho : pl (g.K m) < z := hpl _ ((h.key m hm).resolve_left e)
    exact ⟨.inl ⟨_, p, ho, hc⟩, q, rfl⟩
theorem Inv.lk_link (h : Inv z pl ok g) {i : Nat} {c : List Nat} (hl : Lk z pl g (i :: c)) : link pl g i = nx i (i :: c) := by
  rcases hl with ⟨m, p, hm, hc⟩ | ⟨m, hm, e, hc⟩
  · have hmem : i ∈ g.C m := by rw [hc]; simp
    obtain ⟨h1, h2, h3⟩ := h.cok m hm i hmem
    have hn := h.nd m hm
    rw [hc, List.nodup_append] at hn
    rw [link, if_neg h2, h3, hc, nxt_split (fun hp => hn.2.2 i hp i (by simp) rfl)]
  · obtain ⟨rfl, rfl⟩ : i = m ∧ c = [] := by simpa using hc
    rw [link, if_pos e]; rfl
theorem Inv.lk_lt (h : Inv z pl ok g) {i : Nat} {c : List Nat} (hl : Lk z pl g (i :: c)) : i < z := by
  rcases hl with ⟨m, p, hm, hc⟩ | ⟨m, hm, e, hc⟩
  · exact (h.cok m hm i (by rw [hc]; simp)).1
  · obtain ⟨rfl, rfl⟩ : i = m ∧ c = [] := by simpa using hc
    exact hm
theorem Inv.lk_tail (_ : Inv z pl ok g) {i b : Nat} {c : List Nat} (hl : Lk z pl g (i :: b :: c)) : Lk z pl g (b :: c) := by
  rcases hl with ⟨m, p, hm, hc⟩ | ⟨m, hm, e, hc⟩
  · exact .inl ⟨m, p ++ [i], hm, by rw [hc]; simp⟩
  · simp at hc
theorem Inv.lk_ne (h : Inv z pl ok g) {i b : Nat} {c : List Nat} (hl : Lk z pl g (i :: b :: c)) : i ≠ b := by
  rcases hl with ⟨m, p, hm, hc⟩ | ⟨m, hm, e, hc⟩
  · have hn := h.nd m hm
    rw [hc, List.nodup_append] at hn
    have := hn.2.1
    simp at this
    exact this.1.1
  · simp at hc

/-- A found node is one that holds the key; a key that is held is found. -/
theorem scan_some {K : Nat → V} {k : V} {l : List Nat} {r i n : Nat} (h : scan K k l r = (some i, n)) : K i = k ∧ i ∈ l ∧ r < n ∧ n ≤ r + l.length := by
  induction l generalizing r with
  | nil => simp [scan] at h
  | cons a l ih =>
    rw [scan] at h
    split at h
    · obtain ⟨rfl, rfl⟩ : a = i ∧ r + 1 = n := by simpa using h
      exact ⟨by assumption, by simp, by omega, by simp⟩
    · obtain ⟨h1, h2, h3, h4⟩ := ih h
      exact ⟨h1, by simp [h2], by omega, by simp; omega⟩
theorem scan_none {K : Nat → V} {k : V} {l : List Nat} {r n : Nat} (h : scan K k l r = (none, n)) : (∀ i, i ∈ l → K i ≠ k) ∧ n = r + l.length := by
  induction l generalizing r with
  | nil => simp [scan] at h; exact ⟨by simp, by simp [h]⟩
  | cons a l ih =>
    rw [scan] at h
    split at h
    · simp at h
    · obtain ⟨h1, h2⟩ := ih h
      exact ⟨fun i hi => by rcases List.mem_cons.1 hi with rfl | hi; assumption; exact h1 i hi, by simp; omega⟩
theorem scan_split {K : Nat → V} {k : V} {i : Nat} {p q : List Nat} (r : Nat) (hp : ∀ j, j ∈ p → K j ≠ k) (hi : K i = k) : scan K k (p ++ i :: q) r = (some i, r + p.length + 1) := by
  induction p generalizing r with
  | nil => simp [scan, hi]
  | cons a p ih =>
    simp only [List.cons_append, scan]
    rw [if_neg (hp a (by simp)), ih (r + 1) (fun j hj => hp j (by simp [hj]))]
    simp; omega

theorem Inv.suf_lt (h : Inv z pl ok g) (hpl : ∀ k, ok k → pl k < z) {m : Nat} (hm : m < z) : ∀ i, i ∈ suf pl g m → i < z := by
  unfold suf
  by_cases e : g.K m = nil
  · rw [if_pos e]; intro i hi; simp at hi; omega
  · rw [if_neg e]
    obtain ⟨p, q, hc, hp⟩ := mem_split (h.inC m hm e)
    have ho : pl (g.K m) < z := hpl _ ((h.key m hm).resolve_left e)
    rw [hc, from_split hp]
    exact fun i hi => (h.cok _ ho i (by rw [hc]; simp at hi ⊢; exact .inr hi)).1

/-- The whole chain is read where its own main position is. -/
theorem Inv.suf_own (h : Inv z pl ok g) {m : Nat} (hm : m < z) (hne : g.C m ≠ []) : suf pl g m = g.C m := by
  rcases h.hd m hm with e | ⟨t, e⟩
  · exact absurd e hne
  · have hc := h.cok m hm m (by rw [e]; simp)
    rw [suf, if_neg hc.2.1, hc.2.2, e, from_, if_pos rfl]

/-- Where a held key is found: at its node, behind as many reads as its place in the chain says. -/
theorem Inv.find_held (h : Inv z pl ok g) (hpl : ∀ k, ok k → pl k < z) {i : Nat} (hi : i < z) (hk : g.K i ≠ nil) :
    ∃ p q, g.C (pl (g.K i)) = p ++ i :: q ∧ i ∉ p ∧ find pl g (g.K i) = (some i, p.length + 1) := by
  have ho : pl (g.K i) < z := hpl _ ((h.key i hi).resolve_left hk)
  obtain ⟨p, q, hc, hp⟩ := mem_split (h.inC i hi hk)
  refine ⟨p, q, hc, hp, ?_⟩
  rw [find, h.suf_own ho (by rw [hc]; simp), hc, scan_split 0 _ rfl]
  · simp
  · intro j hj e
    have hj2 := h.cok _ ho j (by rw [hc]; simp [hj])
    have := h.one j i hj2.1 hi hj2.2.1 e
    exact hp (this ▸ hj)
theorem Inv.find_none (h : Inv z pl ok g) (hpl : ∀ k, ok k → pl k < z) {k : V} (hk : k ≠ nil) {n : Nat} (hf : find pl g k = (none, n)) : ∀ i, i < z → g.K i ≠ k := by
  intro i hi e
  obtain ⟨p, q, _, _, h2⟩ := h.find_held hpl hi (by rw [e]; exact hk)
  rw [e, hf] at h2
  cases h2
theorem Inv.find_some (h : Inv z pl ok g) (hpl : ∀ k, ok k → pl k < z) {k : V} (hk : ok k) {i n : Nat} (hf : find pl g k = (some i, n)) : g.K i = k ∧ i < z ∧ 0 < n := by
  obtain ⟨h1, h2, h3, _⟩ := scan_some hf
  exact ⟨h1, h.suf_lt hpl (hpl k hk) i h2, by omega⟩

theorem tf_some {K : Nat → V} {f a : Nat} (h : tf K f = some a) : a < f ∧ K a = nil ∧ ∀ i, a < i → i < f → K i ≠ nil := by
  induction f with
  | zero => cases h
  | succ f ih =>
    rw [tf] at h
    split at h
    · obtain rfl : f = a := by simpa using h
      exact ⟨by omega, by assumption, fun i h1 h2 => by omega⟩
    · obtain ⟨h1, h2, h3⟩ := ih h
      refine ⟨by omega, h2, fun i h4 h5 => ?_⟩
      by_cases e : i = f
      · rw [e]; assumption
      · exact h3 i h4 (by omega)
theorem tf_none {K : Nat → V} {f : Nat} (h : tf K f = none) : ∀ i, i < f → K i ≠ nil := by
  induction f with
  | zero => intro i hi; omega
  | succ f ih =>
    rw [tf] at h
    split at h
    · cases h
    · intro i hi
      by_cases e : i = f
      · rw [e]; assumption
      · exact ih h i (by omega)

/-- What each step keeps. -/
theorem Inv.setX (h : Inv z pl ok g) {i : Nat} (v : V) (hk : g.K i ≠ nil) : Inv z pl ok (setX g i v) :=
  ⟨h.key, fun j hj e => by
    have : j ≠ i := fun x => hk (x ▸ e)
    show upd g.X i v j = nil
    rw [upd_ne _ _ this]; exact h.val j hj e, h.cok, h.nd, h.hd, h.inC, h.one, h.fle, h.up⟩
theorem Inv.none (h : Inv z pl ok g) (ht : tf g.K g.f = none) : Inv z pl ok { g with f := 0 } :=
  ⟨h.key, h.val, h.cok, h.nd, h.hd, h.inC, h.one, by simp, fun i hi _ => by
    by_cases e : g.f ≤ i
    · exact h.up i hi e
    · exact tf_none ht i (by omega)⟩
theorem Inv.empty_chain (h : Inv z pl ok g) {m : Nat} (hm : m < z) (hb : g.K m = nil ∨ pl (g.K m) ≠ m) : g.C m = [] := by
  rcases h.hd m hm with e | ⟨t, e⟩
  · exact e
  · have hc := h.cok m hm m (by rw [e]; simp)
    rcases hb with hb | hb
    · exact absurd hb hc.2.1
    · exact absurd hc.2.2 hb
theorem Inv.ins0 (h : Inv z pl ok g) {k : V} (v : V) (hk : ok k) (hkn : k ≠ nil) (hm : pl k < z) (hnew : ∀ i, i < z → g.K i ≠ k) (he : g.K (pl k) = nil) : Inv z pl ok (ins0 g (pl k) k v) := by
  have hC := h.empty_chain hm (.inl he)
  generalize hM : pl k = m at *
  refine ⟨fun i hi => ?_, fun i hi e => ?_, fun o ho j hj => ?_, fun o ho => ?_, fun o ho => ?_, fun i hi e => ?_, fun i j hi hj e e2 => ?_, h.fle, fun i hi hf => ?_⟩ <;> simp only [Proofs.Ytbkgbojfjijalaa.ins0] at *
  · by_cases e : i = m
    · rw [e, upd_at]; exact .inr hk
    · rw [upd_ne _ _ e]; exact h.key i hi
  · by_cases e2 : i = m
    · rw [e2, upd_at] at e; exact absurd e hkn
    · rw [upd_ne _ _ e2] at e ⊢; exact h.val i hi e
  · by_cases e : o = m
    · rw [e, upd_at] at hj
      obtain rfl : j = m := by simpa using hj
      rw [upd_at]
      exact ⟨hm, hkn, by rw [hM, e]⟩
    · rw [upd_ne _ _ e] at hj
      obtain ⟨h1, h2, h3⟩ := h.cok o ho j hj
      have : j ≠ m := fun x => h2 (x ▸ he)
      rw [upd_ne _ _ this]; exact ⟨h1, h2, h3⟩
  · by_cases e : o = m
    · rw [e, upd_at]; simp
    · rw [upd_ne _ _ e]; exact h.nd o ho
  · by_cases e : o = m
    · rw [e, upd_at]; exact .inr ⟨[], rfl⟩
    · rw [upd_ne _ _ e]; exact h.hd o ho
  · by_cases e2 : i = m
    · rw [e2, upd_at, hM, upd_at]; simp
    · rw [upd_ne _ _ e2] at e ⊢
      have hin := h.inC i hi e
      have : pl (g.K i) ≠ m := fun x => by rw [x, hC] at hin; cases hin
      rw [upd_ne _ _ this]; exact hin
  · by_cases e3 : i = m <;> by_cases e4 : j = m
    · omega
    · rw [e3, upd_at, upd_ne _ _ e4] at e2; exact absurd e2.symm (hnew j hj)
    · rw [e4, upd_at, upd_ne _ _ e3] at e2; exact absurd e2 (hnew i hi)
    · rw [upd_ne _ _ e3] at e e2; rw [upd_ne _ _ e4] at e2; exact h.one i j hi hj e e2
  · by_cases e : i = m
    · rw [e, upd_at]; exact hkn
    · rw [upd_ne _ _ e]; exact h.up i hi hf
theorem Inv.ins1 (h : Inv z pl ok g) {k : V} {a : Nat} (v : V) (hk : ok k) (hkn : k ≠ nil) (hm : pl k < z) (hnew : ∀ i, i < z → g.K i ≠ k) (hne : g.K (pl k) ≠ nil) (hO : pl (g.K (pl k)) = pl k) (ht : tf g.K g.f = some a) :
    Inv z pl ok (ins1 g (pl k) a k v) := by
  obtain ⟨t1, t2, t3⟩ := tf_some ht
  have ha : a < z := Nat.lt_of_lt_of_le t1 h.fle
  have hin := h.inC _ hm hne
  rw [hO] at hin
  generalize hM : pl k = m at *
  obtain ⟨t, hC⟩ : ∃ t, g.C m = m :: t := by
    rcases h.hd m hm with e | e
    · rw [e] at hin; cases hin
    · exact e
  have ham : a ≠ m := fun x => hne (x ▸ t2)
  have hnotin : ∀ o, o < z → a ∉ g.C o := fun o ho hx => (h.cok o ho a hx).2.1 t2
  have hnd := h.nd m hm
  rw [hC] at hnd
  refine ⟨fun i hi => ?_, fun i hi e => ?_, fun o ho j hj => ?_, fun o ho => ?_, fun o ho => ?_, fun i hi e => ?_, fun i j hi hj e e2 => ?_, ?_, fun i hi hf => ?_⟩ <;> simp only [Proofs.Ytbkgbojfjijalaa.ins1] at *
  · by_cases e : i = a
    · rw [e, upd_at]; exact .inr hk
    · rw [upd_ne _ _ e]; exact h.key i hi
  · by_cases e2 : i = a
    · rw [e2, upd_at] at e; exact absurd e hkn
    · rw [upd_ne _ _ e2] at e ⊢; exact h.val i hi e
  · by_cases e : o = m
    · rw [e, upd_at, hC] at hj
      by_cases e2 : j = a
      · rw [e2, upd_at]; exact ⟨ha, hkn, by rw [hM, e]⟩
      · rw [upd_ne _ _ e2, e]
        exact h.cok m hm j (by rw [hC]; simp [e2] at hj ⊢; exact hj)
    · rw [upd_ne _ _ e] at hj
      have : j ≠ a := fun x => hnotin o ho (x ▸ hj)
      rw [upd_ne _ _ this]; exact h.cok o ho j hj
  · by_cases e : o = m
    · rw [e, upd_at, hC]
      have := hnotin m hm
      rw [hC] at this
      simp only [List.tail_cons, List.nodup_cons, List.mem_cons, not_or] at hnd this ⊢
      exact ⟨⟨fun x => ham x.symm, hnd.1⟩, this.2, hnd.2⟩
    · rw [upd_ne _ _ e]; exact h.nd o ho
  · by_cases e : o = m
    · rw [e, upd_at]; exact .inr ⟨_, rfl⟩
    · rw [upd_ne _ _ e]; exact h.hd o ho
  · by_cases e2 : i = a
    · rw [e2, upd_at, hM, upd_at]; simp
    · rw [upd_ne _ _ e2] at e ⊢
      have hin := h.inC i hi e
      by_cases e3 : pl (g.K i) = m
      · rw [e3, upd_at]
        rw [e3, hC] at hin
        rw [hC]
        simp at hin ⊢
        rcases hin with q | q
        · exact .inl q
        · exact .inr (.inr q)
      · rw [upd_ne _ _ e3]; exact hin
  · by_cases e3 : i = a <;> by_cases e4 : j = a
    · omega
    · rw [e3, upd_at, upd_ne _ _ e4] at e2; exact absurd e2.symm (hnew j hj)
    · rw [e4, upd_at, upd_ne _ _ e3] at e2; exact absurd e2 (hnew i hi)
    · rw [upd_ne _ _ e3] at e e2; rw [upd_ne _ _ e4] at e2; exact h.one i j hi hj e e2
  · omega
  · by_cases e : i = a
    · rw [e, upd_at]; exact hkn
    · rw [upd_ne _ _ e]
      by_cases e2 : g.f ≤ i
      · exact h.up i hi e2
      · exact t3 i (by omega) (by omega)
theorem mem_swp {m a j : Nat} {c : List Nat} (h : j ∈ c.map (swp m a)) : (j = a ∧ m ∈ c) ∨ (j ∈ c ∧ j ≠ m) := by
  obtain ⟨x, hx, rfl⟩ := List.mem_map.1 h
  unfold swp
  by_cases e : x = m
  · rw [if_pos e]; exact .inl ⟨rfl, e ▸ hx⟩
  · rw [if_neg e]; exact .inr ⟨hx, e⟩
theorem swp_nd {m a : Nat} {c : List Nat} (h : c.Nodup) (ha : a ∉ c) : (c.map (swp m a)).Nodup := by
  induction c with
  | nil => simp
  | cons x c ih =>
    simp only [List.map_cons, List.nodup_cons, List.mem_cons, not_or] at h ha ⊢
    refine ⟨fun hx => ?_, ih h.2 ha.2⟩
    rcases mem_swp hx with ⟨e, hm⟩ | ⟨hy, hne⟩
    · by_cases e2 : x = m
      · exact h.1 (e2 ▸ hm)
      · rw [swp, if_neg e2] at e; exact ha.1 e.symm
    · by_cases e2 : x = m
      · rw [swp, if_pos e2] at hy; exact ha.2 hy
      · rw [swp, if_neg e2] at hy; exact h.1 hy
theorem Inv.ins2 (h : Inv z pl ok g) (hpl : ∀ k, ok k → pl k < z) {k : V} {a : Nat} (v : V) (hk : ok k) (hkn : k ≠ nil) (hm : pl k < z) (hnew : ∀ i, i < z → g.K i ≠ k) (hne : g.K (pl k) ≠ nil) (hO : pl (g.K (pl k)) ≠ pl k) (ht : tf g.K g.f = some a) :
    Inv z pl ok (ins2 g (pl (g.K (pl k))) (pl k) a k v) := by
  obtain ⟨t1, t2, t3⟩ := tf_some ht
  have ha : a < z := Nat.lt_of_lt_of_le t1 h.fle
  have hin := h.inC _ hm hne
  have hkm := (h.key _ hm).resolve_left hne
  have hCm := h.empty_chain hm (.inr hO)
  generalize hM : pl k = m at *
  have ho : pl (g.K m) < z := hpl _ hkm
  generalize hOo : pl (g.K m) = o at *
  have ham : a ≠ m := fun x => hne (x ▸ t2)
  have hnotin : ∀ q, q < z → a ∉ g.C q := fun q hq hx => (h.cok q hq a hx).2.1 t2
  obtain ⟨t, hCo⟩ : ∃ t, g.C o = o :: t := by
    rcases h.hd o ho with e | e
    · rw [e] at hin; cases hin
    · exact e
  refine ⟨fun i hi => ?_, fun i hi e => ?_, fun q hq j hj => ?_, fun q hq => ?_, fun q hq => ?_, fun i hi e => ?_, fun i j hi hj e e2 => ?_, ?_, fun i hi hf => ?_⟩ <;> simp only [Proofs.Ytbkgbojfjijalaa.ins2] at *
  · by_cases e : i = m
    · rw [e, upd_at]; exact .inr hk
    · rw [upd_ne _ _ e]
      by_cases e2 : i = a
      · rw [e2, upd_at]; exact .inr hkm
      · rw [upd_ne _ _ e2]; exact h.key i hi
  · by_cases e2 : i = m
    · rw [e2, upd_at] at e; exact absurd e hkn
    · rw [upd_ne _ _ e2] at e ⊢
      by_cases e3 : i = a
      · rw [e3, upd_at] at e; exact absurd e hne
      · rw [upd_ne _ _ e3] at e ⊢; exact h.val i hi e
  · by_cases e : q = m
    · rw [e, upd_at] at hj
      obtain rfl : j = m := by simpa using hj
      rw [upd_at]; exact ⟨hm, hkn, by rw [hM, e]⟩
    · rw [upd_ne _ _ e] at hj
      by_cases e2 : q = o
      · rw [e2, upd_at] at hj
        rcases mem_swp hj with ⟨e3, _⟩ | ⟨hj2, hjm⟩
        · rw [e3, upd_ne _ _ ham, upd_at]; exact ⟨ha, hne, by rw [hOo, e2]⟩
        · have hc := h.cok o ho j hj2
          have : j ≠ a := fun x => hc.2.1 (x ▸ t2)
          rw [upd_ne _ _ hjm, upd_ne _ _ this, e2]; exact hc
      · rw [upd_ne _ _ e2] at hj
        have hc := h.cok q hq j hj
        have n1 : j ≠ a := fun x => hc.2.1 (x ▸ t2)
        have n2 : j ≠ m := fun x => e2 (by rw [← hc.2.2, x, hOo])
        rw [upd_ne _ _ n2, upd_ne _ _ n1]; exact hc
  · by_cases e : q = m
    · rw [e, upd_at]; simp
    · rw [upd_ne _ _ e]
      by_cases e2 : q = o
      · rw [e2, upd_at]; exact swp_nd (h.nd o ho) (hnotin o ho)
      · rw [upd_ne _ _ e2]; exact h.nd q hq
  · by_cases e : q = m
    · rw [e, upd_at]; exact .inr ⟨_, rfl⟩
    · rw [upd_ne _ _ e]
      by_cases e2 : q = o
      · rw [e2, upd_at, hCo]; exact .inr ⟨_, by rw [List.map_cons, swp, if_neg hO]⟩
      · rw [upd_ne _ _ e2]; exact h.hd q hq
  · by_cases e2 : i = m
    · rw [e2, upd_at, hM, upd_at]; simp
    · rw [upd_ne _ _ e2] at e ⊢
      by_cases e3 : i = a
      · rw [e3, upd_at, hOo, upd_ne _ _ hO, upd_at]
        exact List.mem_map.2 ⟨m, hin, by rw [swp, if_pos rfl]⟩
      · rw [upd_ne _ _ e3] at e ⊢
        have hi2 := h.inC i hi e
        have n1 : pl (g.K i) ≠ m := fun x => by rw [x, hCm] at hi2; cases hi2
        rw [upd_ne _ _ n1]
        by_cases e4 : pl (g.K i) = o
        · rw [e4, upd_at]
          rw [e4] at hi2
          exact List.mem_map.2 ⟨i, hi2, by rw [swp, if_neg e2]⟩
        · rw [upd_ne _ _ e4]; exact hi2
  · have key : ∀ x, x < z → x ≠ m → upd g.K a (g.K m) x ≠ k := fun x hx hxm => by
      by_cases e5 : x = a
      · rw [e5, upd_at]; exact hnew m hm
      · rw [upd_ne _ _ e5]; exact hnew x hx
    by_cases e3 : i = m <;> by_cases e4 : j = m
    · omega
    · rw [e3, upd_at, upd_ne _ _ e4] at e2; exact absurd e2.symm (key j hj e4)
    · rw [e4, upd_at, upd_ne _ _ e3] at e2; exact absurd e2 (key i hi e3)
    · rw [upd_ne _ _ e3] at e e2; rw [upd_ne _ _ e4] at e2
      by_cases e5 : i = a <;> by_cases e6 : j = a
      · omega
      · rw [e5, upd_at, upd_ne _ _ e6] at e2
        exact absurd (h.one m j hm hj hne e2) (fun x => e4 x.symm)
      · rw [e6, upd_at, upd_ne _ _ e5] at e2; rw [upd_ne _ _ e5] at e
        exact absurd (h.one i m hi hm e e2) e3
      · rw [upd_ne _ _ e5] at e e2; rw [upd_ne _ _ e6] at e2; exact h.one i j hi hj e e2
  · omega
  · by_cases e : i = m
    · rw [e, upd_at]; exact hkn
    · rw [upd_ne _ _ e]
      by_cases e3 : i = a
      · rw [e3, upd_at]; exact hne
      · rw [upd_ne _ _ e3]
        by_cases e2 : g.f ≤ i
        · exact h.up i hi e2
        · exact t3 i (by omega) (by omega)
end Go.Proofs.Ytbkgbojfjijalaa
