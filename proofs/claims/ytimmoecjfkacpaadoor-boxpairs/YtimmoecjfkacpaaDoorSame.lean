/- The walks of Same and of the two Compares; the order of texts, byte by byte. -/
import Derived.Test.YtimmoecjfkacpaaDoorEq
namespace Go.Proofs.YtimmoecjfkacpaaDoor
open Go.RowKit

/-- Are the values equal? -/
def Bx.same (a b : Bx) : Bool := decide (a.kind = b.kind ∧ a.num = b.num ∧ a.txt = b.txt)
theorem eq57d (x y : ByteArray) (w : World) : (binOp .eql 20 (.iface 57 (.string x)) (.iface 57 (.string y))).run Tryd.prog w = .ok (.bool (decide (x = y))) w := by
  refine (eq57 x y w).trans ?_
  congr 2
  show (x.data == y.data) = _
  by_cases h : x = y
  · subst h; simp
  · have : ¬ x.data = y.data := fun e => h (by cases x; cases y; simp at e; rw [e])
    simp [h, this]
theorem kinds_ne (a b : Bx) (h : a.ty ≠ b.ty) : a.same b = false := by
  unfold Bx.same
  apply decide_eq_false
  intro ⟨h1, _⟩
  apply h
  revert h1
  cases a <;> cases b <;> simp [Bx.kind, Bx.ty]
theorem eqB (a b : Bx) (w : World) : (binOp .eql 20 a.box b.box).run Tryd.prog w = .ok (.bool (a.same b)) w := by
  by_cases h : a.ty = b.ty
  · rcases a with _ | x | x | x | x | x | x <;> rcases b with _ | y | y | y | y | y | y <;> first | (exfalso; revert h; simp [Bx.ty]; done) | skip
    · exact eq54 w
    · refine (eq55 _ _ w).trans ?_; congr 2; cases x <;> cases y <;> simp [Bx.same, Bx.kind, Bx.num, Bx.txt, bi]
    · refine (eq56 _ _ w).trans ?_; congr 2; simp only [Bx.same, Bx.kind, Bx.num, Bx.txt, true_and, and_true]; rfl
    · refine (eq57d _ _ w).trans ?_; congr 2; simp only [Bx.same, Bx.kind, Bx.num, Bx.txt, true_and]
    · refine (eq58 _ _ w).trans ?_; congr 2; simp only [Bx.same, Bx.kind, Bx.num, Bx.txt, true_and, and_true]; rfl
    · refine (eq59 _ _ w).trans ?_; congr 2; simp only [Bx.same, Bx.kind, Bx.num, Bx.txt, true_and, and_true]; rfl
    · refine (eq60 _ _ w).trans ?_; congr 2; simp only [Bx.same, Bx.kind, Bx.num, Bx.txt, true_and, and_true]; rfl
  · rw [kinds_ne a b h, box_eq, box_eq]
    exact eqNe _ _ _ _ h w

set_option maxHeartbeats 600000 in
theorem same_ok (a b : Bx) (ha : a.ok) (hb : b.ok) (w : World) : Calls Tryd.prog 24 #[a.val, b.val] w fun e w' => e = .returned (.tuple #[.bool (a.same b), .int .i64 0]) ∧ Below w.heap.size w w' := by
  have C1 := both_ok a b ha hb
  have E := eqB a b
  clear ha hb
  unfold Bx.val vl at *
  rw [box_eq a, box_eq b] at C1 E
  generalize a.ty = ta at *
  generalize b.ty = tb at *
  generalize a.in = va at *
  generalize b.in = vb' at *
  generalize a.same b = r at *
  go_enter Tryd.func24, Tryd.ntmps24
  go_wp2_with fail
  refine (C1 _).mono ?_; rintro e w1 ⟨rfl, hb1⟩
  go_wp2_with fail
  go_ret2
  exact ⟨rfl, bthen (b2 _ _ _) (by simp; omega) hb1⟩

set_option maxHeartbeats 600000 in
theorem same_bad (k n : Int) (s : ByteArray) (k' n' : Int) (s' : ByteArray) (h0 : -9223372036854775808 ≤ n) (h1 : n ≤ 9223372036854775807) (h : (inF k n s && inF k' n' s') = false) (w : World) :
    Calls Tryd.prog 24 #[vl k n s, vl k' n' s'] w fun e w' => e = .returned (.tuple #[.bool false, .int .i64 2]) ∧ Below w.heap.size w w' := by
  have C1 := both_bad k n s k' n' s' h0 h1 h
  clear h0 h1 h
  unfold vl at *
  go_enter Tryd.func24, Tryd.ntmps24
  go_wp2_with fail
  refine (C1 _).mono ?_; rintro e w1 ⟨rfl, hb1⟩
  go_wp2_with fail
  go_ret2
  exact ⟨rfl, bthen (b2 _ _ _) (by simp; omega) hb1⟩

/-- Which is less? -/
def cI (x y : Int) : Int := if x < y then -1 else if y < x then 1 else 0
set_option maxHeartbeats 600000 in
theorem cmpN (x y : Int) (w : World) : Calls Tryd.prog 42 #[.int .i64 x, .int .i64 y] w fun e w' => e = .returned (.int .i64 (cI x y)) ∧ w' = w := by
  go_enter Tryd.func42, Tryd.ntmps42
  go_wp2
  all_goals (go_ret; exact ⟨ret1 (by unfold cI; repeat' split; all_goals first | rfl | omega), rfl⟩)

/-- Is the text ahead of the other, byte by byte? -/
def ltS (s t : ByteArray) : Bool := Op.bytesLess s.toList t.toList
def cS (s t : ByteArray) : Int := if ltS s t = true then -1 else if (s.toList == t.toList) = true then 0 else 1
set_option maxHeartbeats 600000 in
theorem cmpT (x y : ByteArray) (w : World) : Calls Tryd.prog 43 #[.string x, .string y] w fun e w' => e = .returned (.int .i64 (cS x y)) ∧ w' = w := by
  unfold cS ltS
  cases h1 : Op.bytesLess x.toList y.toList
  · cases h2 : (x.toList == y.toList)
    · go_enter Tryd.func43, Tryd.ntmps43
      go_wp2
      go_ret
      exact ⟨rfl, rfl⟩
    · go_enter Tryd.func43, Tryd.ntmps43
      go_wp2
      go_ret
      exact ⟨rfl, rfl⟩
  · go_enter Tryd.func43, Tryd.ntmps43
    go_wp2
    go_ret
    exact ⟨rfl, rfl⟩

/-- What Order answers for two values in form. -/
def Bx.ordE : Bx → Bx → Int
  | .int _, .int _ => 0
  | .str _, .str _ => 0
  | _, _ => 8
def Bx.ord : Bx → Bx → Int
  | .int x, .int y => cI x y
  | .str x, .str y => cS x y
  | _, _ => 0

theorem less_irr (l : List UInt8) : Op.bytesLess l l = false := by
  induction l with
  | nil => rfl
  | cons c l ih => simp [Op.bytesLess, ih]
theorem less_tri (l : List UInt8) : ∀ m, Op.bytesLess l m = false → l ≠ m → Op.bytesLess m l = true := by
  induction l with
  | nil =>
    intro m h hne
    cases m with
    | nil => exact absurd rfl hne
    | cons d m => simp [Op.bytesLess] at h
  | cons c l ih =>
    intro m h hne
    cases m with
    | nil => rfl
    | cons d m =>
      simp only [Op.bytesLess, Bool.or_eq_false_iff, decide_eq_false_iff_not] at h
      simp only [Op.bytesLess, Bool.or_eq_true, decide_eq_true_eq, Bool.and_eq_true, beq_iff_eq]
      by_cases hcd : c = d
      · subst hcd
        right
        refine ⟨rfl, ih m (by simpa using h.2) (fun e => hne (by rw [e]))⟩
      · left
        have h1 := h.1
        rw [UInt8.lt_iff_toNat_lt] at h1 ⊢
        have : c.toNat ≠ d.toNat := fun e => hcd (UInt8.toNat_inj.1 e)
        omega
theorem less_asym (l : List UInt8) : ∀ m, Op.bytesLess l m = true → Op.bytesLess m l = false := by
  induction l with
  | nil =>
    intro m h
    cases m with
    | nil => rfl
    | cons d m => rfl
  | cons c l ih =>
    intro m h
    cases m with
    | nil => simp [Op.bytesLess] at h
    | cons d m =>
      simp only [Op.bytesLess, Bool.or_eq_true, decide_eq_true_eq, Bool.and_eq_true, beq_iff_eq] at h
      simp only [Op.bytesLess, Bool.or_eq_false_iff, decide_eq_false_iff_not]
      rcases h with h | ⟨h, h2⟩
      · rw [UInt8.lt_iff_toNat_lt] at h
        refine ⟨by rw [UInt8.lt_iff_toNat_lt]; omega, ?_⟩
        have : ¬ d = c := fun e => by rw [e] at h; omega
        simp [this]
      · subst h
        refine ⟨by rw [UInt8.lt_iff_toNat_lt]; omega, by simp [ih m h2]⟩
theorem less_trans (l : List UInt8) : ∀ m k, Op.bytesLess l m = true → Op.bytesLess m k = true → Op.bytesLess l k = true := by
  induction l with
  | nil =>
    intro m k h1 h2
    cases k with
    | nil => cases m <;> simp [Op.bytesLess] at h2
    | cons e k => rfl
  | cons c l ih =>
    intro m k h1 h2
    cases m with
    | nil => simp [Op.bytesLess] at h1
    | cons d m =>
      cases k with
      | nil => simp [Op.bytesLess] at h2
      | cons e k =>
        simp only [Op.bytesLess, Bool.or_eq_true, decide_eq_true_eq, Bool.and_eq_true, beq_iff_eq] at h1 h2 ⊢
        rw [UInt8.lt_iff_toNat_lt] at h1 h2 ⊢
        rcases h1 with h1 | ⟨h1, h1'⟩
        · rcases h2 with h2 | ⟨h2, h2'⟩
          · left; omega
          · left; rw [← h2]; exact h1
        · rcases h2 with h2 | ⟨h2, h2'⟩
          · left; rw [h1]; exact h2
          · right; exact ⟨h1.trans h2, ih m k h1' h2'⟩

end Go.Proofs.YtimmoecjfkacpaaDoor
