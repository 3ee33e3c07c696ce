/- The law BoxOrders: the cases joined. -/
import Derived.Test.YtimmoecjfkacpaaDoorOrdersB
import Derived.Test.YtimmoecjfkacpaaDoorOrdersC
namespace Go.Proofs.YtimmoecjfkacpaaDoor
open Go.RowKit

theorem toList_inj {x y : ByteArray} (h : x.toList = y.toList) : x = y := by
  rcases x with ⟨x⟩; rcases y with ⟨y⟩
  have e1 : (ByteArray.mk x).toList = x.toList := ByteArray.toList_eq _
  have e2 : (ByteArray.mk y).toList = y.toList := ByteArray.toList_eq _
  rw [e1, e2] at h
  congr 1
  exact Array.toList_inj.1 h
theorem same_eq (a b : Bx) (h : a.same b = true) : a = b := by
  unfold Bx.same at h
  have h := of_decide_eq_true h
  rcases a with _ | (_ | _) | x | x | x | x | x <;> rcases b with _ | (_ | _) | y | y | y | y | y <;> simp [Bx.kind, Bx.num, Bx.txt, bi] at h ⊢ <;> exact h
theorem same_refl (a : Bx) : a.same a = true := decide_eq_true ⟨rfl, rfl, rfl⟩
theorem same_symm (a b : Bx) : b.same a = a.same b := by
  cases h : a.same b
  · cases h' : b.same a
    · rfl
    · rw [same_eq _ _ h', same_refl] at h; cases h
  · rw [same_eq _ _ h, same_refl]

theorem cI_tri (x y : Int) : cI x y = -1 ∨ cI x y = 0 ∨ cI x y = 1 := by
  unfold cI
  by_cases h : x < y
  · rw [if_pos h]; exact Or.inl rfl
  · rw [if_neg h]
    by_cases h' : y < x
    · rw [if_pos h']; exact Or.inr (Or.inr rfl)
    · rw [if_neg h']; exact Or.inr (Or.inl rfl)
theorem cI_neg (x y : Int) : cI y x = - cI x y := by unfold cI; repeat' split; all_goals first | rfl | omega
theorem cI_zero (x y : Int) (h : cI x y = 0) : x = y := by revert h; unfold cI; repeat' split; all_goals (intro h; first | cases h | omega)
theorem cI_trans (x y z : Int) (h : cI x y = -1) (h' : cI y z = -1) : cI x z = -1 := by revert h h'; unfold cI; repeat' split; all_goals (intro h h'; first | rfl | omega)
theorem cS_tri (x y : ByteArray) : cS x y = -1 ∨ cS x y = 0 ∨ cS x y = 1 := by
  unfold cS
  by_cases h : ltS x y = true
  · rw [if_pos h]; exact Or.inl rfl
  · rw [if_neg h]
    by_cases h' : (x.toList == y.toList) = true
    · rw [if_pos h']; exact Or.inr (Or.inl rfl)
    · rw [if_neg h']; exact Or.inr (Or.inr rfl)
theorem cS_refl (x : ByteArray) : cS x x = 0 := by unfold cS ltS; rw [less_irr]; simp
theorem cS_lt (x y : ByteArray) : cS x y = -1 ↔ ltS x y = true := by
  unfold cS
  constructor
  · intro h; by_cases hl : ltS x y = true
    · exact hl
    · rw [if_neg hl] at h; split at h <;> cases h
  · intro h; rw [if_pos h]
theorem cS_zero (x y : ByteArray) (h : cS x y = 0) : x = y := by
  unfold cS at h
  by_cases hl : ltS x y = true
  · rw [if_pos hl] at h; cases h
  · rw [if_neg hl] at h
    by_cases he : (x.toList == y.toList) = true
    · exact toList_inj (by simpa using he)
    · rw [if_neg he] at h; cases h
theorem cS_neg (x y : ByteArray) : cS y x = - cS x y := by
  by_cases he : x = y
  · subst he; rw [cS_refl]; rfl
  · have hne : x.toList ≠ y.toList := fun e => he (toList_inj e)
    have hne' : y.toList ≠ x.toList := fun e => hne e.symm
    cases h : ltS x y
    · have h2 : ltS y x = true := less_tri _ _ h hne
      unfold cS; simp [h, h2, hne]
    · have h2 : ltS y x = false := less_asym _ _ h
      unfold cS; simp [h, h2, hne']
theorem cS_trans (x y z : ByteArray) (h : cS x y = -1) (h' : cS y z = -1) : cS x z = -1 :=
  (cS_lt _ _).2 (less_trans _ _ _ ((cS_lt _ _).1 h) ((cS_lt _ _).1 h'))

theorem ordE_two (a b : Bx) : a.ordE b = 0 ∨ (a.ordE b = 8 ∧ a.ord b = 0) := by
  cases a <;> cases b <;> first | exact Or.inl rfl | exact Or.inr ⟨rfl, rfl⟩
theorem ordE_symm (a b : Bx) : b.ordE a = a.ordE b := by cases a <;> cases b <;> rfl
theorem ord_neg (a b : Bx) : b.ord a = - a.ord b := by
  cases a <;> cases b <;> first | rfl | exact cI_neg _ _ | exact cS_neg _ _
theorem ord_tri (a b : Bx) : a.ord b = -1 ∨ a.ord b = 0 ∨ a.ord b = 1 := by
  cases a <;> cases b <;> first | exact Or.inr (Or.inl rfl) | exact cI_tri _ _ | exact cS_tri _ _
theorem ord_same (a b : Bx) (he : a.ordE b = 0) (h : a.ord b = 0) : a.same b = true := by
  cases a <;> cases b <;> first
    | (cases he; done)
    | (rename_i x y; obtain rfl : x = y := cI_zero _ _ h; exact same_refl _)
    | (rename_i x y; obtain rfl : x = y := cS_zero _ _ h; exact same_refl _)
theorem ord_refl (a : Bx) : a.ord a = 0 := by have := ord_neg a a; omega
theorem ord_diff (a b : Bx) (h : a.ord b ≠ 0) : a.same b = false := by
  cases hs : a.same b
  · rfl
  · rw [same_eq _ _ hs, ord_refl] at h; exact absurd rfl h
theorem ordE_trans (a b c : Bx) (h : a.ordE b = 0) (h' : b.ordE c = 0) : a.ordE c = 0 := by
  cases a <;> cases b <;> first
    | (cases h; done)
    | (cases c <;> first | (cases h'; done) | rfl)
theorem ord_trans (a b c : Bx) (h : a.ord b = -1) (h' : b.ord c = -1) : a.ord c = -1 := by
  cases a <;> cases b <;> first
    | (cases h; done)
    | (cases c <;> first | (cases h'; done) | exact cI_trans _ _ _ h h' | exact cS_trans _ _ _ h h')

set_option maxRecDepth 20000 in
theorem orders_in (a b c : Bx) (ha : a.ok) (hb : b.ok) (hc : c.ok)
    (P0 : ∀ w, Calls Tryd.prog 15 #[vl a.kind a.num a.txt] w fun e w' => e = .returned (.int .i64 0) ∧ Below w.heap.size w w')
    (P1 : ∀ w, Calls Tryd.prog 15 #[vl b.kind b.num b.txt] w fun e w' => e = .returned (.int .i64 0) ∧ Below w.heap.size w w')
    (P2 : ∀ w, Calls Tryd.prog 15 #[vl c.kind c.num c.txt] w fun e w' => e = .returned (.int .i64 0) ∧ Below w.heap.size w w')
    (w : World) (htab : Tab w) : Calls Tryd.prog 6 #[vl a.kind a.num a.txt, vl b.kind b.num b.txt, vl c.kind c.num c.txt] w fun e w' => e = .returned (.bool true) ∧ Below w.heap.size w w' := by
  have S1 := same_ok a a ha ha
  have S2 := same_ok a b ha hb
  have S3 := same_ok b a hb ha
  have S4 := same_ok b c hb hc
  have S5 := same_ok a c ha hc
  have O1 := order_ok a b ha hb
  have O2 := order_ok b a hb ha
  have O3 := order_ok b c hb hc
  have O4 := order_ok a c ha hc
  have T := ord_trans a b c
  have TE := ordE_trans a b c
  have Z1 := ord_same a b
  have Z2 := ord_same b c
  have D1 := ord_diff a b
  have Q1 := same_eq a b
  have Q2 := same_eq b c
  have U1 := ordE_two a b
  have U2 := ordE_two b c
  have X1 := ord_tri a b
  have X2 := ord_tri b c
  rw [same_refl] at S1
  rw [same_symm a b] at S3
  rw [ordE_symm a b, ord_neg a b] at O2
  unfold Bx.val at S1 S2 S3 S4 S5 O1 O2 O3 O4
  rcases U1 with he | ⟨he, hx⟩
  · rcases X1 with hx | hx | hx
    · -- less
      rw [D1 (by rw [hx]; decide)] at S2 S3
      rw [he, hx] at O1 O2
      rcases U2 with hg | ⟨hg, -⟩
      · rw [TE he hg] at O4
        rw [hg] at O3
        rcases X2 with hz | hz | hz
        · rw [T hx hz] at O4
          rw [hz] at O3
          exact orders_fmm _ _ _ _ _ _ _ _ _ _ _ P0 P1 P2 S1 S2 S3 S4 S5 O1 O2 O3 O4 w htab
        · have e := Q2 (Z2 hg hz)
          have hv : a.ord c = -1 := by rw [← e]; exact hx
          rw [hv] at O4
          rw [hz] at O3
          exact orders_fmz _ _ _ _ _ _ _ _ _ _ _ P0 P1 P2 S1 S2 S3 S4 S5 O1 O2 O3 O4 w htab
        · rw [hz] at O3
          exact orders_fmp _ _ _ _ _ _ _ _ _ _ _ _ P0 P1 P2 S1 S2 S3 S4 S5 O1 O2 O3 O4 w htab
      · rw [hg] at O3
        exact orders_gm _ _ _ _ _ _ _ _ _ _ _ _ _ _ P0 P1 P2 S1 S2 S3 S4 S5 O1 O2 O3 O4 w htab
    · -- alike
      have hs := Z1 he hx
      have e := Q1 hs
      have h5 : a.same c = b.same c := by rw [e]
      have h6 : a.ord c = b.ord c := by rw [e]
      rw [hs] at S2 S3
      rw [h5] at S5
      rw [h6] at O4
      rw [he, hx] at O1 O2
      rcases U2 with hg | ⟨hg, -⟩
      · rw [TE he hg] at O4
        rw [hg] at O3
        rcases X2 with hz | hz | hz
        · rw [hz] at O3 O4
          exact orders_fzm _ _ _ _ _ _ _ _ _ _ P0 P1 P2 S1 S2 S3 S4 S5 O1 O2 O3 O4 w htab
        · rw [hz] at O3 O4
          exact orders_fzz _ _ _ _ _ _ _ _ _ _ P0 P1 P2 S1 S2 S3 S4 S5 O1 O2 O3 O4 w htab
        · rw [hz] at O3
          exact orders_fzp _ _ _ _ _ _ _ _ _ _ _ P0 P1 P2 S1 S2 S3 S4 S5 O1 O2 O3 O4 w htab
      · rw [hg] at O3
        exact orders_gz _ _ _ _ _ _ _ _ _ _ _ _ _ P0 P1 P2 S1 S2 S3 S4 S5 O1 O2 O3 O4 w htab
    · -- more
      rw [D1 (by rw [hx]; decide)] at S2 S3
      rw [he, hx] at O1 O2
      rcases U2 with hg | ⟨hg, -⟩
      · rw [TE he hg] at O4
        rw [hg] at O3
        exact orders_fp _ _ _ _ _ _ _ _ _ _ _ _ _ P0 P1 P2 S1 S2 S3 S4 S5 O1 O2 O3 O4 w htab
      · rw [hg] at O3
        exact orders_gp _ _ _ _ _ _ _ _ _ _ _ _ _ _ P0 P1 P2 S1 S2 S3 S4 S5 O1 O2 O3 O4 w htab
  · rw [he, hx] at O1 O2
    cases hs : a.same b
    · rw [hs] at S2 S3
      exact orders_nf _ _ _ _ _ _ _ _ _ _ _ _ _ _ _ P0 P1 P2 S1 S2 S3 S4 S5 O1 O2 O3 O4 w htab
    · have e := Q1 hs
      have h5 : a.same c = b.same c := by rw [e]
      rw [hs] at S2 S3
      rw [h5] at S5
      exact orders_nt _ _ _ _ _ _ _ _ _ _ _ _ _ _ P0 P1 P2 S1 S2 S3 S4 S5 O1 O2 O3 O4 w htab

theorem orders_walk (ka na : Int) (sa : ByteArray) (kb nb : Int) (sb : ByteArray) (kc nc : Int) (sc : ByteArray) (w : World) (ha0 : -9223372036854775808 ≤ na) (ha1 : na ≤ 9223372036854775807) (hb0 : -9223372036854775808 ≤ nb) (hb1 : nb ≤ 9223372036854775807) (hc0 : -9223372036854775808 ≤ nc) (hc1 : nc ≤ 9223372036854775807) (htab : Tab w) : Calls Tryd.prog 6 #[vl ka na sa, vl kb nb sb, vl kc nc sc] w fun e w' => e = .returned (.bool true) ∧ Below w.heap.size w w' := by
  have P0 := check_b ka na sa
  have R0 := rcheck_b ka na sa
  have P1 := check_b kb nb sb
  have R1 := rcheck_b kb nb sb
  have P2 := check_b kc nc sc
  have R2 := rcheck_b kc nc sc
  cases hA : inF ka na sa
  · have e : chk ka na sa = 2 := by simp [chk, hA]
    rw [e] at P0 R0
    exact orders_r0 ka na sa kb nb sb kc nc sc P0 R0 w htab
  · have e : chk ka na sa = 0 := by simp [chk, hA]
    rw [e] at P0 R0
    cases hB : inF kb nb sb
    · have e : chk kb nb sb = 2 := by simp [chk, hB]
      rw [e] at P1 R1
      exact orders_r1 ka na sa kb nb sb kc nc sc P0 P1 R0 R1 w htab
    · have e : chk kb nb sb = 0 := by simp [chk, hB]
      rw [e] at P1 R1
      cases hC : inF kc nc sc
      · have e : chk kc nc sc = 2 := by simp [chk, hC]
        rw [e] at P2 R2
        exact orders_r2 ka na sa kb nb sb kc nc sc P0 P1 P2 R0 R1 R2 w htab
      · have e : chk kc nc sc = 0 := by simp [chk, hC]
        rw [e] at P2 R2
        obtain ⟨a, ha, rfl, rfl, rfl⟩ := form_of ka na sa ha0 ha1 hA
        obtain ⟨b, hb, rfl, rfl, rfl⟩ := form_of kb nb sb hb0 hb1 hB
        obtain ⟨c, hc, rfl, rfl, rfl⟩ := form_of kc nc sc hc0 hc1 hC
        exact orders_in a b c ha hb hc P0 P1 P2 w htab

end Go.Proofs.YtimmoecjfkacpaaDoor
