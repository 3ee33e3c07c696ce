/- The small functions by what a token reads; closes, binding, target. -/
import Derived.Test.YtmejlldabdjpjaaGreatCg02
import Derived.Deep.AppendLies
namespace Go.Proofs.YtmejlldabdjpjaaGreat
open Go.RowKit
set_option maxRecDepth 20000
theorem rd_ne {t : Tok} {w : List UInt8} (hv : rd t w = true) : cls t ≠ 56 := by
  intro e
  have h6 : t.k = 6 := cls_kind t 56 e (by omega)
  simp [rd, h6] at hv
section
variable (b m : Nat) (T l : List Tok) (t : Tok) (W : World) (w : List UInt8) (h : PS b m T (t :: l) W)
include h
theorem is_v {v : Bool} (hv : rd t w = v) : Calls Tryz.prog 88 #[.pointer (some ⟨b, 0, none⟩), .string ⟨w.toArray⟩] W fun e w' => e = .returned (.bool v) ∧ Below W.heap.size W w' := by
  rw [← hv]; exact is_any b m T l t w W h
set_option maxHeartbeats 1000000 in
theorem accept_t (hv : rd t w = true) : Calls Tryz.prog 87 #[.pointer (some ⟨b, 0, none⟩), .string ⟨w.toArray⟩] W fun e w' => e = .returned (.bool true) ∧ Tk b m T l W w' := by
  have hc := rd_ne hv
  have C := is_v b m T l t W w h hv
  go_enter Tryz.func87, Tryz.ntmps87
  go_wp2_with (go_at_call 88; refine C.mono ?_; rintro e w1 ⟨rfl, hb⟩; have hp1 := h.below hb; obtain ⟨g, cap, i, r1, r2, r3, r4, -⟩ := hp1.reads; have r5 := hp1.fz; have hn := hp1.next hc r2)
  go_ret
  exact ⟨rfl, hn, (Ky.of_below hb).setP _⟩
set_option maxHeartbeats 1000000 in
theorem accept_f (hv : rd t w = false) : Calls Tryz.prog 87 #[.pointer (some ⟨b, 0, none⟩), .string ⟨w.toArray⟩] W fun e w' => e = .returned (.bool false) ∧ Below W.heap.size W w' := by
  have C := is_v b m T l t W w h hv
  go_enter Tryz.func87, Tryz.ntmps87
  go_wp2_with (go_at_call 88; refine C.mono ?_; rintro e w1 ⟨rfl, hb⟩)
  go_ret
  exact ⟨rfl, hb⟩
set_option maxHeartbeats 1000000 in
theorem expect_t (hv : rd t w = true) : Calls Tryz.prog 125 #[.pointer (some ⟨b, 0, none⟩), .string ⟨w.toArray⟩] W fun e w' => e = .returned (.tuple #[]) ∧ Tk b m T l W w' := by
  have C := accept_t b m T l t W w h hv
  go_enter Tryz.func125, Tryz.ntmps125
  go_wp2_with (go_at_call 87; refine C.mono ?_; rintro e w1 ⟨rfl, hT⟩)
  go_end0
  exact ⟨rfl, hT⟩
set_option maxHeartbeats 1000000 in
theorem expect_f (hv : rd t w = false) : Calls Tryz.prog 125 #[.pointer (some ⟨b, 0, none⟩), .string ⟨w.toArray⟩] W fun e w' => e = refp t.p ∧ Below W.heap.size W w' := by
  have C := accept_f b m T l t W w h hv
  go_enter Tryz.func125, Tryz.ntmps125
  go_wp2_with (first | (go_at_call 87; refine C.mono ?_; rintro e w1 ⟨rfl, hb⟩) | (go_at_call 51; refine (at_any b m T l t _ (h.below hb)).mono ?_; rintro e w2 ⟨rfl, hb2⟩) | (go_at_call 50; refine (refuse_p _ _).mono ?_; rintro e w3 ⟨he, hb3⟩; unfold refp at he; subst he))
  exact ⟨rfl, rfl, (hb.trans (hb2.mono hb.size)).trans (hb3.mono (Nat.le_trans hb.size hb2.size))⟩
end
/-- closes. -/
theorem closes_any (b m : Nat) (T l : List Tok) (t : Tok) (W : World) (h : PS b m T (t :: l) W) : Calls Tryz.prog 91 #[.pointer (some ⟨b, 0, none⟩)] W fun e w' => e = .returned (.bool (closes (t :: l))) ∧ Below W.heap.size W w' := by
  have Ct := token_any b m T l t W h
  by_cases h56 : cls t = 56
  · have hk : t.k = 6 := cls_kind t 56 h56 (by omega)
    have e1 : closes (t :: l) = true := by simp [closes, hc, h56]
    rw [e1]
    go_enter Tryz.func91, Tryz.ntmps91
    go_wp2_with (go_at_call 49; refine Ct.mono ?_; rintro e w1 ⟨rfl, hb⟩)
    go_ret
    exact ⟨rfl, hb⟩
  · have hk : ¬ t.k = 6 := fun e => h56 (cls_of_kind t 6 e (by simp))
    by_cases h4 : cls t = 4
    · have wt4 : rd t [101, 110, 100] = true := cls_rd (c := 4) (by omega) (by decide) (by decide)
      have e1 : closes (t :: l) = true := by simp [closes, hc, h4]
      rw [e1]
      go_enter Tryz.func91, Tryz.ntmps91
      go_wp2_with (first | (go_at_call 49; refine Ct.mono ?_; rintro e w1 ⟨rfl, hb⟩) | (go_at_call 88; refine (is_v b m T l t _ _ (h.below hb) (by assumption)).mono ?_; rintro e w2 ⟨rfl, hb2⟩))
      go_ret
      exact ⟨rfl, hb.trans (hb2.mono hb.size)⟩
    · have wt4 : rd t [101, 110, 100] = false := cls_nrd (c := 4) (by omega) (by decide) (by decide)
      by_cases h5 : cls t = 5
      · have wt5 : rd t [101, 108, 115, 101] = true := cls_rd (c := 5) (by omega) (by decide) (by decide)
        have e1 : closes (t :: l) = true := by simp [closes, hc, h5]
        rw [e1]
        go_enter Tryz.func91, Tryz.ntmps91
        go_wp2_with (first | (go_at_call 49; refine Ct.mono ?_; rintro e w1 ⟨rfl, hb⟩; have hp := h.below hb; have B := hb) | (go_at_call 88; refine (is_v b m T l t _ _ hp (by assumption)).mono ?_; rintro e w2 ⟨rfl, hb2⟩; replace hp := hp.below hb2; replace B := B.trans (hb2.mono B.size)))
        go_ret
        exact ⟨rfl, B⟩
      · have wt5 : rd t [101, 108, 115, 101] = false := cls_nrd (c := 5) (by omega) (by decide) (by decide)
        by_cases h6 : cls t = 6
        · have wt6 : rd t [101, 108, 115, 101, 105, 102] = true := cls_rd (c := 6) (by omega) (by decide) (by decide)
          have e1 : closes (t :: l) = true := by simp [closes, hc, h6]
          rw [e1]
          go_enter Tryz.func91, Tryz.ntmps91
          go_wp2_with (first | (go_at_call 49; refine Ct.mono ?_; rintro e w1 ⟨rfl, hb⟩; have hp := h.below hb; have B := hb) | (go_at_call 88; refine (is_v b m T l t _ _ hp (by assumption)).mono ?_; rintro e w2 ⟨rfl, hb2⟩; replace hp := hp.below hb2; replace B := B.trans (hb2.mono B.size)))
          go_ret
          exact ⟨rfl, B⟩
        · have wt6 : rd t [101, 108, 115, 101, 105, 102] = false := cls_nrd (c := 6) (by omega) (by decide) (by decide)
          have e1 : closes (t :: l) = false := by simp [closes, hc, h56, h4, h5, h6]
          rw [e1]
          go_enter Tryz.func91, Tryz.ntmps91
          go_wp2_with (first | (go_at_call 49; refine Ct.mono ?_; rintro e w1 ⟨rfl, hb⟩; have hp := h.below hb; have B := hb) | (go_at_call 88; refine (is_v b m T l t _ _ hp (by assumption)).mono ?_; rintro e w2 ⟨rfl, hb2⟩; replace hp := hp.below hb2; replace B := B.trans (hb2.mono B.size)))
          go_ret
          exact ⟨by simp [hk], B⟩
/-- binding. -/
theorem binding_not (t : Tok) (W : World) (h2 : ¬ t.k = 2) (h5 : ¬ t.k = 5) : Calls Tryz.prog 160 #[(.agg #[.int .i64 t.k, .string ⟨t.t.toArray⟩, .int .i64 t.v, .int .i64 t.p])] W fun e w' => e = .returned (.int .i64 0) ∧ Below W.heap.size W w' := by
  have n2 : (t.k != 2) = true := by simpa using h2
  have n5 : (t.k != 5) = true := by simpa using h5
  go_enter Tryz.func160, Tryz.ntmps160
  go_wp2
  go_ret
  exact ⟨rfl, (Below.refl _ _).alloc (Nat.le_refl _) _⟩
set_option maxHeartbeats 2000000 in
theorem binding_word (t : Tok) (W : World) (c : Nat) (hk : t.k = 2 ∨ t.k = 5) (ht : t.t = wds c) (hc : c = 30 ∨ c = 31 ∨ c = 32 ∨ c = 33 ∨ c = 34 ∨ c = 35 ∨ c = 36 ∨ c = 37 ∨ c = 38 ∨ c = 39 ∨ c = 26 ∨ c = 40 ∨ c = 41 ∨ c = 42) : Calls Tryz.prog 160 #[(.agg #[.int .i64 t.k, .string ⟨t.t.toArray⟩, .int .i64 t.v, .int .i64 t.p])] W fun e w' => e = .returned (.int .i64 (bnd c)) ∧ Below W.heap.size W w' := by
  obtain ⟨k, tt, v, p⟩ := t
  simp only at hk ht ⊢
  subst ht
  rcases hk with rfl | rfl
  all_goals
    rcases hc with rfl | rfl | rfl | rfl | rfl | rfl | rfl | rfl | rfl | rfl | rfl | rfl | rfl | rfl
    all_goals
      simp only [wds, bnd]
      go_enter Tryz.func160, Tryz.ntmps160
      go_wp2
      go_ret
      exact ⟨rfl, (Below.refl _ _).alloc (Nat.le_refl _) _⟩
set_option maxHeartbeats 2000000 in
theorem binding_other (t : Tok) (W : World) (hk : t.k = 2 ∨ t.k = 5) (hb : bnd (code t.t) = 0) : Calls Tryz.prog 160 #[(.agg #[.int .i64 t.k, .string ⟨t.t.toArray⟩, .int .i64 t.v, .int .i64 t.p])] W fun e w' => e = .returned (.int .i64 0) ∧ Below W.heap.size W w' := by
  have ne : ∀ c, (1 ≤ c ∧ c ≤ 42 ∧ bnd c ≠ 0) → (t.t == wds c) = false := by
    intro c hc
    cases he : t.t == wds c
    · rfl
    · have : t.t = wds c := by simpa using he
      rw [this, code_wds c hc.1 hc.2.1] at hb
      exact absurd hb hc.2.2
  have o30 : (t.t == [111, 114]) = false := ne 30 (by decide)
  have o31 : (t.t == [97, 110, 100]) = false := ne 31 (by decide)
  have o32 : (t.t == [60]) = false := ne 32 (by decide)
  have o33 : (t.t == [62]) = false := ne 33 (by decide)
  have o34 : (t.t == [60, 61]) = false := ne 34 (by decide)
  have o35 : (t.t == [62, 61]) = false := ne 35 (by decide)
  have o36 : (t.t == [126, 61]) = false := ne 36 (by decide)
  have o37 : (t.t == [61, 61]) = false := ne 37 (by decide)
  have o38 : (t.t == [46, 46]) = false := ne 38 (by decide)
  have o39 : (t.t == [43]) = false := ne 39 (by decide)
  have o26 : (t.t == [45]) = false := ne 26 (by decide)
  have o40 : (t.t == [42]) = false := ne 40 (by decide)
  have o41 : (t.t == [47, 47]) = false := ne 41 (by decide)
  have o42 : (t.t == [37]) = false := ne 42 (by decide)
  clear ne
  rcases hk with hk | hk
  · have n2 : (t.k != 2) = false := by simp [hk]
    go_enter Tryz.func160, Tryz.ntmps160
    go_wp2
    go_ret
    exact ⟨rfl, (Below.refl _ _).alloc (Nat.le_refl _) _⟩
  · have n2 : (t.k != 2) = true := by simp [hk]
    have n5 : (t.k != 5) = false := by simp [hk]
    go_enter Tryz.func160, Tryz.ntmps160
    go_wp2
    go_ret
    exact ⟨rfl, (Below.refl _ _).alloc (Nat.le_refl _) _⟩
theorem binding_any (t : Tok) (W : World) : Calls Tryz.prog 160 #[(.agg #[.int .i64 t.k, .string ⟨t.t.toArray⟩, .int .i64 t.v, .int .i64 t.p])] W fun e w' => e = .returned (.int .i64 (bnd (cls t))) ∧ Below W.heap.size W w' := by
  by_cases hk : t.k = 2 ∨ t.k = 5
  · have e1 : cls t = code t.t := by unfold cls; rw [if_pos hk]
    rw [e1]
    by_cases hb : bnd (code t.t) = 0
    · rw [hb]; exact binding_other t W hk hb
    · have h0 : code t.t ≠ 0 := fun e => hb (by rw [e]; rfl)
      obtain ⟨h1, h2⟩ := code_inv t.t _ rfl h0
      refine binding_word t W (code t.t) hk h1.symm ?_
      unfold bnd at hb
      split at hb
      · omega
      · split at hb
        · omega
        · split at hb
          · omega
          · split at hb
            · omega
            · split at hb
              · omega
              · split at hb
                · omega
                · exact absurd rfl hb
  · have h2 : ¬ t.k = 2 := fun e => hk (.inl e)
    have h5 : ¬ t.k = 5 := fun e => hk (.inr e)
    have e1 : bnd (cls t) = 0 := by
      unfold cls
      rw [if_neg hk]
      split
      · rfl
      · split
        · rfl
        · split
          · rfl
          · split <;> rfl
    rw [e1]
    exact binding_not t W h2 h5
/-- target: the tree itself, or a refusal where it begins. -/
theorem target_yes (k : Int) (t : List UInt8) (n p : Int) (a : Option Addr) (sl sc : Nat) (W : World) (hk : k = 6 ∨ k = 7) : Calls Tryz.prog 153 #[(.agg #[.int .i64 (k), .string ⟨(t).toArray⟩, .int .i64 (n), .int .i64 (p), .slice a sl sc])] W fun e w' => e = .returned (.agg #[.int .i64 (k), .string ⟨(t).toArray⟩, .int .i64 (n), .int .i64 (p), .slice a sl sc]) ∧ Below W.heap.size W w' := by
  rcases hk with rfl | rfl
  all_goals
    go_enter Tryz.func153, Tryz.ntmps153
    go_wp2
    refine bodyPost_ret (v := .agg #[_, .string ⟨t.toArray⟩, .int .i64 n, .int .i64 p, .slice a sl sc]) (by simp [results, Tryz.results153, go_sem]; rfl) rfl ?_
    exact ⟨rfl, ((Below.refl _ W).alloc (Nat.le_refl _) _).alloc (by simp) _⟩
theorem target_no (k : Int) (t : List UInt8) (n p : Int) (a : Option Addr) (sl sc : Nat) (W : World) (h6 : ¬ k = 6) (h7 : ¬ k = 7) : Calls Tryz.prog 153 #[(.agg #[.int .i64 (k), .string ⟨(t).toArray⟩, .int .i64 (n), .int .i64 (p), .slice a sl sc])] W fun e w' => e = refp p ∧ Below W.heap.size W w' := by
  have n6 : (k != 6) = true := by simpa using h6
  have n7 : (k != 7) = true := by simpa using h7
  go_enter Tryz.func153, Tryz.ntmps153
  go_wp2_with (go_at_call 50; refine (refuse_p _ _).mono ?_; rintro e w3 ⟨he, hb3⟩; unfold refp at he; subst he)
  exact ⟨rfl, rfl, (((Below.refl _ W).alloc (Nat.le_refl _) _).alloc (by simp) _).trans (hb3.mono (by simp; omega))⟩
end Go.Proofs.YtmejlldabdjpjaaGreat

/- What the parser's functions are to leave: the contracts, by the number of steps. -/
namespace Go.Proofs.YtmejlldabdjpjaaGreat
open Go.RowKit
/-- A call that tells a tree. -/
def PN (b m : Nat) (T : List Tok) (W : World) : PR → Ending → World → Prop
  | .ok f l, e, W' => ∃ k t n p a c ks, f = one k t n p ks ∧ e = .returned (.agg #[.int .i64 (k), .string ⟨(t).toArray⟩, .int .i64 (n), .int .i64 (p), .slice a ks.len c]) ∧ TN 42 W' (fun g => W.heap.size ≤ g) k t n p (.slice a ks.len c) ks ∧ Tk b m T l W W'
  | .bad p, e, W' => e = refp p ∧ Ky (fun k => k = b) W W'
  | .out, _, _ => False
/-- A call that goes on with a row of trees. -/
def PL (b m : Nat) (T : List Tok) (W : World) (P : Nat → Prop) (v : Value) : PR → Ending → World → Prop
  | .ok f l, e, W' => ∃ a c, e = .returned (.slice a f.len c) ∧ KL 42 P W' (.slice a f.len c) f ∧ PS b m T l W' ∧ Ky (fun k => k = b ∨ some k = v.ownBlock) W W'
  | .bad p, e, W' => e = refp p ∧ Ky (fun k => k = b ∨ some k = v.ownBlock) W W'
  | .out, _, _ => False
/-- What a call with a row of trees wants. -/
structure Row (b m : Nat) (T l : List Tok) (W : World) (P : Nat → Prop) (a : Option Addr) (c : Nat) (f : F) : Prop where
  ps : PS b m T l W
  kl : KL 42 P W (.slice a f.len c) f
  lo : ∀ x, x < m → ¬ P x
  hi : ∀ x, W.heap.size ≤ x → P x
  few : f.len + l.length ≤ T.length
/-- All contracts at a number of steps. -/
structure CC (n : Nat) : Prop where
  blk : ∀ (c : Bool) (b m : Nat) (T l : List Tok) (W : World), PS b m T l W → pr n (.blk c) l ≠ .out → Calls Tryz.prog 48 #[.pointer (some ⟨b, 0, none⟩), .bool c] W (PN b m T W (pr n (.blk c) l))
  stat : ∀ (b m : Nat) (T l : List Tok) (W : World), PS b m T l W → pr n .stat l ≠ .out → Calls Tryz.prog 92 #[.pointer (some ⟨b, 0, none⟩)] W (PN b m T W (pr n .stat l))
  ex : ∀ (a : Nat) (b m : Nat) (T l : List Tok) (W : World), PS b m T l W → pr n (.ex a) l ≠ .out → Calls Tryz.prog 149 #[.pointer (some ⟨b, 0, none⟩), .int .i64 a] W (PN b m T W (pr n (.ex a) l))
  opd : ∀ (b m : Nat) (T l : List Tok) (W : World), PS b m T l W → pr n .opd l ≠ .out → Calls Tryz.prog 159 #[.pointer (some ⟨b, 0, none⟩)] W (PN b m T W (pr n .opd l))
  suf : ∀ (b m : Nat) (T l : List Tok) (W : World), PS b m T l W → pr n .suf l ≠ .out → Calls Tryz.prog 152 #[.pointer (some ⟨b, 0, none⟩)] W (PN b m T W (pr n .suf l))
  fld : ∀ (b m : Nat) (T l : List Tok) (W : World), PS b m T l W → pr n .fld l ≠ .out → Calls Tryz.prog 175 #[.pointer (some ⟨b, 0, none⟩)] W (PN b m T W (pr n .fld l))
  lst : ∀ (b m : Nat) (T l : List Tok) (W : World) (P : Nat → Prop) (a : Option Addr) (c : Nat) (f : F), Row b m T l W P a c f → pr n (.lst f) l ≠ .out → Calls Tryz.prog 123 #[.pointer (some ⟨b, 0, none⟩), .slice a f.len c] W (PL b m T W P (.slice a f.len c) (pr n (.lst f) l))
  nms : ∀ (b m : Nat) (T l : List Tok) (W : World) (P : Nat → Prop) (a : Option Addr) (c : Nat) (f : F), Row b m T l W P a c f → pr n (.nms f) l ≠ .out → Calls Tryz.prog 126 #[.pointer (some ⟨b, 0, none⟩), .slice a f.len c] W (PL b m T W P (.slice a f.len c) (pr n (.nms f) l))
theorem info24 : (Tryz.prog.info? 42).map (fun i => (i.zero, i.size, i.bytes)) = some (some (.agg #[.int .i64 0, .string ⟨#[]⟩, .int .i64 0, .int .i64 0, .slice none 0 0]), 5, 64) := by kernel_rfl
/-- A call of a Go function at a step of a region that draws its order; it may be refused. -/
theorem step_goP {ops : Array Oper} {o : Oper} {ac : Act} {K : Act → World → Prop} {Q : Exit → Act → World → Prop} {E : Prop} {W : World} (hgd : o.guard = none) (f : FuncId) (xs : Array Operand) (ats : Array TypeId)
    (ho : o.op = .call { callee := .value (.func f), args := xs, argTypes := ats }) (args : Array Value) (hx : #[] ++ xs.map ac.eval ++ #[] = args) (eg : ∀ args w, (callFunc f args).run Tryz.prog w = .ok (.enter f args) w)
    {R : Ending → World → Prop} (C : Calls Tryz.prog f args W R) (hK : ∀ e w', R e w' → (∃ v, e = .returned v ∧ K (ac.put o.dst v) w') ∨ (∃ c, e = .panicked c ∧ Q (.panic c) ac w')) :
    if Region.wanted o (yielded ops ac.tmps) = true then Oper.wp Tryz.prog o ac W K Q else E := by
  have hw : Region.wanted o (yielded ops ac.tmps) = true := by simp [Region.wanted, hgd]
  rw [if_pos hw]
  obtain ⟨dst, op, ty, pos, after, guard⟩ := o
  simp only at ho
  subst ho
  unfold Oper.wp
  rw [execOp_call_go, hx, eg, Oper.upon_enter]
  refine C.mono fun e w' h => ?_
  rcases hK e w' h with ⟨v, rfl, h'⟩ | ⟨c, rfl, h'⟩
  · exact h'
  · exact h'
theorem Ky.onto {S S' : Nat → Prop} {x y z : World} (h : Ky S x y) (k : Ky S' y z) (hs : ∀ i, i < x.heap.size → S' i → S i) : Ky S x z :=
  ⟨k.os.trans h.os, k.tape.trans h.tape, k.output.trans h.output, Nat.le_trans h.size k.size, fun i hi hn => (k.block i (Nat.lt_of_lt_of_le hi h.size) fun e => hn (hs i hi e)).trans (h.block i hi hn)⟩
/-- A row's own block: what it was, or a new one. -/
def OB (W : World) (v : Value) (a : Option Addr) : Prop := ∀ x, a = some x → some x.block = v.ownBlock ∨ W.heap.size ≤ x.block
theorem OB.refl (W : World) (a : Option Addr) (n c : Nat) : OB W (.slice a n c) a := by
  intro x e; subst e; exact .inl rfl
theorem OB.ky {W w w2 : World} {v : Value} {a : Option Addr} {b n c : Nat} (h : OB W v a) (k : Ky (fun k => k = b ∨ some k = v.ownBlock) W w) (k2 : Ky (fun k => k = b ∨ some k = Value.ownBlock (.slice a n c)) w w2) : Ky (fun k => k = b ∨ some k = v.ownBlock) W w2 := by
  refine k.onto k2 fun i hi e => ?_
  rcases e with e | e
  · exact .inl e
  · cases a with
    | none => cases e
    | some x =>
      have e1 : i = x.block := by simpa [Value.ownBlock] using e
      rcases h x rfl with h | h
      · exact .inr (by rw [e1]; exact h)
      · omega
theorem OB.app {W w : World} {v : Value} {a : Option Addr} {n c g : Nat} (h : OB W v a) (hz : W.heap.size ≤ w.heap.size) (hat : Value.ownBlock (.slice a n c) = some g ∨ w.heap.size ≤ g) : OB W v (some ⟨g, 0, none⟩) := by
  intro x e
  obtain rfl : (⟨g, 0, none⟩ : Addr) = x := by simpa using e
  rcases hat with hat | hat
  · cases a with
    | none => cases hat
    | some y =>
      have e1 : y.block = g := by simpa [Value.ownBlock] using hat
      rcases h y rfl with h | h
      · exact .inl (by rw [← h, e1])
      · exact .inr (by show W.heap.size ≤ g; omega)
  · exact .inr (by show W.heap.size ≤ g; omega)
/-- A tree behind a row. -/
theorem Row.snoc {b m : Nat} {T l l' : List Tok} {W w1 w2 : World} {P : Nat → Prop} {a a' : Option Addr} {c c' cc : Nat} {f ks : F} {k : Int} {t : List UInt8} {n p : Int} {g : Nat} {o : Obj} {xs : List Value} (h : Row b m T l W P a c f) (ht : TN 42 w1 (fun g => W.heap.size ≤ g) k t n p (.slice a' ks.len c') ks) (hk : Tk b m T l' W w1)
    (hkf : KF 42 (w1.alloc o) (fun g => P g ∧ some g ≠ Value.ownBlock (.slice a f.len c)) xs f)
    (own : w2.ownsRow 0 42 5 (.slice (some ⟨g, 0, none⟩) (f.len + 1) cc) (f.len + 1) (xs ++ [.int .i64 k, .string ⟨t.toArray⟩, .int .i64 n, .int .i64 p, .slice a' ks.len c']))
    (hg : (w1.alloc o).grownBy w2 (Value.ownBlock (.slice a f.len c))) (hat : Value.ownBlock (.slice a f.len c) = some g ∨ g = (w1.alloc o).heap.size) (hl : l'.length < l.length) :
    Row b m T l' w2 P (some ⟨g, 0, none⟩) cc (f.app (one k t n p ks)) ∧ Ky (fun k => k = b ∨ some k = Value.ownBlock (.slice a f.len c)) W w2 := by
  have hps := h.ps.lt
  have hfew := h.few
  have hsz := hk.ky.size
  obtain ⟨ys, hy, hyP, _⟩ := h.kl.out
  have hl1 : (f.app (one k t n p ks)).len = f.len + 1 := by rw [F.len_app]; rfl
  have hK : Ky (fun k => k = b ∨ some k = Value.ownBlock (.slice a f.len c)) W w2 := ((hk.ky.mono fun _ _ e => .inl e).alloc o).trans ⟨hg.os, hg.tape, hg.output, hg.size, fun i hi hn => hg.block i hi fun e => hn (.inr e)⟩
  have hkt : KF 42 (w1.alloc o) (fun g => P g ∧ some g ≠ Value.ownBlock (.slice a f.len c)) [.int .i64 k, .string ⟨t.toArray⟩, .int .i64 n, .int .i64 p, .slice a' ks.len c'] (one k t n p ks) := by
    refine (ht.kf.mono (Q := fun g => W.heap.size ≤ g ∧ g < w1.heap.size) fun g h1 h2 => ⟨h1, h2⟩).keep (w' := w1.alloc o) (fun k hk _ => (World.grownBy_alloc w1 o none).block k hk.2 (by simp)) |>.mono fun g hg _ => ⟨h.hi g hg.1, fun e => ?_⟩
    have := (hy.lt g e.symm).2
    omega
  refine ⟨⟨?_, ?_, h.lo, fun x hx => h.hi x (Nat.le_trans hK.size hx), by rw [hl1]; omega⟩, hK⟩
  · exact (hk.ps.alloc o).ky (S := fun k => some k = Value.ownBlock (.slice a f.len c)) ⟨hg.os, hg.tape, hg.output, hg.size, fun i hi hn => hg.block i hi hn⟩ fun x hx e => h.lo x hx (hyP x e.symm)
  · have := KL.snoc (n := one k t n p ks) hyP hkf hkt own (fun k hk hn => hg.block k hk hn) (fun x hx => h.hi x (by simp at hx; omega)) (hat.imp id (fun e => by omega))
    rw [hl1]; exact this
/-- A row behind the taking of a token. -/
theorem Row.took {b m : Nat} {T l : List Tok} {W w : World} {P : Nat → Prop} {a : Option Addr} {c : Nat} {f : F} {t : Tok} (h : Row b m T (t :: l) W P a c f) (hT : Tk b m T l W w) : Row b m T l w P a c f := by
  have h1 := h.ps.lt
  have h3 := h.few
  simp at h3
  exact ⟨hT.ps, h.kl.keep fun g hg hl => hT.ky.block g hl (fun e => h.lo g (by omega) hg), h.lo, fun x hx => h.hi x (Nat.le_trans hT.ky.size hx), by omega⟩
/-- The append of a tree that a call has told. -/
theorem app_row {ops : Array Oper} {rest : List Oper} {o : Oper} {ac : Act} {Q : Exit → Act → World → Prop} {b m : Nat} {T l l' : List Tok} {W w1 : World} {P : Nat → Prop} {a a' : Option Addr} {c c' : Nat} {f ks : F} {k : Int} {t : List UInt8} {n p : Int} (hgd : o.guard = none) (s x : Operand)
    (ho : o.op = .call { callee := .builtin .append, args := #[s, x], argTypes := #[40, 40] }) (h : Row b m T l W P a c f) (ht : TN 42 w1 (fun g => W.heap.size ≤ g) k t n p (.slice a' ks.len c') ks) (hk : Tk b m T l' W w1) (hl : l'.length < l.length)
    (hs : ac.eval s = .slice a f.len c) (hx : ac.eval x = .slice (some ⟨w1.heap.size, 0, none⟩) 1 1)
    (hK : ∀ g cc w2, Row b m T l' w2 P (some ⟨g, 0, none⟩) cc (f.app (one k t n p ks)) → Ky (fun k => k = b ∨ some k = Value.ownBlock (.slice a f.len c)) W w2 → (Value.ownBlock (.slice a f.len c) = some g ∨ W.heap.size ≤ g) → wpList Tryz.prog ops Q rest (ac.put o.dst (.slice (some ⟨g, 0, none⟩) (f.app (one k t n p ks)).len cc)) w2) :
    wpList Tryz.prog ops Q (o :: rest) ac (w1.alloc (.cells #[.int .i64 k, .string ⟨t.toArray⟩, .int .i64 n, .int .i64 p, .slice a' ks.len c'] 42)) := by
  obtain ⟨i0, hi0, hz0, hz1, hz2⟩ := info_parts info24
  have hps := h.ps.lt
  have hsm := h.ps.small
  have hfew := h.few
  have hsz := hk.ky.size
  have hkl := h.kl.keep (w' := w1.alloc (.cells #[.int .i64 k, .string ⟨t.toArray⟩, .int .i64 n, .int .i64 p, .slice a' ks.len c'] 42)) fun g hg hl => (hk.ky.alloc _).block g hl (fun e => h.lo g (by omega) hg)
  obtain ⟨xs, hown, _, hkf⟩ := hkl.out
  have hl1 : (f.app (one k t n p ks)).len = f.len + 1 := by rw [F.len_app]; rfl
  refine wpList_append_lies _ hgd s x 40 ho 0 42 i0 _ 5 64 Tryz.underlying40 hi0 hz0 hz1 hz2 rfl (by omega) (.slice a f.len c) f.len xs hs hown ⟨w1.heap.size, 0, none⟩ 1 1 [.int .i64 k, .string ⟨t.toArray⟩, .int .i64 n, .int .i64 p, .slice a' ks.len c'] hx rfl (World.news_of_block (cs := #[.int .i64 k, .string ⟨t.toArray⟩, .int .i64 n, .int .i64 p, .slice a' ks.len c']) (t := 42) (fr := (0, 0)) (Go.heap_alloc_new w1 _)) (by simp [Value.oneCell']) (by omega) (by unfold maxLen; omega) (by omega) (Nat.zero_le _) (w1.heap.size + 1) (by simp) ?_
  intro g cc w2 hown2 hg hat _
  obtain ⟨r1, r2⟩ := h.snoc ht hk hkf hown2 hg (hat.imp id fun e => by simpa using e) hl
  have := hK g cc w2 r1 r2 (hat.imp id fun e => by omega)
  rw [hl1] at this
  exact this
set_option maxRecDepth 20000 in
set_option maxHeartbeats 4000000 in
theorem list_any (N : Nat) (H : ∀ n, n ≤ N → CC n) (b m : Nat) (T l : List Tok) (W : World) (P : Nat → Prop) (a : Option Addr) (c : Nat) (f : F) (h : Row b m T l W P a c f) (hr : pr (N + 1) (.lst f) l ≠ .out) : Calls Tryz.prog 123 #[.pointer (some ⟨b, 0, none⟩), .slice a f.len c] W (PL b m T W P (.slice a f.len c) (pr (N + 1) (.lst f) l)) := by
  obtain ⟨R, hR⟩ : ∃ R, pr (N + 1) (.lst f) l = R := ⟨_, rfl⟩
  rw [hR] at hr ⊢
  rw [pr_succ] at hR
  simp only [stp'] at hR
  have CE := (H N (Nat.le_refl _)).ex 0 b m T l W h.ps
  cases he : pr N (.ex 0) l with
  | out => rw [he] at hR; exact absurd hR.symm hr
  | bad p =>
    rw [he] at hR CE
    have CE := CE (by simp)
    simp only [PR.bind] at hR
    subst hR
    go_enter Tryz.func123, Tryz.ntmps123
    go_wp2_with (go_at_call 149; refine CE.mono ?_; rintro e w1 ⟨he, hk⟩; unfold refp at he; subst he)
    exact ⟨rfl, rfl, hk.mono fun _ _ e => .inl e⟩
  | ok g l1 =>
    have hlen := pr_len he
    rw [he] at hR CE
    have CE := CE (by simp)
    simp only [PR.bind] at hR
    go_enter Tryz.func123, Tryz.ntmps123
    go_wp2_with (first | (go_at_call 149; refine CE.mono ?_; rintro e w1 ⟨k, t, n, p, a1, c1, ks, rfl, rfl, hTN, hTk⟩) | (at_builtin; refine app_row rfl _ _ rfl h hTN hTk (by simp only [st] at hlen; omega) rfl rfl ?_; intro gg cc w2 hrow hky hat))
    have hR : Hid ((if hc l1 = 15 then pr N (.lst (f.app (one k t n p ks))) l1.tail else .ok (f.app (one k t n p ks)) l1) = R) := hR
    have hOB := (OB.refl W a f.len c).app (Nat.le_refl _) hat
    clear CE he hTN hTk hat
    go_loopg [1] (N + 2) (fun gf v1 wx => ∃ (q : Nat) (f' : F) (l' : List Tok) (a' : Option Addr) (c' : Nat), q ≤ N ∧ v1 = .slice a' f'.len c' ∧ Row b m T l' wx P a' c' f' ∧ Ky (fun k => k = b ∨ some k = Value.ownBlock (.slice a f.len c)) W wx ∧ OB W (.slice a f.len c) a' ∧ Hid ((if hc l' = 15 then pr q (.lst f') l'.tail else .ok f' l') = R) ∧ q < gf)
    case atStart => exact ⟨N, _, l1, _, _, Nat.le_refl _, rfl, hrow, hky, hOB, hR, by omega⟩
    case round =>
      clear hrow hky hOB hR hlen
      obtain ⟨q, f', l', a', c', hq, rfl, hrow, hky, hOB, hR, hfu⟩ := hrel
      obtain ⟨t1, l2, rfl⟩ := hrow.ps.cons
      by_cases h15 : cls t1 = 15
      · have wt115 : rd t1 [44] = true := cls_rd (c := 15) (by omega) (by decide) (by decide)
        have hR : pr q (.lst f') l2 = R := by have := hR.out; rw [if_pos (show hc (t1 :: l2) = 15 from h15)] at this; exact this
        cases q with
        | zero => exact absurd hR.symm hr
        | succ q =>
          rw [pr_succ] at hR
          simp only [stp'] at hR
          have CE := fun W h => (H q (by omega)).ex 0 b m T l2 W h
          cases he : pr q (.ex 0) l2 with
          | out => rw [he] at hR; exact absurd hR.symm hr
          | bad p =>
            rw [he] at hR CE
            simp only [PR.bind] at hR
            subst hR
            go_wp2_with (first | (go_at_call 87; refine (accept_t b m T l2 t1 _ _ hrow.ps (by assumption)).mono ?_; rintro e w3 ⟨rfl, hT⟩) | (go_at_call 149; refine (CE _ hT.ps (by simp)).mono ?_; rintro e w1 ⟨he, hk⟩; unfold refp at he; subst he))
            exact ⟨rfl, rfl, hky.onto (hT.ky.trans hk) fun _ _ e => .inl e⟩
          | ok g l3 =>
            have hlen := pr_len he
            rw [he] at hR CE
            simp only [PR.bind] at hR
            have hR : Hid ((if hc l3 = 15 then pr q (.lst (f'.app g)) l3.tail else .ok (f'.app g) l3) = R) := hR
            go_wp2_with (first | (go_at_call 87; refine (accept_t b m T l2 t1 _ _ hrow.ps (by assumption)).mono ?_; rintro e w3 ⟨rfl, hT⟩; have hrow := hrow.took hT) | (go_at_call 149; refine (CE _ hT.ps (by simp)).mono ?_; rintro e w1 ⟨k, t, n, p, a1, c1, ks, rfl, rfl, hTN, hTk⟩) | (at_builtin; refine app_row rfl _ _ rfl hrow hTN hTk (by simp only [st] at hlen; omega) rfl rfl ?_; intro gg cc w2 hrow2 hky2 hat2))
            have hKw := hky.onto (hT.ky) (fun _ _ e => .inl e)
            go_roundg (q + 1)
            case measure => omega
            case rel => exact ⟨q, _, l3, _, _, by omega, rfl, hrow2, hOB.ky hKw hky2, hOB.app hKw.size hat2, hR, by omega⟩
      · have wt115 : rd t1 [44] = false := cls_nrd (c := 15) (by omega) (by decide) (by decide)
        have hR : PR.ok f' (t1 :: l2) = R := by have := hR.out; rw [if_neg (show ¬ hc (t1 :: l2) = 15 from h15)] at this; exact this
        subst hR
        go_wp2_with (go_at_call 87; refine (accept_f b m T l2 t1 _ _ hrow.ps (by assumption)).mono ?_; rintro e w3 ⟨rfl, hb⟩)
        go_ret
        exact ⟨a', c', rfl, hrow.kl.keep fun g hg hl => hb.block g hl, hrow.ps.below hb, hky.onto (Ky.of_below hb (S := fun _ => False)) fun _ _ e => e.elim⟩
end Go.Proofs.YtmejlldabdjpjaaGreat

/- The walk of moreNames. -/
namespace Go.Proofs.YtmejlldabdjpjaaGreat
open Go.RowKit
set_option maxRecDepth 20000 in
set_option maxHeartbeats 4000000 in
theorem names_p (N : Nat) (b m : Nat) (T l : List Tok) (W : World) (P : Nat → Prop) (a : Option Addr) (c : Nat) (f : F) (h : Row b m T l W P a c f) (hr : pr N (.nms f) l ≠ .out) : Calls Tryz.prog 126 #[.pointer (some ⟨b, 0, none⟩), .slice a f.len c] W (PL b m T W P (.slice a f.len c) (pr N (.nms f) l)) := by
  obtain ⟨R, hR⟩ : ∃ R, pr N (.nms f) l = R := ⟨_, rfl⟩
  rw [hR] at hr ⊢
  have hR : Hid (pr N (.nms f) l = R) := hR
  go_enter Tryz.func126, Tryz.ntmps126
  go_wp2_with fail
  go_loopg [1] (N + 2) (fun gf v1 wx => ∃ (q : Nat) (f' : F) (l' : List Tok) (a' : Option Addr) (c' : Nat), q ≤ N ∧ v1 = .slice a' f'.len c' ∧ Row b m T l' wx P a' c' f' ∧ Ky (fun k => k = b ∨ some k = Value.ownBlock (.slice a f.len c)) W wx ∧ OB W (.slice a f.len c) a' ∧ Hid (pr q (.nms f') l' = R) ∧ q < gf)
  case atStart => exact ⟨N, f, l, a, c, Nat.le_refl _, rfl, h, Ky.refl _ _, OB.refl _ _ _ _, hR, by omega⟩
  case round =>
    clear h hR
    obtain ⟨q, f', l', a', c', hq, rfl, hrow, hky, hOB, hR, hfu⟩ := hrel
    obtain ⟨t1, l2, rfl⟩ := hrow.ps.cons
    cases q with
    | zero => exact absurd hR.out.symm hr
    | succ q =>
      have hR := hR.out
      rw [pr_succ] at hR
      simp only [stp', nam] at hR
      by_cases h15 : cls t1 = 15
      · have wt115 : rd t1 [44] = true := cls_rd (c := 15) (by omega) (by decide) (by decide)
        rw [if_pos (show hc (t1 :: l2) = 15 from h15)] at hR
        obtain ⟨t2, l3, rfl⟩ : ∃ t2 l3, l2 = t2 :: l3 := by
          have := hrow.ps.ends.tail (by omega)
          cases l2 with
          | nil => exact absurd rfl this.ne
          | cons t l => exact ⟨t, l, rfl⟩
        by_cases h51 : cls t2 = 51
        · rw [if_pos (show hc (List.tail (t1 :: t2 :: l3)) = 51 from h51)] at hR
          have hR : Hid (pr q (.nms (f'.app (one 6 t2.t 0 t2.p .nil))) l3 = R) := hR
          go_wp2_with (first | (go_at_call 87; refine (accept_t b m T (t2 :: l3) t1 _ _ hrow.ps (by assumption)).mono ?_; rintro e w3 ⟨rfl, hT⟩; have hrow := hrow.took hT) | (go_at_call 124; refine (name_yes b m T l3 t2 _ hT.ps h51).mono ?_; rintro e w1 ⟨rfl, hTk⟩) | (at_builtin; refine app_row (ks := .nil) rfl _ _ rfl hrow (TN.leaf _ _ _ _ _ _ _) hTk (by simp) rfl rfl ?_; intro gg cc w2 hrow2 hky2 hat2))
          have hKw := hky.onto (hT.ky) (fun _ _ e => .inl e)
          go_roundg (q + 1)
          case measure => omega
          case rel => exact ⟨q, _, l3, _, _, by omega, rfl, hrow2, hOB.ky hKw hky2, hOB.app hKw.size hat2, hR, by omega⟩
        · rw [if_neg (show ¬ hc (List.tail (t1 :: t2 :: l3)) = 51 from h51)] at hR
          subst hR
          go_wp2_with (first | (go_at_call 87; refine (accept_t b m T (t2 :: l3) t1 _ _ hrow.ps (by assumption)).mono ?_; rintro e w3 ⟨rfl, hT⟩) | (go_at_call 124; refine (name_no b m T l3 t2 _ hT.ps h51).mono ?_; rintro e w1 ⟨he, hb⟩; unfold refp at he; subst he))
          exact ⟨rfl, rfl, hky.onto (hT.ky.trans (.of_below hb)) fun _ _ e => .inl e⟩
      · have wt115 : rd t1 [44] = false := cls_nrd (c := 15) (by omega) (by decide) (by decide)
        rw [if_neg (show ¬ hc (t1 :: l2) = 15 from h15)] at hR
        subst hR
        go_wp2_with (go_at_call 87; refine (accept_f b m T l2 t1 _ _ hrow.ps (by assumption)).mono ?_; rintro e w3 ⟨rfl, hb⟩)
        go_ret
        exact ⟨a', c', rfl, hrow.kl.keep fun g hg hl => hb.block g hl, hrow.ps.below hb, hky.onto (Ky.of_below hb (S := fun _ => False)) fun _ _ e => e.elim⟩
end Go.Proofs.YtmejlldabdjpjaaGreat

/- What is left of the tokens ends with the end, too. -/
namespace Go.Proofs.YtmejlldabdjpjaaGreat
/-- The tokens left end with the end. -/
def EN : PR → Prop
  | .ok _ l => Ends l
  | _ => True
theorem EN.bind {x : PR} {k : F → List Tok → PR} (h : EN x) (hk : ∀ f l, Ends l → EN (k f l)) : EN (x.bind k) := by
  cases x with
  | ok f l => exact hk f l h
  | bad p => exact trivial
  | out => exact trivial
theorem Ends.tl {l : List Tok} (h : Ends l) (hn : hc l ≠ 56) : Ends l.tail := by
  cases l with
  | nil => exact absurd rfl h.ne
  | cons t l => exact h.tail hn
theorem EN.need {c : Nat} {l : List Tok} {k : List Tok → PR} (hl : Ends l) (hc' : c ≠ 56) (h : Ends l.tail → EN (k l.tail)) : EN (need c l k) := by
  unfold Go.Proofs.YtmejlldabdjpjaaGreat.need
  split
  · next e => exact h (hl.tl (by rw [e]; exact hc'))
  · exact trivial
theorem EN.nam {q : Int} {l : List Tok} {k : F → List Tok → PR} (hl : Ends l) (h : ∀ f, Ends l.tail → EN (k f l.tail)) : EN (nam q l k) := by
  unfold Go.Proofs.YtmejlldabdjpjaaGreat.nam
  split
  · next e => exact h _ (hl.tl (by rw [e]; decide))
  · exact trivial
section
variable {rec : J → List Tok → PR} (ih : ∀ j l, Ends l → EN (rec j l))
include ih
theorem en_body {l : List Tok} {k : F → List Tok → PR} (hl : Ends l) (h : ∀ f l1, Ends l1 → EN (k f l1)) : EN (bodyP rec l k) :=
  .need hl (by decide) fun h1 => .bind (ih _ _ h1) fun f _ h2 => .need h2 (by decide) fun h3 => h f _ h3
theorem en_last {l : List Tok} (h1 : Ends l.tail) : EN (lastP rec l) := by
  unfold lastP
  split
  · next e => exact h1.tl (by rw [e]; decide)
  · split
    · exact h1
    · refine .bind (ih _ _ h1) fun f m h2 => ?_
      show Ends _
      split
      · next e => exact h2.tl (by rw [e]; decide)
      · exact h2
theorem en_fun {l : List Tok} (h1 : Ends l.tail) : EN (funP rec l) := by
  unfold funP parP
  refine .nam h1 fun m h2 => .need h2 (by decide) fun h3 => .bind ?_ fun ps l1 h4 => .need h4 (by decide) fun h5 => .bind (ih _ _ h5) fun b l2 h6 => .need h6 (by decide) fun h7 => h7
  split
  · exact h3
  · exact .nam h3 fun f h4 => ih _ _ h4
theorem en_num {at' : Int} {a : F} {l : List Tok} (hl : Ends l) : EN (numP rec at' a l) := by
  unfold numP
  refine .bind (ih _ _ hl) fun e1 l1 h1 => .need h1 (by decide) fun h2 => .bind (ih _ _ h2) fun e2 l2 h3 => ?_
  split
  · next e => exact .bind (ih _ _ (h3.tl (by rw [e]; decide))) fun e3 l3 h4 => en_body ih h4 fun _ _ h5 => h5
  · exact en_body ih h3 fun _ _ h5 => h5
theorem en_for {l : List Tok} (hl : Ends l.tail) : EN (forP rec l) := by
  unfold forP
  refine .nam hl fun m h1 => ?_
  split
  · next e => exact en_num ih (h1.tl (by rw [e]; decide))
  · exact .bind (ih _ _ h1) fun ns l1 h2 => .need h2 (by decide) fun h3 => .bind (ih _ _ h3) fun f l2 h4 => en_body ih h4 fun _ _ h5 => h5
theorem en_loc {l : List Tok} (hl : Ends l.tail) : EN (locP rec l) := by
  unfold locP
  refine .nam hl fun m h1 => .bind (ih _ _ h1) fun ns l1 h2 => ?_
  split
  · next e => exact .bind (ih _ _ (h2.tl (by rw [e]; decide))) fun _ _ h3 => h3
  · exact h2
theorem en_asg {l : List Tok} (hl : Ends l) : EN (asgP rec l) := by
  unfold asgP tgt
  refine .bind (ih _ _ hl) fun f l1 h1 => ?_
  split
  · split
    · exact .bind (ih _ _ h1) fun ts l2 h2 => .need h2 (by decide) fun h3 => .bind (ih _ _ h3) fun _ _ h4 => h4
    · exact trivial
  · split
    · exact h1
    · exact trivial
theorem en_arg {a : F} {l : List Tok} (hl : Ends l) : EN (argP rec a l) := by
  unfold argP
  split
  · next e => exact hl.tl (by rw [e]; decide)
  · exact .bind (ih _ _ hl) fun f l1 h1 => .need h1 (by decide) fun h2 => h2
theorem en_stem {l : List Tok} (hl : Ends l) : EN (stemP rec l) := by
  unfold stemP
  split
  · next e => exact .bind (ih _ _ (hl.tl (by rw [e]; decide))) fun f l1 h1 => .need h1 (by decide) fun h2 => h2
  · exact .nam hl fun f h => h
theorem en_br {a : F} {l : List Tok} (hl : Ends l) : EN (brP rec a l) := by
  unfold brP
  exact .bind (ih _ _ hl) fun e l1 h1 => .need h1 (by decide) fun h2 => .bind (ih _ _ h2) fun b l2 h3 => h3
theorem en_step (j : J) (l : List Tok) (hl : Ends l) : EN (stp' rec j l) := by
  have tl : ∀ c, hc l = c → c ≠ 56 → Ends l.tail := fun c h h2 => hl.tl (by rw [h]; exact h2)
  cases j with
  | blk c => exact .bind (ih _ _ hl) fun _ _ h => h
  | bk c a =>
    simp only [stp']
    split
    · next h => exact ih _ _ (tl _ h (by decide))
    · split
      · next h => exact .bind (en_last ih (tl _ h (by decide))) fun _ _ h => h
      · split
        · next h => exact .bind (en_fun ih (tl _ h.2 (by decide))) fun _ _ h => ih _ _ h
        · split
          · exact hl
          · exact .bind (ih _ _ hl) fun _ _ h => ih _ _ h
  | stat =>
    simp only [stp']
    split
    · exact en_body ih hl fun _ _ h => h
    · split
      · next h => exact .bind (ih _ _ (tl _ h (by decide))) fun _ _ h => en_body ih h fun _ _ h => h
      · split
        · next h => exact .bind (ih _ _ (tl _ h (by decide))) fun _ _ h => h
        · split
          · next h => exact en_for ih (tl _ h (by decide))
          · split
            · next h => exact en_loc ih (tl _ h (by decide))
            · split
              · next h => exact tl _ h (by decide)
              · exact en_asg ih hl
  | lst a =>
    simp only [stp']
    refine .bind (ih _ _ hl) fun f l1 h1 => ?_
    split
    · next e => exact ih _ _ (h1.tl (by rw [e]; decide))
    · exact h1
  | nms a =>
    simp only [stp']
    split
    · next h => exact .nam (tl _ h (by decide)) fun f h => ih _ _ h
    · exact hl
  | ifs a =>
    simp only [stp']
    refine .bind (en_br ih hl) fun f l1 h1 => ?_
    split
    · next e => exact ih _ _ (h1.tl (by rw [e]; decide))
    · split
      · next e => exact .bind (ih _ _ (h1.tl (by rw [e]; decide))) fun _ _ h => .need h (by decide) fun h => h
      · exact .need h1 (by decide) fun h => h
  | asg a =>
    simp only [stp', tgt]
    split
    · next h =>
      refine .bind (ih _ _ (tl _ h (by decide))) fun f l1 h1 => ?_
      split
      · exact ih _ _ h1
      · exact trivial
    · exact hl
  | ex a => exact .bind (ih _ _ hl) fun _ _ h => ih _ _ h
  | exl a f =>
    simp only [stp']
    split
    · next h => exact .bind (ih _ _ (hl.tl (by intro e; rw [e] at h; exact absurd h (by simp [bnd])))) fun _ _ h => ih _ _ h
    · exact hl
  | opd =>
    simp only [stp', tabP]
    split
    · exact ih _ _ hl
    · split
      · next h => exact .bind (ih _ _ (tl _ h (by decide))) fun _ _ h => .need h (by decide) fun h => h
      · split
        · next h => exact .bind (ih _ _ (by rcases h with h | h | h <;> exact tl _ h (by decide))) fun _ _ h => h
        · split
          · next h => exact tl _ h (by decide)
          · split
            · next h => exact tl _ h (by decide)
            · split
              · next h => exact tl _ h (by decide)
              · split
                · next h => exact tl _ h (by decide)
                · split
                  · next h => exact tl _ h (by decide)
                  · exact trivial
  | suf => exact .bind (en_stem ih hl) fun _ _ h => ih _ _ h
  | sufl f =>
    simp only [stp']
    split
    · next h => exact .bind (ih _ _ (tl _ h (by decide))) fun _ _ h => .need h (by decide) fun h => ih _ _ h
    · split
      · next h => exact .nam (tl _ h (by decide)) fun _ h => ih _ _ h
      · split
        · next h => exact .bind (en_arg ih (tl _ h (by decide))) fun _ _ h => ih _ _ h
        · exact hl
  | tab a =>
    simp only [stp']
    split
    · exact hl
    · refine .bind (ih _ _ hl) fun f l1 h1 => ?_
      split
      · next e => exact ih _ _ (h1.tl (by rcases e with e | e <;> rw [e] <;> decide))
      · exact h1
  | fld =>
    simp only [stp']
    split
    · next h => exact .bind (ih _ _ (tl _ h (by decide))) fun _ _ h => .need h (by decide) fun h => .need h (by decide) fun h => .bind (ih _ _ h) fun _ _ h => h
    · split
      · next h => exact .bind (ih _ _ ((tl _ h.1 (by decide)).tl (by rw [h.2]; decide))) fun _ _ h => h
      · exact .bind (ih _ _ hl) fun _ _ h => h
end
theorem en_all : ∀ (n : Nat) (j : J) (l : List Tok), Ends l → EN (pr n j l)
  | 0, _, _, _ => trivial
  | n + 1, j, l, h => en_step (en_all n) j l h
theorem pr_ends {n : Nat} {j : J} {l l' : List Tok} {f : F} (h : pr n j l = .ok f l') (hl : Ends l) : Ends l' := by
  have := en_all n j l hl
  rw [h] at this
  exact this
theorem Ends.cons {l : List Tok} (h : Ends l) : ∃ t l', l = t :: l' := by
  cases l with
  | nil => exact absurd rfl h.ne
  | cons t l => exact ⟨t, l, rfl⟩
end Go.Proofs.YtmejlldabdjpjaaGreat
