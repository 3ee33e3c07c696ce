/- The walks of stem and arguments. -/
import Derived.Test.YtmejlldabdjpjaaGreatCg03
namespace Go.Proofs.YtmejlldabdjpjaaGreat
open Go.RowKit
theorem TN.set {E : TypeId} {w : World} {P : Nat → Prop} {k : Int} {t : List UInt8} {n p : Int} {v : Value} {ks : F} {X o : Nat} (h : TN E w P k t n p v ks) (hX : ¬ P X) (u : Value) : TN E (w.setCell ⟨X, o, none⟩ u) P k t n p v ks :=
  h.keep fun g hg _ => Below.heap_setCell w _ u g fun e => hX ((show g = X from e) ▸ hg)
theorem TN.alloc {E : TypeId} {w : World} {P : Nat → Prop} {k : Int} {t : List UInt8} {n p : Int} {v : Value} {ks : F} (h : TN E w P k t n p v ks) (o : Obj) : TN E (w.alloc o) P k t n p v ks :=
  h.keep fun g _ hl => (World.grownBy_alloc w o none).block g hl (by simp)
theorem TN.below {E : TypeId} {w w' : World} {P : Nat → Prop} {k : Int} {t : List UInt8} {n p : Int} {v : Value} {ks : F} (h : TN E w P k t n p v ks) (hb : Below w.heap.size w w') : TN E w' P k t n p v ks :=
  h.keep fun g _ hl => hb.block g hl
theorem TN.ky {E : TypeId} {w w' : World} {P S : Nat → Prop} {k : Int} {t : List UInt8} {n p : Int} {v : Value} {ks : F} (h : TN E w P k t n p v ks) (hb : Ky S w w') (hS : ∀ g, P g → ¬ S g) : TN E w' P k t n p v ks :=
  h.keep fun g hg hl => hb.block g hl (hS g hg)
theorem KL.set {E : TypeId} {P : Nat → Prop} {w : World} {v : Value} {f : F} {X o : Nat} (h : KL E P w v f) (hX : ¬ P X) (u : Value) : KL E P (w.setCell ⟨X, o, none⟩ u) v f :=
  h.keep fun g hg _ => Below.heap_setCell w _ u g fun e => hX ((show g = X from e) ▸ hg)
theorem KL.alloc {E : TypeId} {P : Nat → Prop} {w : World} {v : Value} {f : F} (h : KL E P w v f) (o : Obj) : KL E P (w.alloc o) v f := h.keep fun g _ hl => (World.grownBy_alloc w o none).block g hl (by simp)
theorem KL.ky {E : TypeId} {P : Nat → Prop} {w w' : World} {S : Nat → Prop} {v : Value} {f : F} (h : KL E P w v f) (hb : Ky S w w') (hS : ∀ g, P g → ¬ S g) : KL E P w' v f := h.keep fun g hg hl => hb.block g hl (hS g hg)
theorem KL.below {E : TypeId} {P : Nat → Prop} {w w' : World} {v : Value} {f : F} (h : KL E P w v f) (hb : Below w.heap.size w w') : KL E P w' v f := h.keep fun g _ hl => hb.block g hl
theorem Bx.put {X j : Nat} {e : TypeId} {cur : Array Value} {w : World} (h : Bx X e cur w) (u : Value) : Bx X e (cur.setIfInBounds j u) (w.setCell ⟨X, j, none⟩ u) := ⟨heap_setCell_same w X j cur e u h.blk⟩
theorem Bx.put4 {X : Nat} {e : TypeId} {a b c d f : Value} {w : World} (h : Bx X e #[a, b, c, d, f] w) (u : Value) : Bx X e #[a, b, c, d, u] (w.setCell ⟨X, 4, none⟩ u) := h.put (j := 4) u
theorem Bx.put2 {X : Nat} {e : TypeId} {a b c d f : Value} {w : World} (h : Bx X e #[a, b, c, d, f] w) (u : Value) : Bx X e #[a, b, u, d, f] (w.setCell ⟨X, 2, none⟩ u) := h.put (j := 2) u
theorem Row.past {b m : Nat} {T l : List Tok} {W w : World} {P : Nat → Prop} {a : Option Addr} {c : Nat} {f : F} (h : Row b m T l W P a c f) (hb : Below W.heap.size W w) : Row b m T l w P a c f :=
  ⟨h.ps.below hb, h.kl.below hb, h.lo, fun x hx => h.hi x (Nat.le_trans hb.size hx), h.few⟩
/-- One tree in a new row. -/
theorem TN.row1 {E : TypeId} {w : World} {P Q : Nat → Prop} {k : Int} {t : List UInt8} {n p : Int} {v : Value} {ks : F} (h : TN E w P k t n p v ks) (hP : ∀ g, P g → g < w.heap.size → Q g) (hB : Q w.heap.size) : KL E Q (w.alloc (.cells #[.int .i64 k, .string ⟨t.toArray⟩, .int .i64 n, .int .i64 p, v] E)) (.slice (some ⟨w.heap.size, 0, none⟩) 1 1) (one k t n p ks) :=
  KL.made (cur := #[.int .i64 k, .string ⟨t.toArray⟩, .int .i64 n, .int .i64 p, v]) (h.kf.mono hP) hB rfl (by unfold maxLen; omega)
/-- Two trees in a new row. -/
theorem TN.row2 {E : TypeId} {w : World} {P P' Q : Nat → Prop} {k k' : Int} {t t' : List UInt8} {n p n' p' : Int} {v v' : Value} {ks ks' : F} (h : TN E w P k t n p v ks) (h' : TN E w P' k' t' n' p' v' ks') (hP : ∀ g, P g → g < w.heap.size → Q g) (hP' : ∀ g, P' g → g < w.heap.size → Q g) (hB : Q w.heap.size) :
    KL E Q (w.alloc (.cells #[.int .i64 k, .string ⟨t.toArray⟩, .int .i64 n, .int .i64 p, v, .int .i64 k', .string ⟨t'.toArray⟩, .int .i64 n', .int .i64 p', v'] E)) (.slice (some ⟨w.heap.size, 0, none⟩) 2 2) ((one k t n p ks).app (one k' t' n' p' ks')) :=
  KL.made (cur := #[.int .i64 k, .string ⟨t.toArray⟩, .int .i64 n, .int .i64 p, v, .int .i64 k', .string ⟨t'.toArray⟩, .int .i64 n', .int .i64 p', v']) ((h.kf.mono hP).app (h'.kf.mono hP')) hB rfl (by unfold maxLen; omega)
/-- A tree that is handed back: stored into the result's block. -/
theorem PN.five {b m : Nat} {T l : List Tok} {W w : World} {P : Nat → Prop} {k : Int} {t : List UInt8} {n p : Int} {a : Option Addr} {c : Nat} {ks : F} {u0 u1 u2 u3 u4 : Value} (ht : TN 42 w P k t n p (.slice a ks.len c) ks) (hT : Tk b m T l W w) (hP : ∀ g, P g → W.heap.size < g) (hm : m ≤ W.heap.size) :
    PN b m T W (.ok (one k t n p ks) l) (.returned (.agg #[.int .i64 (k), .string ⟨(t).toArray⟩, .int .i64 (n), .int .i64 (p), .slice a ks.len c])) (((((w.setCell ⟨W.heap.size, 0, none⟩ u0).setCell ⟨W.heap.size, 1, none⟩ u1).setCell ⟨W.heap.size, 2, none⟩ u2).setCell ⟨W.heap.size, 3, none⟩ u3).setCell ⟨W.heap.size, 4, none⟩ u4) := by
  have hX : ¬ P W.heap.size := fun e => Nat.lt_irrefl _ (hP _ e)
  exact ⟨k, t, n, p, a, c, ks, rfl, rfl, (((((ht.set hX u0).set hX u1).set hX u2).set hX u3).set hX u4).mono fun g hg _ => Nat.le_of_lt (hP g hg), hT.five (Nat.le_refl _) hm _ _ _ _ _⟩
theorem tail_cons {t : Tok} {l : List Tok} (h : Ends (t :: l)) (hc : cls t ≠ 56) : ∃ t2 l2, l = t2 :: l2 := by
  have := h.tail hc
  cases l with
  | nil => exact absurd rfl this.ne
  | cons t l => exact ⟨t, l, rfl⟩
set_option maxRecDepth 20000 in
set_option maxHeartbeats 4000000 in
theorem stem_any (N : Nat) (H : CC N) (b m : Nat) (T l : List Tok) (W : World) (h : PS b m T l W) (hr : stemP (pr N) l ≠ .out) : Calls Tryz.prog 161 #[.pointer (some ⟨b, 0, none⟩)] W (PN b m T W (stemP (pr N) l)) := by
  obtain ⟨t, l1, rfl⟩ := h.cons
  have hlt := h.lt
  have hbW : W.heap.size ≠ b := by omega
  unfold stemP at hr ⊢
  by_cases h17 : cls t = 17
  · rw [if_pos (show hc (t :: l1) = 17 from h17)] at hr ⊢
    have wt17 : rd t [40] = true := cls_rd (c := 17) (by omega) (by decide) (by decide)
    have h56 : cls t ≠ 56 := by omega
    have CE := fun W h => H.ex 0 b m T l1 W h
    change ((pr N (.ex 0) l1).bind _) ≠ _ at hr
    change Calls _ _ _ _ (PN b m T W ((pr N (.ex 0) l1).bind _))
    cases he : pr N (.ex 0) l1 with
    | out => rw [he] at hr; exact absurd rfl hr
    | bad p =>
      rw [he] at CE
      go_enter Tryz.func161, Tryz.ntmps161
      go_wp2_with (first | (go_at_call 88; refine (is_v b m T l1 t _ _ (h.alloc _) (by assumption)).mono ?_; rintro e w1 ⟨rfl, hb1⟩; have T1 := (h.tk.alloc _).below hb1) | (go_at_call 122; refine (take_p b m T l1 t _ T1.ps h56).mono ?_; rintro e w2 ⟨rfl, hT2⟩; have T2 := (T1.trans hT2).alloc (.cells #[.int .i64 9, .string ⟨#[]⟩, .int .i64 0, .int .i64 t.p, .slice none 0 0] 42)) | (go_at_call 149; refine (CE _ T2.ps (by simp)).mono ?_; rintro e w3 ⟨he, hk⟩; unfold refp at he; subst he))
      exact ⟨rfl, rfl, T2.ky.trans hk⟩
    | ok g l2 =>
      obtain ⟨t2, l3, rfl⟩ := (pr_ends he (h.ends.tail h56)).cons
      rw [he] at CE hr
      simp only [PR.bind, need] at hr ⊢
      by_cases h18 : cls t2 = 18
      · rw [if_pos (show hc (t2 :: l3) = 18 from h18)]
        have wt218 : rd t2 [41] = true := cls_rd (c := 18) (by omega) (by decide) (by decide)
        go_enter Tryz.func161, Tryz.ntmps161
        go_wp2_with (first | (go_at_call 88; refine (is_v b m T l1 t _ _ (h.alloc _) (by assumption)).mono ?_; rintro e w1 ⟨rfl, hb1⟩; have T1 := (h.tk.alloc _).below hb1; have R1 := (Bx.new W 42 _).below hb1) | (go_at_call 122; refine (take_p b m T l1 t _ T1.ps h56).mono ?_; rintro e w2 ⟨rfl, hT2⟩; have T2' := T1.trans hT2; have s2 := T2'.ky.size; have T2 := T2'.alloc (.cells #[.int .i64 (9), .string ⟨#[]⟩, .int .i64 (0), .int .i64 (t.p), .slice none 0 0] 42); have R2 := (R1.ky hT2.ky hbW).alloc (.cells #[.int .i64 (9), .string ⟨#[]⟩, .int .i64 (0), .int .i64 (t.p), .slice none 0 0] 42); have L2 := Bx.new w2 42 #[.int .i64 9, .string ⟨#[]⟩, .int .i64 0, .int .i64 t.p, .slice none 0 0]; have R2lt := (R1.ky hT2.ky hbW).lt) | (go_at_call 149; refine (CE _ T2.ps (by simp)).mono ?_; rintro e w3 ⟨k, tt, n, p, a1, c1, ks, rfl, rfl, hTN, hTk⟩; have s3 := hTk.ky.size; have T3 := (T2.trans hTk).alloc (.cells #[.int .i64 (k), .string ⟨(tt).toArray⟩, .int .i64 (n), .int .i64 (p), .slice a1 ks.len c1] 42); have L3 := L2.ky hTk.ky (by omega); have R3 := (R2.ky hTk.ky hbW).alloc (.cells #[.int .i64 (k), .string ⟨(tt).toArray⟩, .int .i64 (n), .int .i64 (p), .slice a1 ks.len c1] 42); obtain ⟨-, -, -, -, l4⟩ := L3.fiveA; obtain ⟨-, -, -, -, lf4⟩ := L3.frozen5A; have K3 := hTN.row1 (Q := fun g => w2.heap.size < g) (fun g hg _ => by simp at hg; omega) (by simp at s3; omega); have L4 := (L3.alloc (.cells #[.int .i64 (k), .string ⟨(tt).toArray⟩, .int .i64 (n), .int .i64 (p), .slice a1 ks.len c1] 42)).put4 (.slice (some ⟨w3.heap.size, 0, none⟩) 1 1); have K4 := K3.set (X := w2.heap.size) (o := 4) (Nat.lt_irrefl _) (.slice (some ⟨w3.heap.size, 0, none⟩) 1 1); have T4 := T3.new (X := w2.heap.size) (o := 4) s2 hlt.2 (.slice (some ⟨w3.heap.size, 0, none⟩) 1 1); have R4 := R3.set (b := w2.heap.size) (o := 4) (by omega) (.slice (some ⟨w3.heap.size, 0, none⟩) 1 1); obtain ⟨w4, hw4⟩ : ∃ w4, (w3.alloc (.cells #[.int .i64 (k), .string ⟨(tt).toArray⟩, .int .i64 (n), .int .i64 (p), .slice a1 ks.len c1] 42)).setCell ⟨w2.heap.size, 4, none⟩ (.slice (some ⟨w3.heap.size, 0, none⟩) 1 1) = w4 := ⟨_, rfl⟩; rw [hw4] at L4 K4 T4 R4) | (go_at_call 125; refine (expect_t b m T l3 t2 _ _ T4.ps (by assumption)).mono ?_; rintro e w5 ⟨rfl, hT5⟩; have T5 := T4.trans hT5; have R5 := R4.ky hT5.ky hbW; have L5 := L4.ky hT5.ky (by omega); have K5 := K4.ky hT5.ky (by omega); obtain ⟨q0, q1, q2, q3, q4⟩ := R5.five; obtain ⟨f0, f1, f2, f3, f4⟩ := R5.frozen5; obtain ⟨p0, p1, p2, p3, p4⟩ := L5.five))
        refine bodyPost_ret (v := (.agg #[.int .i64 (9), .string ⟨#[]⟩, .int .i64 (0), .int .i64 (t.p), .slice (some ⟨w3.heap.size, 0, none⟩) 1 1])) (by simp [results, Tryz.results161, go_sem, q0, q1, q2, q3, q4]) rfl ?_
        exact PN.five (K5.node 9 [] 0 t.p) T5 (fun g hg => by omega) hlt.2
      · rw [if_neg (show ¬ hc (t2 :: l3) = 18 from h18)]
        have wt218 : rd t2 [41] = false := cls_nrd (c := 18) (by omega) (by decide) (by decide)
        go_enter Tryz.func161, Tryz.ntmps161
        go_wp2_with (first | (go_at_call 88; refine (is_v b m T l1 t _ _ (h.alloc _) (by assumption)).mono ?_; rintro e w1 ⟨rfl, hb1⟩; have T1 := (h.tk.alloc _).below hb1; have R1 := (Bx.new W 42 _).below hb1) | (go_at_call 122; refine (take_p b m T l1 t _ T1.ps h56).mono ?_; rintro e w2 ⟨rfl, hT2⟩; have T2' := T1.trans hT2; have s2 := T2'.ky.size; have T2 := T2'.alloc (.cells #[.int .i64 (9), .string ⟨#[]⟩, .int .i64 (0), .int .i64 (t.p), .slice none 0 0] 42); have R2 := (R1.ky hT2.ky hbW).alloc (.cells #[.int .i64 (9), .string ⟨#[]⟩, .int .i64 (0), .int .i64 (t.p), .slice none 0 0] 42); have L2 := Bx.new w2 42 #[.int .i64 9, .string ⟨#[]⟩, .int .i64 0, .int .i64 t.p, .slice none 0 0]; have R2lt := (R1.ky hT2.ky hbW).lt) | (go_at_call 149; refine (CE _ T2.ps (by simp)).mono ?_; rintro e w3 ⟨k, tt, n, p, a1, c1, ks, rfl, rfl, hTN, hTk⟩; have s3 := hTk.ky.size; have T3 := (T2.trans hTk).alloc (.cells #[.int .i64 (k), .string ⟨(tt).toArray⟩, .int .i64 (n), .int .i64 (p), .slice a1 ks.len c1] 42); have L3 := L2.ky hTk.ky (by omega); have R3 := (R2.ky hTk.ky hbW).alloc (.cells #[.int .i64 (k), .string ⟨(tt).toArray⟩, .int .i64 (n), .int .i64 (p), .slice a1 ks.len c1] 42); obtain ⟨-, -, -, -, l4⟩ := L3.fiveA; obtain ⟨-, -, -, -, lf4⟩ := L3.frozen5A; have K3 := hTN.row1 (Q := fun g => w2.heap.size < g) (fun g hg _ => by simp at hg; omega) (by simp at s3; omega); have L4 := (L3.alloc (.cells #[.int .i64 (k), .string ⟨(tt).toArray⟩, .int .i64 (n), .int .i64 (p), .slice a1 ks.len c1] 42)).put4 (.slice (some ⟨w3.heap.size, 0, none⟩) 1 1); have K4 := K3.set (X := w2.heap.size) (o := 4) (Nat.lt_irrefl _) (.slice (some ⟨w3.heap.size, 0, none⟩) 1 1); have T4 := T3.new (X := w2.heap.size) (o := 4) s2 hlt.2 (.slice (some ⟨w3.heap.size, 0, none⟩) 1 1); have R4 := R3.set (b := w2.heap.size) (o := 4) (by omega) (.slice (some ⟨w3.heap.size, 0, none⟩) 1 1); obtain ⟨w4, hw4⟩ : ∃ w4, (w3.alloc (.cells #[.int .i64 (k), .string ⟨(tt).toArray⟩, .int .i64 (n), .int .i64 (p), .slice a1 ks.len c1] 42)).setCell ⟨w2.heap.size, 4, none⟩ (.slice (some ⟨w3.heap.size, 0, none⟩) 1 1) = w4 := ⟨_, rfl⟩; rw [hw4] at L4 K4 T4 R4) | (go_at_call 125; refine (expect_f b m T l3 t2 _ _ T4.ps (by assumption)).mono ?_; rintro e w5 ⟨he, hb5⟩; unfold refp at he; subst he))
        exact ⟨rfl, rfl, T4.ky.trans (.of_below hb5)⟩
  · rw [if_neg (show ¬ hc (t :: l1) = 17 from h17)] at hr ⊢
    have wt17 : rd t [40] = false := cls_nrd (c := 17) (by omega) (by decide) (by decide)
    unfold nam at hr ⊢
    by_cases h51 : cls t = 51
    · rw [if_pos (show hc (t :: l1) = 51 from h51)] at hr ⊢
      go_enter Tryz.func161, Tryz.ntmps161
      go_wp2_with (first | (go_at_call 88; refine (is_v b m T l1 t _ _ (h.alloc _) (by assumption)).mono ?_; rintro e w1 ⟨rfl, hb1⟩; have T1 := (h.tk.alloc _).below hb1; have R1 := (Bx.new W 42 _).below hb1) | (go_at_call 124; refine (name_yes b m T l1 t _ T1.ps h51).mono ?_; rintro e w2 ⟨rfl, hT2⟩; have T2 := T1.trans hT2; have R2 := R1.ky hT2.ky hbW; obtain ⟨q0, q1, q2, q3, q4⟩ := R2.five; obtain ⟨f0, f1, f2, f3, f4⟩ := R2.frozen5))
      refine bodyPost_ret (v := (.agg #[.int .i64 (6), .string ⟨(t.t).toArray⟩, .int .i64 (0), .int .i64 (t.p), .slice none 0 0])) (by simp [results, Tryz.results161, go_sem, q0, q1, q2, q3, q4]) rfl ?_
      exact PN.five (ks := .nil) (TN.leaf _ _ (fun g => W.heap.size < g) _ _ _ _) T2 (fun _ e => e) hlt.2
    · rw [if_neg (show ¬ hc (t :: l1) = 51 from h51)] at hr ⊢
      go_enter Tryz.func161, Tryz.ntmps161
      go_wp2_with (first | (go_at_call 88; refine (is_v b m T l1 t _ _ (h.alloc _) (by assumption)).mono ?_; rintro e w1 ⟨rfl, hb1⟩; have T1 := (h.tk.alloc _).below hb1) | (go_at_call 124; refine (name_no b m T l1 t _ T1.ps h51).mono ?_; rintro e w2 ⟨he, hb2⟩; unfold refp at he; subst he))
      exact ⟨rfl, rfl, T1.ky.trans (.of_below hb2)⟩
set_option maxRecDepth 20000 in
set_option maxHeartbeats 4000000 in
theorem args_any (N : Nat) (H : CC N) (b m : Nat) (T l : List Tok) (W : World) (P : Nat → Prop) (a : Option Addr) (c : Nat) (f : F) (h : Row b m T l W P a c f) (hr : argP (pr N) f l ≠ .out) : Calls Tryz.prog 163 #[.pointer (some ⟨b, 0, none⟩), .slice a f.len c] W (PL b m T W P (.slice a f.len c) (argP (pr N) f l)) := by
  obtain ⟨t, l1, rfl⟩ := h.ps.cons
  unfold argP at hr ⊢
  by_cases h18 : cls t = 18
  · rw [if_pos (show hc (t :: l1) = 18 from h18)] at hr ⊢
    have wt18 : rd t [41] = true := cls_rd (c := 18) (by omega) (by decide) (by decide)
    go_enter Tryz.func163, Tryz.ntmps163
    go_wp2_with (go_at_call 87; refine (accept_t b m T l1 t _ _ h.ps (by assumption)).mono ?_; rintro e w3 ⟨rfl, hT⟩; have hrow := h.took hT)
    go_ret
    exact ⟨a, c, rfl, hrow.kl, hT.ps, hT.ky.mono fun _ _ e => .inl e⟩
  · rw [if_neg (show ¬ hc (t :: l1) = 18 from h18)] at hr ⊢
    have wt18 : rd t [41] = false := cls_nrd (c := 18) (by omega) (by decide) (by decide)
    have CL := fun W h => H.lst b m T (t :: l1) W P a c f h
    cases he : pr N (.lst f) (t :: l1) with
    | out => rw [he] at hr; exact absurd rfl hr
    | bad p =>
      rw [he] at CL
      simp only [PR.bind] at hr ⊢
      go_enter Tryz.func163, Tryz.ntmps163
      go_wp2_with (first | (go_at_call 87; refine (accept_f b m T l1 t _ _ h.ps (by assumption)).mono ?_; rintro e w3 ⟨rfl, hb⟩; have hrow := h.past hb) | (go_at_call 123; refine (CL _ hrow (by simp)).mono ?_; rintro e w4 ⟨he, hk⟩; unfold refp at he; subst he))
      exact ⟨rfl, rfl, (Ky.of_below hb).trans hk⟩
    | ok g l2 =>
      obtain ⟨t2, l3, rfl⟩ := (pr_ends he h.ps.ends).cons
      rw [he] at CL hr
      simp only [PR.bind, need] at hr ⊢
      by_cases h2 : cls t2 = 18
      · rw [if_pos (show hc (t2 :: l3) = 18 from h2)]
        have wt218 : rd t2 [41] = true := cls_rd (c := 18) (by omega) (by decide) (by decide)
        go_enter Tryz.func163, Tryz.ntmps163
        go_wp2_with (first | (go_at_call 87; refine (accept_f b m T l1 t _ _ h.ps (by assumption)).mono ?_; rintro e w3 ⟨rfl, hb⟩; have hrow := h.past hb) | (go_at_call 123; refine (CL _ hrow (by simp)).mono ?_; rintro e w4 ⟨a1, c1, rfl, hkl, hps, hk⟩) | (go_at_call 125; refine (expect_t b m T l3 t2 _ _ hps (by assumption)).mono ?_; rintro e w5 ⟨rfl, hT5⟩))
        go_ret
        have hlt := h.ps.lt
        exact ⟨a1, c1, rfl, hkl.ky hT5.ky (fun g hg e => h.lo g (by omega) hg), hT5.ps, ((Ky.of_below hb).trans hk).trans (hT5.ky.mono fun _ _ e => .inl e)⟩
      · rw [if_neg (show ¬ hc (t2 :: l3) = 18 from h2)]
        have wt218 : rd t2 [41] = false := cls_nrd (c := 18) (by omega) (by decide) (by decide)
        go_enter Tryz.func163, Tryz.ntmps163
        go_wp2_with (first | (go_at_call 87; refine (accept_f b m T l1 t _ _ h.ps (by assumption)).mono ?_; rintro e w3 ⟨rfl, hb⟩; have hrow := h.past hb) | (go_at_call 123; refine (CL _ hrow (by simp)).mono ?_; rintro e w4 ⟨a1, c1, rfl, hkl, hps, hk⟩) | (go_at_call 125; refine (expect_f b m T l3 t2 _ _ hps (by assumption)).mono ?_; rintro e w5 ⟨he, hb5⟩; unfold refp at he; subst he))
        exact ⟨rfl, rfl, ((Ky.of_below hb).trans hk).trans (.of_below hb5)⟩
end Go.Proofs.YtmejlldabdjpjaaGreat

/- The walk of expression. -/
namespace Go.Proofs.YtmejlldabdjpjaaGreat
open Go.RowKit
/-- A tree whose kids a composite lays. -/
theorem TN.made {E : TypeId} {w : World} {Q : Nat → Prop} {cur : Array Value} {f : F} {c : Nat} (h : KF E w Q cur.toList f) (hQ : Q w.heap.size) (hc : f.len = c) (hl : c ≤ maxLen) (k : Int) (t : List UInt8) (n p : Int) : TN E (w.alloc (.cells cur E)) Q k t n p (.slice (some ⟨w.heap.size, 0, none⟩) c c) f := by
  subst hc
  have hs : cur.size = f.len * 5 := by rw [← h.len]; simp
  refine ⟨.cons ⟨by simpa using hs, .inr ⟨w.heap.size, f.len, cur, rfl, Nat.zero_le _, Go.heap_alloc_new w _, Nat.le_refl _, hl, hs, by rw [← hs]; exact List.take_of_length_le (by simp)⟩⟩ (fun g hg => ?_) (h.keep fun g _ hl => (World.grownBy_alloc w _ none).block g hl (by simp)) .nil⟩
  have e2 : w.heap.size = g := by simpa [Value.ownBlock] using hg
  rw [← e2]; exact hQ
theorem TN.five {E : TypeId} {w : World} {P : Nat → Prop} {k : Int} {t : List UInt8} {n p : Int} {v : Value} {ks : F} {X : Nat} (h : TN E w P k t n p v ks) (hX : ¬ P X) (u0 u1 u2 u3 u4 : Value) : TN E (((((w.setCell ⟨X, 0, none⟩ u0).setCell ⟨X, 1, none⟩ u1).setCell ⟨X, 2, none⟩ u2).setCell ⟨X, 3, none⟩ u3).setCell ⟨X, 4, none⟩ u4) P k t n p v ks :=
  ((((h.set hX u0).set hX u1).set hX u2).set hX u3).set hX u4
theorem Bx.five_put {X : Nat} {e : TypeId} {a b c d f : Value} {w : World} (h : Bx X e #[a, b, c, d, f] w) (u0 u1 u2 u3 u4 : Value) : Bx X e #[u0, u1, u2, u3, u4] (((((w.setCell ⟨X, 0, none⟩ u0).setCell ⟨X, 1, none⟩ u1).setCell ⟨X, 2, none⟩ u2).setCell ⟨X, 3, none⟩ u3).setCell ⟨X, 4, none⟩ u4) :=
  ((((h.put (j := 0) u0).put (j := 1) u1).put (j := 2) u2).put (j := 3) u3).put (j := 4) u4
theorem Bx.five_set {X Y : Nat} {e : TypeId} {cur : Array Value} {w : World} (h : Bx X e cur w) (hX : X ≠ Y) (u0 u1 u2 u3 u4 : Value) : Bx X e cur (((((w.setCell ⟨Y, 0, none⟩ u0).setCell ⟨Y, 1, none⟩ u1).setCell ⟨Y, 2, none⟩ u2).setCell ⟨Y, 3, none⟩ u3).setCell ⟨Y, 4, none⟩ u4) :=
  ((((h.set hX u0).set hX u1).set hX u2).set hX u3).set hX u4
/-- A tree in its variable's block, with the parser and the result's block. -/
structure Lf (b m : Nat) (T l : List Tok) (W : World) (X : Nat) (k : Int) (t : List UInt8) (n p : Int) (v : Value) (ks : F) (w : World) : Prop where
  tk : Tk b m T l W w
  res : Bx W.heap.size 42 #[.int .i64 0, .string ⟨#[]⟩, .int .i64 0, .int .i64 0, .slice none 0 0] w
  box : Bx X 42 #[.int .i64 k, .string ⟨t.toArray⟩, .int .i64 n, .int .i64 p, v] w
  tn : TN 42 w (fun g => W.heap.size < g ∧ g ≠ X) k t n p v ks
  lt : b < W.heap.size ∧ m ≤ W.heap.size ∧ W.heap.size < X
section
variable {b m : Nat} {T l : List Tok} {W : World} {X : Nat} {k : Int} {t : List UInt8} {n p : Int} {v : Value} {ks : F} {w w' : World}
theorem Lf.below (h : Lf b m T l W X k t n p v ks w) (hb : Below w.heap.size w w') : Lf b m T l W X k t n p v ks w' := ⟨h.tk.below hb, h.res.below hb, h.box.below hb, h.tn.below hb, h.lt⟩
theorem Lf.alloc (h : Lf b m T l W X k t n p v ks w) (o : Obj) : Lf b m T l W X k t n p v ks (w.alloc o) := ⟨h.tk.alloc o, h.res.alloc o, h.box.alloc o, h.tn.alloc o, h.lt⟩
theorem Lf.took {l' : List Tok} (h : Lf b m T l W X k t n p v ks w) (hT : Tk b m T l' w w') : Lf b m T l' W X k t n p v ks w' := by
  have hlt := h.lt
  exact ⟨h.tk.trans hT, h.res.ky hT.ky (by omega), h.box.ky hT.ky (by omega), h.tn.ky hT.ky (by omega), h.lt⟩
/-- Another tree is stored there. -/
theorem Lf.put {k' : Int} {t' : List UInt8} {n' p' : Int} {v' : Value} {ks' : F} (h : Lf b m T l W X k t n p v ks w) (ht : TN 42 w (fun g => W.heap.size < g ∧ g ≠ X) k' t' n' p' v' ks') :
    Lf b m T l W X k' t' n' p' v' ks' (((((w.setCell ⟨X, 0, none⟩ (.int .i64 k')).setCell ⟨X, 1, none⟩ (.string ⟨t'.toArray⟩)).setCell ⟨X, 2, none⟩ (.int .i64 n')).setCell ⟨X, 3, none⟩ (.int .i64 p')).setCell ⟨X, 4, none⟩ v') := by
  have hlt := h.lt
  exact ⟨h.tk.five (by omega) hlt.2.1 _ _ _ _ _, h.res.five_set (by omega) _ _ _ _ _, h.box.five_put _ _ _ _ _, ht.five (by omega) _ _ _ _ _, h.lt⟩
end
set_option maxRecDepth 20000 in
set_option maxHeartbeats 8000000 in
theorem expr_any (N : Nat) (H : ∀ n, n ≤ N → CC n) (a : Nat) (b m : Nat) (T l : List Tok) (W : World) (h : PS b m T l W) (hr : pr (N + 1) (.ex a) l ≠ .out) : Calls Tryz.prog 149 #[.pointer (some ⟨b, 0, none⟩), .int .i64 a] W (PN b m T W (pr (N + 1) (.ex a) l)) := by
  have hlt := h.lt
  have hbW : W.heap.size ≠ b := by omega
  obtain ⟨R, hR⟩ : ∃ R, pr (N + 1) (.ex a) l = R := ⟨_, rfl⟩
  rw [hR] at hr ⊢
  rw [pr_succ] at hR
  simp only [stp'] at hR
  have CE := fun W h => (H N (Nat.le_refl _)).opd b m T l W h
  cases he : pr N .opd l with
  | out => rw [he] at hR; exact absurd hR.symm hr
  | bad p =>
    rw [he] at hR CE
    simp only [PR.bind] at hR
    subst hR
    go_enter Tryz.func149, Tryz.ntmps149
    go_wp2_with (go_at_call 159; refine (CE _ (h.alloc _) (by simp)).mono ?_; rintro e w1 ⟨he, hk⟩; unfold refp at he; subst he)
    exact ⟨rfl, rfl, ((Ky.refl (fun k => k = b) W).alloc _).trans hk⟩
  | ok g l1 =>
    rw [he] at hR CE
    simp only [PR.bind] at hR
    go_enter Tryz.func149, Tryz.ntmps149
    go_wp2_with (go_at_call 159; refine (CE _ (h.alloc _) (by simp)).mono ?_; rintro e w1 ⟨k, tt, n, p, a1, c1, ks, rfl, rfl, hTN, hTk⟩; have R1 := (Bx.new W 42 _).ky hTk.ky hbW; have T1 := (h.tk.alloc _).trans hTk)
    have hX1 : W.heap.size < w1.heap.size := R1.lt
    replace hR : Hid (pr N (.exl a (one k tt n p ks)) l1 = R) := hR
    have hL : Lf b m T l1 W w1.heap.size k tt n p (.slice a1 ks.len c1) ks (w1.alloc (.cells #[.int .i64 (k), .string ⟨(tt).toArray⟩, .int .i64 (n), .int .i64 (p), .slice a1 ks.len c1] 42)) := ⟨T1.alloc _, R1.alloc _, Bx.new _ _ _, (hTN.mono fun g hg hl => ⟨by simp at hg; omega, by omega⟩).alloc _, by omega⟩
    obtain ⟨X, hX⟩ : ∃ X, w1.heap.size = X := ⟨_, rfl⟩
    obtain ⟨wS, hwS⟩ : ∃ wS, w1.alloc (.cells #[.int .i64 (k), .string ⟨(tt).toArray⟩, .int .i64 (n), .int .i64 (p), .slice a1 ks.len c1] 42) = wS := ⟨_, rfl⟩
    rw [hX] at hX1 hL ⊢
    rw [hwS] at hL ⊢
    clear hwS hTN hTk R1 T1 CE he
    go_loopg [] (N + 2) (fun gf wx => ∃ (q : Nat) (k : Int) (tt : List UInt8) (n p : Int) (a' : Option Addr) (c' : Nat) (ks : F) (l' : List Tok), q ≤ N ∧ Lf b m T l' W X k tt n p (.slice a' ks.len c') ks wx ∧ Hid (pr q (.exl a (one k tt n p ks)) l' = R) ∧ q < gf)
    case atStart => exact ⟨N, k, tt, n, p, a1, c1, ks, l1, Nat.le_refl _, hL, hR, by omega⟩
    case round =>
      clear hL hR hX
      obtain ⟨q, k, tt, n, p, a1, c1, ks, l', hq, hL, hR, hfu⟩ := hrel
      obtain ⟨t, l2, rfl⟩ := hL.tk.ps.cons
      cases q with
      | zero => exact absurd hR.out.symm hr
      | succ q =>
        have hR := hR.out
        rw [pr_succ] at hR
        simp only [stp'] at hR
        by_cases hb : a < bnd (cls t)
        · rw [if_pos (show a < bnd (hc (t :: l2)) from hb)] at hR
          change (pr q (.ex (if bnd (cls t) = 4 then 3 else bnd (cls t))) l2).bind (fun g l1 => pr q (.exl a (one 11 t.t 0 p ((one k tt n p ks).app g))) l1) = R at hR
          have h56 : cls t ≠ 56 := by intro e; rw [e] at hb; exact absurd hb (by simp [bnd])
          obtain ⟨v, hv⟩ : ∃ v, bnd (cls t) = v := ⟨_, rfl⟩
          have CB := fun w => binding_any t w
          rw [hv] at hR hb CB
          have hva : (a : Int) < v := by omega
          obtain ⟨v', hv'⟩ : ∃ v', (if v = 4 then 3 else v) = v' := ⟨_, rfl⟩
          rw [hv'] at hR
          have CE := fun W h => (H q (by omega)).ex v' b m T l2 W h
          cases he : pr q (.ex v') l2 with
          | out => rw [he] at hR; exact absurd hR.symm hr
          | bad p2 =>
            rw [he] at hR CE
            simp only [PR.bind] at hR
            subst hR
            by_cases h4 : v = 4
            · rw [if_pos h4] at hv'
              subst hv' h4
              go_wp2_with (first | (go_at_call 49; refine (token_any b m T l2 t _ hL.tk.ps).mono ?_; rintro e w2 ⟨rfl, hb2⟩; have T2 := hL.tk.below hb2) | (go_at_call 160; refine (CB _).mono ?_; rintro e w3 ⟨rfl, hb3⟩; have T2 := T2.below hb3) | (go_at_call 122; refine (take_p b m T l2 t _ T2.ps h56).mono ?_; rintro e w3 ⟨rfl, hT3⟩; have T2 := (T2.trans hT3).alloc (.cells #[.int .i64 t.k, .string ⟨t.t.toArray⟩, .int .i64 t.v, .int .i64 t.p] 86)) | (go_at_call 149; refine (CE _ T2.ps (by simp)).mono ?_; rintro e w3 ⟨he, hk⟩; unfold refp at he; subst he))
              exact ⟨rfl, rfl, T2.ky.trans hk⟩
            · rw [if_neg h4] at hv'
              subst hv'
              have h4' : ¬ (v : Int) = 4 := by omega
              go_wp2_with (first | (go_at_call 49; refine (token_any b m T l2 t _ hL.tk.ps).mono ?_; rintro e w2 ⟨rfl, hb2⟩; have T2 := hL.tk.below hb2) | (go_at_call 160; refine (CB _).mono ?_; rintro e w3 ⟨rfl, hb3⟩; have T2 := T2.below hb3) | (go_at_call 122; refine (take_p b m T l2 t _ T2.ps h56).mono ?_; rintro e w3 ⟨rfl, hT3⟩; have T2 := (T2.trans hT3).alloc (.cells #[.int .i64 t.k, .string ⟨t.t.toArray⟩, .int .i64 t.v, .int .i64 t.p] 86)) | (go_at_call 149; refine (CE _ T2.ps (by simp)).mono ?_; rintro e w3 ⟨he, hk⟩; unfold refp at he; subst he))
              exact ⟨rfl, rfl, T2.ky.trans hk⟩
          | ok g l3 =>
            rw [he] at hR CE
            simp only [PR.bind] at hR
            have hR : Hid (pr q (.exl a (one 11 t.t 0 p ((one k tt n p ks).app g))) l3 = R) := hR
            by_cases h4 : v = 4
            · rw [if_pos h4] at hv'
              subst hv' h4
              go_wp2_with (first | (go_at_call 49; refine (token_any b m T l2 t _ hL.tk.ps).mono ?_; rintro e w2 ⟨rfl, hb2⟩; have L2 := hL.below hb2) | (go_at_call 160; refine (CB _).mono ?_; rintro e w3 ⟨rfl, hb3⟩; first | (have S2 := S2.below hb3; have L2 := L2.below hb3) | (have L2 := L2.below hb3)) | (go_at_call 122; refine (take_p b m T l2 t _ L2.tk.ps h56).mono ?_; rintro e w3 ⟨rfl, hT3⟩; have L2 := (L2.took hT3).alloc (.cells #[.int .i64 t.k, .string ⟨t.t.toArray⟩, .int .i64 t.v, .int .i64 t.p] 86); have S2 := Bx.new w3 86 #[.int .i64 t.k, .string ⟨t.t.toArray⟩, .int .i64 t.v, .int .i64 t.p]; have s1 : w3.heap.size ≠ b := by have := hT3.ps.lt; omega) | (go_at_call 149; refine (CE _ L2.tk.ps (by simp)).mono ?_; rintro e w4 ⟨k2, tt2, n2, p2, a2, c2, ks2, rfl, rfl, hTN, hTk⟩; have hX4 := L2.box.lt; have L5 := (L2.took hTk).alloc (.cells #[.int .i64 (k2), .string ⟨(tt2).toArray⟩, .int .i64 (n2), .int .i64 (p2), .slice a2 ks2.len c2] 42); have S5 := (S2.ky hTk.ky s1).alloc (.cells #[.int .i64 (k2), .string ⟨(tt2).toArray⟩, .int .i64 (n2), .int .i64 (p2), .slice a2 ks2.len c2] 42); have Q5 := Bx.new w4 42 #[.int .i64 k2, .string ⟨tt2.toArray⟩, .int .i64 n2, .int .i64 p2, .slice a2 ks2.len c2]; have M5 := (hTN.mono (Q := fun g => W.heap.size < g ∧ g ≠ X) (fun g hg _ => ⟨by have := L2.lt; omega, by omega⟩)).alloc (.cells #[.int .i64 (k2), .string ⟨(tt2).toArray⟩, .int .i64 (n2), .int .i64 (p2), .slice a2 ks2.len c2] 42); obtain ⟨w5, hw5⟩ : ∃ w5, w4.alloc (.cells #[.int .i64 (k2), .string ⟨(tt2).toArray⟩, .int .i64 (n2), .int .i64 (p2), .slice a2 ks2.len c2] 42) = w5 := ⟨_, rfl⟩; rw [hw5] at L5 S5 Q5 M5; obtain ⟨p0, p1, p2', p3, p4⟩ := L5.box.five; obtain ⟨q0, q1, q2, q3, q4⟩ := L5.box.fiveA; obtain ⟨f0, f1, f2, f3, f4⟩ := L5.box.frozen5A; have s1' := S5.c 1 _ rfl; obtain ⟨r0, r1, r2, r3, r4⟩ := Q5.five))
              have hX5 := L5.box.lt
              have hlt5 := L5.lt
              have M6 := TN.made (cur := #[.int .i64 k, .string ⟨tt.toArray⟩, .int .i64 n, .int .i64 p, .slice a1 ks.len c1, .int .i64 k2, .string ⟨tt2.toArray⟩, .int .i64 n2, .int .i64 p2, .slice a2 ks2.len c2]) (c := 2) (L5.tn.kf.app M5.kf) (by constructor <;> omega) rfl (by unfold maxLen; omega) 11 t.t 0 p
              go_roundg (q + 1)
              case measure => omega
              case rel => exact ⟨q, _, _, _, _, _, _, _, l3, by omega, (L5.alloc _).put M6, hR, by omega⟩
            · rw [if_neg h4] at hv'
              subst hv'
              have h4' : ¬ (v : Int) = 4 := by omega
              go_wp2_with (first | (go_at_call 49; refine (token_any b m T l2 t _ hL.tk.ps).mono ?_; rintro e w2 ⟨rfl, hb2⟩; have L2 := hL.below hb2) | (go_at_call 160; refine (CB _).mono ?_; rintro e w3 ⟨rfl, hb3⟩; first | (have S2 := S2.below hb3; have L2 := L2.below hb3) | (have L2 := L2.below hb3)) | (go_at_call 122; refine (take_p b m T l2 t _ L2.tk.ps h56).mono ?_; rintro e w3 ⟨rfl, hT3⟩; have L2 := (L2.took hT3).alloc (.cells #[.int .i64 t.k, .string ⟨t.t.toArray⟩, .int .i64 t.v, .int .i64 t.p] 86); have S2 := Bx.new w3 86 #[.int .i64 t.k, .string ⟨t.t.toArray⟩, .int .i64 t.v, .int .i64 t.p]; have s1 : w3.heap.size ≠ b := by have := hT3.ps.lt; omega) | (go_at_call 149; refine (CE _ L2.tk.ps (by simp)).mono ?_; rintro e w4 ⟨k2, tt2, n2, p2, a2, c2, ks2, rfl, rfl, hTN, hTk⟩; have hX4 := L2.box.lt; have L5 := (L2.took hTk).alloc (.cells #[.int .i64 (k2), .string ⟨(tt2).toArray⟩, .int .i64 (n2), .int .i64 (p2), .slice a2 ks2.len c2] 42); have S5 := (S2.ky hTk.ky s1).alloc (.cells #[.int .i64 (k2), .string ⟨(tt2).toArray⟩, .int .i64 (n2), .int .i64 (p2), .slice a2 ks2.len c2] 42); have Q5 := Bx.new w4 42 #[.int .i64 k2, .string ⟨tt2.toArray⟩, .int .i64 n2, .int .i64 p2, .slice a2 ks2.len c2]; have M5 := (hTN.mono (Q := fun g => W.heap.size < g ∧ g ≠ X) (fun g hg _ => ⟨by have := L2.lt; omega, by omega⟩)).alloc (.cells #[.int .i64 (k2), .string ⟨(tt2).toArray⟩, .int .i64 (n2), .int .i64 (p2), .slice a2 ks2.len c2] 42); obtain ⟨w5, hw5⟩ : ∃ w5, w4.alloc (.cells #[.int .i64 (k2), .string ⟨(tt2).toArray⟩, .int .i64 (n2), .int .i64 (p2), .slice a2 ks2.len c2] 42) = w5 := ⟨_, rfl⟩; rw [hw5] at L5 S5 Q5 M5; obtain ⟨p0, p1, p2', p3, p4⟩ := L5.box.five; obtain ⟨q0, q1, q2, q3, q4⟩ := L5.box.fiveA; obtain ⟨f0, f1, f2, f3, f4⟩ := L5.box.frozen5A; have s1' := S5.c 1 _ rfl; obtain ⟨r0, r1, r2, r3, r4⟩ := Q5.five))
              have hX5 := L5.box.lt
              have hlt5 := L5.lt
              have M6 := TN.made (cur := #[.int .i64 k, .string ⟨tt.toArray⟩, .int .i64 n, .int .i64 p, .slice a1 ks.len c1, .int .i64 k2, .string ⟨tt2.toArray⟩, .int .i64 n2, .int .i64 p2, .slice a2 ks2.len c2]) (c := 2) (L5.tn.kf.app M5.kf) (by constructor <;> omega) rfl (by unfold maxLen; omega) 11 t.t 0 p
              go_roundg (q + 1)
              case measure => omega
              case rel => exact ⟨q, _, _, _, _, _, _, _, l3, by omega, (L5.alloc _).put M6, hR, by omega⟩
        · rw [if_neg (show ¬ a < bnd (hc (t :: l2)) from hb)] at hR
          subst hR
          go_wp2_with (first | (go_at_call 49; refine (token_any b m T l2 t _ hL.tk.ps).mono ?_; rintro e w2 ⟨rfl, hb2⟩) | (go_at_call 160; refine (binding_any t _).mono ?_; rintro e w3 ⟨rfl, hb3⟩; have hB := hb2.trans (hb3.mono hb2.size); have R3 := hL.res.below hB; have L3 := hL.box.below hB; obtain ⟨q0, q1, q2, q3, q4⟩ := R3.five; obtain ⟨f0, f1, f2, f3, f4⟩ := R3.frozen5; obtain ⟨p0, p1, p2, p3, p4⟩ := L3.five))
          refine bodyPost_ret (v := (.agg #[.int .i64 (k), .string ⟨(tt).toArray⟩, .int .i64 (n), .int .i64 (p), .slice a1 ks.len c1])) (by simp [results, Tryz.results149, go_sem, q0, q1, q2, q3, q4]) rfl ?_
          exact PN.five (hL.tn.below hB) (hL.tk.below hB) (fun g hg => hg.1) hlt.2
end Go.Proofs.YtmejlldabdjpjaaGreat

/- The walk of Height. -/
namespace Go.Proofs.YtmejlldabdjpjaaGreat
open Go.RowKit
def F.siz : F → Nat
  | .nil => 0
  | .cons _ _ _ _ ks r => ks.siz + r.siz + 1
def F.hgt : F → Nat
  | .nil => 0
  | .cons _ _ _ _ ks r => max (ks.hgt + 1) r.hgt
theorem F.len_siz : ∀ f : F, f.len ≤ f.siz
  | .nil => Nat.le_refl _
  | .cons _ _ _ _ ks r => by have := r.len_siz; simp only [F.len, F.siz]; omega
theorem F.hgt_siz : ∀ f : F, f.hgt ≤ f.siz
  | .nil => Nat.le_refl _
  | .cons _ _ _ _ ks r => by have := r.hgt_siz; have := ks.hgt_siz; simp only [F.hgt, F.siz]; omega
/-- The cells of a row in memory, behind some of them. -/
structure Rw (w : World) (P : Nat → Prop) (a : Option Addr) (i : Nat) (r : F) : Prop where
  ex : ∃ xs, KF 42 w P xs r ∧ (xs ≠ [] → ∃ g, a = some ⟨g, 0, none⟩ ∧ g < w.heap.size ∧ ∀ j u, xs[j]? = some u → w.cell? ⟨g, i * 5 + j, none⟩ = some u)
theorem TN.rw0 {w : World} {P : Nat → Prop} {k : Int} {t : List UInt8} {n p : Int} {a : Option Addr} {c : Nat} {ks : F} (h : TN 42 w P k t n p (.slice a ks.len c) ks) : Rw w P a 0 ks := by
  obtain ⟨_, xs, own, hk⟩ := h.out
  refine ⟨xs, hk, fun hne => ?_⟩
  rcases own.2 with ⟨e1, e2⟩ | ⟨g, cap, cur, e1, _, h3, _, _, _, r4⟩
  · have := own.1; rw [e2] at this; exact absurd (List.eq_nil_of_length_eq_zero (by omega)) hne
  · injection e1 with e1 e2 e3
    refine ⟨g, e1, (Array.getElem?_eq_some_iff.1 h3).1, fun j u hu => ?_⟩
    rw [cell_of_row w g _ cur 42 (0, 0) h3, Nat.zero_mul, Nat.zero_add]
    rw [← r4, List.getElem?_take] at hu
    split at hu
    · simpa using hu
    · cases hu
/-- The next tree of a row. -/
theorem Rw.next {w : World} {P : Nat → Prop} {a : Option Addr} {i : Nat} {k : Int} {t : List UInt8} {n p : Int} {ks r : F} (h : Rw w P a i (.cons k t n p ks r)) : ∃ g a' c', a = some ⟨g, 0, none⟩ ∧ g < w.heap.size ∧ w.cell? ⟨g, i * 5, none⟩ = some (.int .i64 k) ∧ w.cell? ⟨g, i * 5 + 1, none⟩ = some (.string ⟨t.toArray⟩) ∧ w.cell? ⟨g, i * 5 + 2, none⟩ = some (.int .i64 n) ∧ w.cell? ⟨g, i * 5 + 3, none⟩ = some (.int .i64 p) ∧ w.cell? ⟨g, i * 5 + 4, none⟩ = some (.slice a' ks.len c') ∧
    TN 42 w P k t n p (.slice a' ks.len c') ks ∧ Rw w P a (i + 1) r := by
  obtain ⟨xs, hk, hx⟩ := h.ex
  cases hk with
  | @cons _ _ _ _ v xs' rest _ _ own hP hk hr =>
    obtain ⟨g, e, hg, hc⟩ := hx (by simp)
    have hs : ∃ a' c', v = .slice a' ks.len c' := by
      rcases own.2 with ⟨rfl, e2⟩ | ⟨g', cap, cur, rfl, _⟩
      · exact ⟨none, 0, by rw [e2]⟩
      · exact ⟨_, _, rfl⟩
    obtain ⟨a', c', rfl⟩ := hs
    refine ⟨g, a', c', e, hg, hc 0 _ rfl, hc 1 _ rfl, hc 2 _ rfl, hc 3 _ rfl, hc 4 _ rfl, ⟨.cons own hP hk .nil⟩, ⟨rest, hr, fun _ => ⟨g, e, hg, fun j u hu => ?_⟩⟩⟩
    have := hc (j + 5) u (by simpa using hu)
    rw [show (i + 1) * 5 + j = i * 5 + (j + 5) by omega]
    exact this
theorem Rw.below {w w' : World} {P : Nat → Prop} {a : Option Addr} {i : Nat} {r : F} (h : Rw w P a i r) (hb : Below w.heap.size w w') : Rw w' P a i r := by
  obtain ⟨xs, hk, hx⟩ := h.ex
  refine ⟨xs, hk.keep fun g _ hl => hb.block g hl, fun hne => ?_⟩
  obtain ⟨g, e, hg, hc⟩ := hx hne
  exact ⟨g, e, Nat.lt_of_lt_of_le hg hb.size, fun j u hu => (World.cell?_of_block (hb.block g hg)).trans (hc j u hu)⟩
set_option maxRecDepth 20000 in
set_option maxHeartbeats 4000000 in
theorem height_any : ∀ (N : Nat) (ks : F), ks.siz ≤ N → N ≤ 1000000 → ∀ (w : World) (P : Nat → Prop) (k : Int) (t : List UInt8) (n p : Int) (a : Option Addr) (c : Nat), Rw w P a 0 ks →
    Calls Tryz.prog 17 #[(.agg #[.int .i64 (k), .string ⟨(t).toArray⟩, .int .i64 (n), .int .i64 (p), .slice a ks.len c])] w fun e w' => e = .returned (.int .i64 ((ks.hgt + 1 : Nat) : Int)) ∧ Below w.heap.size w w' := by
  intro N
  induction N using Nat.strongRecOn with
  | _ N IH =>
    intro ks hs hN w P k t n p a c hR
    have hl := ks.len_siz
    have hh := ks.hgt_siz
    have B0 := Bx.new w 42 #[.int .i64 k, .string ⟨t.toArray⟩, .int .i64 n, .int .i64 p, .slice a ks.len c]
    obtain ⟨p0, p1, p2, p3, p4⟩ := B0.five
    have K0 : Below w.heap.size w (w.alloc (.cells #[.int .i64 (k), .string ⟨(t).toArray⟩, .int .i64 (n), .int .i64 (p), .slice a ks.len c] 42)) := (Below.refl _ w).alloc (Nat.le_refl _) _
    go_enter Tryz.func17, Tryz.ntmps17
    go_wp2_with fail
    go_loopw [3, 5, 9] (fun hv _ iv wx => ∃ (i h : Nat) (r : F), iv = .int .i64 (i : Nat) ∧ hv = .int .i64 (h : Nat) ∧ i + r.len = ks.len ∧ Hid (max h r.hgt = ks.hgt ∧ r.siz ≤ ks.siz ∧ Rw wx P a i r ∧ Below w.heap.size w wx)) (fun _ _ iv _ => ks.len - (intOf iv).toNat)
    case atStart => exact ⟨0, 0, ks, rfl, rfl, by omega, by omega, Nat.le_refl _, hR.below K0, K0⟩
    case round =>
      obtain ⟨i, h, r, rfl, rfl, hi, HR⟩ := hrel
      cases r with
      | nil =>
        have h1 : ¬ (i : Int) < (ks.len : Int) := by simp only [F.len] at hi; omega
        have hm : h = ks.hgt := by have := HR.out.1; simp only [F.hgt] at this; omega
        have wh : IntKind.i64.wrap ((h : Int) + 1) = (h : Int) + 1 := by rw [IntKind.wrap_i64]; omega
        go_wp2
        go_ret
        exact ⟨rfl, HR.out.2.2.2⟩
      | cons k' t' n' p' ks' r' =>
        simp only [F.len] at hi
        obtain ⟨hm, hz, hr, hb⟩ := HR.out
        simp only [F.siz] at hz
        obtain ⟨g, a', c', rfl, hg, c0, c1, c2, c3, c4, hT, hr'⟩ := hr.next
        have h1 : (i : Int) < (ks.len : Int) := by omega
        have wi : IntKind.i64.wrap ((i : Int) + 1) = (i : Int) + 1 := by rw [IntKind.wrap_i64]; omega
        have K1 : Below wr.heap.size wr (wr.alloc (.cells #[.int .i64 (k'), .string ⟨(t').toArray⟩, .int .i64 (n'), .int .i64 (p'), .slice a' ks'.len c'] 42)) := (Below.refl _ wr).alloc (Nat.le_refl _) _
        have C := IH ks'.siz (by omega) ks' (Nat.le_refl _) (by omega) (wr.alloc (.cells #[.int .i64 (k'), .string ⟨(t').toArray⟩, .int .i64 (n'), .int .i64 (p'), .slice a' ks'.len c'] 42)) P k' t' n' p' a' c' (hT.rw0.below K1)
        have HN : Hid (max h (max (ks'.hgt + 1) r'.hgt) = ks.hgt ∧ r'.siz ≤ ks.siz ∧ Rw wr P (some ⟨g, 0, none⟩) (i + 1) r' ∧ Below w.heap.size w wr ∧ Below wr.heap.size wr (wr.alloc (.cells #[.int .i64 (k'), .string ⟨(t').toArray⟩, .int .i64 (n'), .int .i64 (p'), .slice a' ks'.len c'] 42))) := ⟨hm, by omega, hr', hb, K1⟩
        have hms : ks.len - (i + 1) < ks.len - i := by omega
        clear hm hz hr hb hT hr' K1 HR
        go_wp2_with fail
        refine C.mono ?_; rintro e w1 ⟨rfl, hb1⟩
        have HB1 : Hid (Below wr.heap.size wr w1) := HN.out.2.2.2.2.trans (hb1.mono HN.out.2.2.2.2.size)
        clear C hb1
        go_wp2
        go_round
        case rel =>
          refine ⟨i + 1, max h (ks'.hgt + 1), r', by first | rfl | simp, ?_, by omega, by have := HN.out.1; omega, HN.out.2.1, HN.out.2.2.1.below HB1.out, HN.out.2.2.2.1.trans (HB1.out.mono HN.out.2.2.2.1.size)⟩
          first | rfl | (simp; omega) | (congr 1; omega)
        case measure => first | omega | (simp only [intOf]; omega) | (simp; omega)
end Go.Proofs.YtmejlldabdjpjaaGreat
