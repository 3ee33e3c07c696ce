/- The walk of loop. -/
import Derived.Test.YtmejlldabdjpjaaGreatCg10
import Derived.Test.YtmejlldabdjpjaaGreatCg11
namespace Go.Proofs.YtmejlldabdjpjaaGreat
open Go.RowKit
/-- A tree that is being made: its variable's block, the row of its kids so far, the parser, the result's block. -/
structure Nw (b m : Nat) (T l : List Tok) (W : World) (X : Nat) (k : Int) (t : List UInt8) (n p : Int) (a : Option Addr) (c : Nat) (f : F) (w : World) : Prop where
  tk : Tk b m T l W w
  res : Bx W.heap.size 42 #[.int .i64 0, .string ⟨#[]⟩, .int .i64 0, .int .i64 0, .slice none 0 0] w
  box : Bx X 42 #[.int .i64 k, .string ⟨t.toArray⟩, .int .i64 n, .int .i64 p, .slice a f.len c] w
  kl : KL 42 (fun g => W.heap.size < g ∧ g ≠ X) w (.slice a f.len c) f
  few : f.len + l.length ≤ T.length
  lt : b < W.heap.size ∧ m ≤ W.heap.size ∧ W.heap.size < X
section
variable {b m : Nat} {T l l' : List Tok} {W : World} {X : Nat} {k : Int} {t : List UInt8} {n p : Int} {a : Option Addr} {c : Nat} {f : F} {w w' : World}
theorem Nw.row (h : Nw b m T l W X k t n p a c f w) : Row b m T l w (fun g => W.heap.size < g ∧ g ≠ X) a c f := by
  have hlt := h.lt
  have hX := h.box.lt
  exact ⟨h.tk.ps, h.kl, fun x hx e => by omega, fun x hx => ⟨by omega, by omega⟩, h.few⟩
theorem Nw.below (h : Nw b m T l W X k t n p a c f w) (hb : Below w.heap.size w w') : Nw b m T l W X k t n p a c f w' := ⟨h.tk.below hb, h.res.below hb, h.box.below hb, h.kl.below hb, h.few, h.lt⟩
theorem Nw.drew (h : Nw b m T l W X k t n p a c f w) : Nw b m T l W X k t n p a c f w.drew := ⟨h.tk.drew, h.res.drew, h.box.drew, h.kl.keep fun _ _ _ => rfl, h.few, h.lt⟩
theorem Nw.took (h : Nw b m T l W X k t n p a c f w) (hT : Tk b m T l' w w') (hl : l'.length ≤ l.length) : Nw b m T l' W X k t n p a c f w' := by
  have hlt := h.lt
  have := h.few
  exact ⟨h.tk.trans hT, h.res.ky hT.ky (by omega), h.box.ky hT.ky (by omega), h.kl.ky hT.ky (by omega), by omega, h.lt⟩
/-- Behind a call that goes on with the row, ahead of the store of the new row. -/
theorem Nw.grown {a' : Option Addr} {c' : Nat} {f' : F} (h : Nw b m T l W X k t n p a c f w) (ps : PS b m T l' w') (kl : KL 42 (fun g => W.heap.size < g ∧ g ≠ X) w' (.slice a' f'.len c') f') (few : f'.len + l'.length ≤ T.length) (hk : Ky (fun k => k = b ∨ some k = Value.ownBlock (.slice a f.len c)) w w') : ∃ wF, w'.setCell ⟨X, 4, none⟩ (.slice a' f'.len c') = wF ∧ Nw b m T l' W X k t n p a' c' f' wF ∧ Bx X 42 #[.int .i64 k, .string ⟨t.toArray⟩, .int .i64 n, .int .i64 p, .slice a f.len c] w' := by
  have hlt := h.lt
  obtain ⟨xs, hown, hoP, _⟩ := h.kl.out
  have hne : ∀ x, (x = X ∨ x ≤ W.heap.size) → ¬ some x = Value.ownBlock (.slice a f.len c) := fun x hx e => by have := hoP x e.symm; omega
  have hS : ∀ x, (x = X ∨ x ≤ W.heap.size) → x ≠ b → ¬ (x = b ∨ some x = Value.ownBlock (.slice a f.len c)) := fun x hx hb e => e.elim hb (hne x hx)
  have hB := h.box.ky hk (hS X (.inl rfl) (by omega))
  refine ⟨_, rfl, ⟨⟨ps.set (by omega) _, ?_⟩, (h.res.ky hk (hS _ (.inr (Nat.le_refl _)) (by omega))).set (by omega) _, hB.put4 _, kl.set (fun e => e.2 rfl) _, few, h.lt⟩, hB⟩
  refine Ky.new (h.tk.ky.onto hk fun i hi e => ?_) (by omega) _
  rcases e with e | e
  · exact e
  · exact absurd e (hne i (.inr (by omega)))
/-- It is handed back. -/
theorem Nw.ret (h : Nw b m T l W X k t n p a c f w) (u0 u1 u2 u3 u4 : Value) : PN b m T W (.ok (one k t n p f) l) (.returned (.agg #[.int .i64 (k), .string ⟨(t).toArray⟩, .int .i64 (n), .int .i64 (p), .slice a f.len c])) (((((w.setCell ⟨W.heap.size, 0, none⟩ u0).setCell ⟨W.heap.size, 1, none⟩ u1).setCell ⟨W.heap.size, 2, none⟩ u2).setCell ⟨W.heap.size, 3, none⟩ u3).setCell ⟨W.heap.size, 4, none⟩ u4) := by
  have hlt := h.lt
  exact PN.five (h.kl.node k t n p) h.tk (fun g hg => hg.1) hlt.2.1
end
/-- The number is stored. -/
theorem Nw.num {b m : Nat} {T l : List Tok} {W : World} {X : Nat} {k : Int} {t : List UInt8} {n p : Int} {a : Option Addr} {c : Nat} {f : F} {w : World} (h : Nw b m T l W X k t n p a c f w) (n' : Int) : ∃ wF, w.setCell ⟨X, 2, none⟩ (.int .i64 n') = wF ∧ Nw b m T l W X k t n' p a c f wF := by
  have hlt := h.lt
  exact ⟨_, rfl, h.tk.new (by omega) hlt.2.1 _, h.res.set (by omega) _, h.box.put2 _, h.kl.set (fun e => e.2 rfl) _, h.few, h.lt⟩
theorem Nw.begin {b m : Nat} {T l : List Tok} {W w : World} {a : Option Addr} {c : Nat} {f : F} (h : Rs b m T l W w) (hkl : KL 42 (fun g => W.heap.size < g) w (.slice a f.len c) f) (few : f.len + l.length ≤ T.length) (k : Int) (t : List UInt8) (n p : Int) : Nw b m T l W w.heap.size k t n p a c f (w.alloc (.cells #[.int .i64 k, .string ⟨t.toArray⟩, .int .i64 n, .int .i64 p, .slice a f.len c] 42)) := by
  obtain ⟨xs, h1, h2, h3⟩ := hkl.out
  have hk2 : KL 42 (fun g => W.heap.size < g ∧ g ≠ w.heap.size) w (.slice a f.len c) f := ⟨xs, h1, fun g hg => ⟨h2 g hg, by have := (h1.lt g hg).2; omega⟩, h3.mono fun g hg hl => ⟨⟨hg.1, by omega⟩, hg.2⟩⟩
  exact ⟨h.tk.alloc _, h.res.alloc _, Bx.new _ _ _, hk2.alloc _, few, h.lt.1, h.lt.2, h.res.lt⟩
/-- A name in a new row. -/
theorem Rs.name1 {b m : Nat} {T l : List Tok} {W w : World} (h : Rs b m T l W w) (t' : List UInt8) (p' : Int) (few : 1 + l.length ≤ T.length) : Row b m T l (w.alloc (.cells #[.int .i64 (6), .string ⟨(t').toArray⟩, .int .i64 (0), .int .i64 (p'), .slice none 0 0] 42)) (fun g => W.heap.size < g) (some ⟨w.heap.size, 0, none⟩) 1 (one 6 t' 0 p' .nil) := by
  have hlt := h.lt
  have hX := h.res.lt
  exact ⟨h.tk.ps.alloc _, (TN.leaf 42 w (fun g => W.heap.size < g) 6 t' 0 p').row1 (fun _ e _ => e) hX, fun x hx => by omega, fun x hx => by simp at hx; omega, by rw [one_len]; exact few⟩
/-- Behind a call with a row in a block y. -/
theorem Rs.row4 {b m y : Nat} {T l l' : List Tok} {W w w' : World} (h : Rs b m T l W w) (ps : PS b m T l' w') (hk : Ky (fun k => k = b ∨ some k = some y) w w') (hy : W.heap.size < y) : Rs b m T l' W w' := by
  have hlt := h.lt
  exact ⟨⟨ps, h.tk.ky.onto hk fun i hi e => e.elim id fun e => by simp at e; omega⟩, h.res.ky hk (fun e => e.elim (by omega) fun e => by simp at e; omega), h.lt⟩
theorem enters100 : ∀ args w, (callFunc 127 args).run Tryz.prog w = .ok (.enter 127 args) w := enters_of Tryz.func127 (by kernel_rfl) rfl
set_option maxRecDepth 20000 in
set_option maxHeartbeats 16000000 in
theorem loop_any (N : Nat) (H : CC N) (b m : Nat) (T l : List Tok) (t : Tok) (W : World) (h : PS b m T (t :: l) W) (h56 : cls t ≠ 56) (hr : forP (pr N) (t :: l) ≠ .out) : Calls Tryz.prog 130 #[.pointer (some ⟨b, 0, none⟩)] W (PN b m T W (forP (pr N) (t :: l))) := by
  have hlt := h.lt
  have hT := h.len
  have D := h.rs
  obtain ⟨t2, l2, rfl⟩ := tail_cons h.ends h56
  obtain ⟨R, hR⟩ : ∃ R, forP (pr N) (t :: t2 :: l2) = R := ⟨_, rfl⟩
  rw [hR] at hr ⊢
  unfold forP nam at hR
  simp only [List.tail_cons, show ha (t :: t2 :: l2) = t.p from rfl, show ht (t2 :: l2) = t2.t from rfl, show ha (t2 :: l2) = t2.p from rfl] at hR
  by_cases h51 : cls t2 = 51
  · rw [if_pos (show hc (t2 :: l2) = 51 from h51)] at hR
    obtain ⟨t3, l3, rfl⟩ := tail_cons (h.ends.tail h56) (by omega)
    by_cases h14 : cls t3 = 14
    · have wt314 : rd t3 [61] = true := cls_rd (c := 14) (by omega) (by decide) (by decide)
      rw [if_pos (show hc (t3 :: l3) = 14 from h14)] at hR
      simp only [List.tail_cons] at hR
      cases he : numP (pr N) t.p (one 6 t2.t 0 t2.p .nil) l3 with
      | out => rw [he] at hR; exact absurd hR.symm hr
      | bad p2 =>
        rw [he] at hR
        subst hR
        go_enter Tryz.func130, Tryz.ntmps130
        go_wp2_with (first | (go_at_call 122; refine (take_p b m T _ t _ D.tk.ps h56).mono ?_; rintro e w1 ⟨rfl, hT1⟩; have D := D.took hT1) | (go_at_call 124; refine (name_yes b m T _ t2 _ D.tk.ps h51).mono ?_; rintro e w2 ⟨rfl, hT2⟩; have D := D.took hT2; have hz := D.res.lt; have RW := D.name1 t2.t t2.p (by simp only [List.length_cons] at hT ⊢; omega); have D := D.alloc (.cells #[.int .i64 (6), .string ⟨(t2.t).toArray⟩, .int .i64 (0), .int .i64 (t2.p), .slice none 0 0] 42)) | (go_at_call 87; refine (accept_t b m T _ t3 _ _ D.tk.ps (by assumption)).mono ?_; rintro e w3 ⟨rfl, hT3⟩; have D := D.took hT3; have RW := RW.took hT3) | (go_at_call 151; have CN := numbers_any N H t.p b m T _ _ _ _ _ _ RW; rw [he] at CN; refine (CN (by simp)).mono ?_; rintro e w4 ⟨he, hk⟩; unfold refp at he; subst he))
        exact ⟨rfl, rfl, D.tk.ky.onto hk fun i hi e => e.elim id fun e => by simp [Value.ownBlock] at e; omega⟩
      | ok g l4 =>
        rw [he] at hR
        subst hR
        go_enter Tryz.func130, Tryz.ntmps130
        go_wp2_with (first | (go_at_call 122; refine (take_p b m T _ t _ D.tk.ps h56).mono ?_; rintro e w1 ⟨rfl, hT1⟩; have D := D.took hT1) | (go_at_call 124; refine (name_yes b m T _ t2 _ D.tk.ps h51).mono ?_; rintro e w2 ⟨rfl, hT2⟩; have D := D.took hT2; have hz := D.res.lt; have RW := D.name1 t2.t t2.p (by simp only [List.length_cons] at hT ⊢; omega); have D := D.alloc (.cells #[.int .i64 (6), .string ⟨(t2.t).toArray⟩, .int .i64 (0), .int .i64 (t2.p), .slice none 0 0] 42)) | (go_at_call 87; refine (accept_t b m T _ t3 _ _ D.tk.ps (by assumption)).mono ?_; rintro e w3 ⟨rfl, hT3⟩; have D := D.took hT3; have RW := RW.took hT3) | (go_at_call 151; have CN := numbers_any N H t.p b m T _ _ _ _ _ _ RW; rw [he] at CN; refine (CN (by simp)).mono ?_; rintro e w4 ⟨k, tt, n, p, a1, c1, ks, rfl, rfl, hTN, hps, hk⟩; have D := D.row4 hps hk hz; obtain ⟨q0, q1, q2, q3, q4⟩ := D.res.five; obtain ⟨f0, f1, f2, f3, f4⟩ := D.res.frozen5))
        refine bodyPost_ret (v := (.agg #[.int .i64 (k), .string ⟨(tt).toArray⟩, .int .i64 (n), .int .i64 (p), .slice a1 ks.len c1])) (by simp [results, Tryz.results130, go_sem, q0, q1, q2, q3, q4]) rfl ?_
        exact PN.five hTN D.tk (fun _ e => e) hlt.2
    · have wt314 : rd t3 [61] = false := cls_nrd (c := 14) (by omega) (by decide) (by decide)
      rw [if_neg (show ¬ hc (t3 :: l3) = 14 from h14)] at hR
      cases he : pr N (.nms (one 6 t2.t 0 t2.p .nil)) (t3 :: l3) with
      | out => rw [he] at hR; exact absurd hR.symm hr
      | bad p2 =>
        rw [he] at hR
        simp only [PR.bind] at hR
        subst hR
        go_enter Tryz.func130, Tryz.ntmps130
        go_wp2_with (first | (go_at_call 122; refine (take_p b m T _ t _ D.tk.ps h56).mono ?_; rintro e w1 ⟨rfl, hT1⟩; have D := D.took hT1) | (go_at_call 124; refine (name_yes b m T _ t2 _ D.tk.ps h51).mono ?_; rintro e w2 ⟨rfl, hT2⟩; have D := D.took hT2; have hz := D.res.lt; have RW := D.name1 t2.t t2.p (by simp only [List.length_cons] at hT ⊢; omega); have D := D.alloc (.cells #[.int .i64 (6), .string ⟨(t2.t).toArray⟩, .int .i64 (0), .int .i64 (t2.p), .slice none 0 0] 42)) | (go_at_call 87; refine (accept_f b m T _ t3 _ _ D.tk.ps (by assumption)).mono ?_; rintro e w3 ⟨rfl, hb3⟩; have D := D.below hb3; have RW := RW.past hb3) | (go_at_call 126; have YtmejlldabdjpjaaGreat := names_p N b m T _ _ _ _ _ _ RW; rw [he] at YtmejlldabdjpjaaGreat; refine (YtmejlldabdjpjaaGreat (by simp)).mono ?_; rintro e w4 ⟨he, hk⟩; unfold refp at he; subst he))
        exact ⟨rfl, rfl, D.tk.ky.onto hk fun i hi e => e.elim id fun e => by simp [Value.ownBlock] at e; omega⟩
      | ok ns l4 =>
        have hsz := sz_all _ _ _ _ _ he
        simp only [Sz, one_len] at hsz
        obtain ⟨t5, l5, rfl⟩ := (pr_ends he ((h.ends.tail h56).tail (by omega))).cons
        rw [he] at hR
        simp only [PR.bind, need] at hR
        simp only [List.length_cons] at hsz
        by_cases h16 : cls t5 = 16
        · have wt516 : rd t5 [105, 110] = true := cls_rd (c := 16) (by omega) (by decide) (by decide)
          rw [if_pos (show hc (t5 :: l5) = 16 from h16)] at hR
          change ((pr N (.lst ns) l5).bind _) = R at hR
          cases he2 : pr N (.lst ns) l5 with
          | out => rw [he2] at hR; exact absurd hR.symm hr
          | bad p2 =>
            rw [he2] at hR
            simp only [PR.bind] at hR
            subst hR
            go_enter Tryz.func130, Tryz.ntmps130
            go_wp2_with (first | (go_at_call 122; refine (take_p b m T _ t _ D.tk.ps h56).mono ?_; rintro e w1 ⟨rfl, hT1⟩; have D := D.took hT1) | (go_at_call 124; refine (name_yes b m T _ t2 _ D.tk.ps h51).mono ?_; rintro e w2 ⟨rfl, hT2⟩; have D := D.took hT2; have hz := D.res.lt; have RW := D.name1 t2.t t2.p (by simp only [List.length_cons] at hT ⊢; omega); have D := D.alloc (.cells #[.int .i64 (6), .string ⟨(t2.t).toArray⟩, .int .i64 (0), .int .i64 (t2.p), .slice none 0 0] 42)) | (go_at_call 87; refine (accept_f b m T _ t3 _ _ D.tk.ps (by assumption)).mono ?_; rintro e w3 ⟨rfl, hb3⟩; have D := D.below hb3; have RW := RW.past hb3) | (go_at_call 126; have YtmejlldabdjpjaaGreat := names_p N b m T _ _ _ _ _ _ RW; rw [he] at YtmejlldabdjpjaaGreat; refine (YtmejlldabdjpjaaGreat (by simp)).mono ?_; rintro e w4 ⟨a3, c3, rfl, hkl, hps, hk⟩; have D := D.row4 hps hk hz; have hz4 := D.res.lt; have E := Nw.begin D hkl (by simp only [List.length_cons] at hT ⊢; omega) 27 [] 0 t.p; obtain ⟨-, -, e2, -, e4⟩ := E.box.five; obtain ⟨-, -, e6, -, -⟩ := E.box.frozen5; obtain ⟨w6, hw6, E⟩ := E.num (ns.len : Nat)) | (go_at_call 125; refine (expect_t b m T _ t5 _ _ E.tk.ps (by assumption)).mono ?_; rintro e w7 ⟨rfl, hT7⟩; have E := E.took hT7 (by simp); obtain ⟨-, -, -, -, v4⟩ := E.box.five) | (go_at_call 123; have CL := H.lst b m T _ _ _ _ _ _ E.row; rw [he2] at CL; refine (CL (by simp)).mono ?_; rintro e w8 ⟨he, hk8⟩; unfold refp at he; subst he))
            obtain ⟨xs, hown, hoP, _⟩ := E.kl.out
            have hEl := E.lt
            exact ⟨rfl, rfl, E.tk.ky.onto hk8 fun i hi e => e.elim id fun e => by have := hoP i e.symm; omega⟩
          | ok f l6 =>
            have hsz2 := sz_all _ _ _ _ _ he2
            simp only [Sz] at hsz2
            rw [he2] at hR
            simp only [PR.bind] at hR
            rw [bodyP_bind] at hR
            have CB := fun W h => body_any N H b m T l6 W h
            cases hb : bodyP (pr N) l6 .ok with
            | out => rw [hb] at hR; exact absurd hR.symm hr
            | bad p2 =>
              rw [hb] at hR CB
              simp only [PR.bind] at hR
              subst hR
              go_enter Tryz.func130, Tryz.ntmps130
              go_wp2_with (first | (go_at_call 122; refine (take_p b m T _ t _ D.tk.ps h56).mono ?_; rintro e w1 ⟨rfl, hT1⟩; have D := D.took hT1) | (go_at_call 124; refine (name_yes b m T _ t2 _ D.tk.ps h51).mono ?_; rintro e w2 ⟨rfl, hT2⟩; have D := D.took hT2; have hz := D.res.lt; have RW := D.name1 t2.t t2.p (by simp only [List.length_cons] at hT ⊢; omega); have D := D.alloc (.cells #[.int .i64 (6), .string ⟨(t2.t).toArray⟩, .int .i64 (0), .int .i64 (t2.p), .slice none 0 0] 42)) | (go_at_call 87; refine (accept_f b m T _ t3 _ _ D.tk.ps (by assumption)).mono ?_; rintro e w3 ⟨rfl, hb3⟩; have D := D.below hb3; have RW := RW.past hb3) | (go_at_call 126; have YtmejlldabdjpjaaGreat := names_p N b m T _ _ _ _ _ _ RW; rw [he] at YtmejlldabdjpjaaGreat; refine (YtmejlldabdjpjaaGreat (by simp)).mono ?_; rintro e w4 ⟨a3, c3, rfl, hkl, hps, hk⟩; have D := D.row4 hps hk hz; have hz4 := D.res.lt; have E := Nw.begin D hkl (by simp only [List.length_cons] at hT ⊢; omega) 27 [] 0 t.p; obtain ⟨-, -, e2, -, e4⟩ := E.box.five; obtain ⟨-, -, e6, -, -⟩ := E.box.frozen5; obtain ⟨w6, hw6, E⟩ := E.num (ns.len : Nat)) | (go_at_call 125; refine (expect_t b m T _ t5 _ _ E.tk.ps (by assumption)).mono ?_; rintro e w7 ⟨rfl, hT7⟩; have E := E.took hT7 (by simp); obtain ⟨-, -, -, -, v4⟩ := E.box.five) | (go_at_call 123; have CL := H.lst b m T _ _ _ _ _ _ E.row; rw [he2] at CL; refine (CL (by simp)).mono ?_; rintro e w8 ⟨a8, c8, rfl, hkl8, hps8, hk8⟩; have hfe := E.few; obtain ⟨w9, hw9, E, B9⟩ := E.grown hps8 hkl8 (by omega) hk8; obtain ⟨-, -, -, -, x9⟩ := B9.five; obtain ⟨-, -, -, -, y9⟩ := B9.frozen5; obtain ⟨-, -, -, -, z4⟩ := E.box.five))
              have E1 := E.drew
              go_region_dies
              all_goals
                refine (CB _ E1.tk.ps (by simp)).mono ?_
                rintro e wb ⟨he, hk⟩
                unfold refp at he
                subst he
                exact ⟨rfl, rfl, E1.tk.ky.trans hk⟩
            | ok g9 l9 =>
              obtain ⟨_, hl9⟩ := body_len hb
              rw [hb] at hR CB
              simp only [PR.bind] at hR
              subst hR
              go_enter Tryz.func130, Tryz.ntmps130
              go_wp2_with (first | (go_at_call 122; refine (take_p b m T _ t _ D.tk.ps h56).mono ?_; rintro e w1 ⟨rfl, hT1⟩; have D := D.took hT1) | (go_at_call 124; refine (name_yes b m T _ t2 _ D.tk.ps h51).mono ?_; rintro e w2 ⟨rfl, hT2⟩; have D := D.took hT2; have hz := D.res.lt; have RW := D.name1 t2.t t2.p (by simp only [List.length_cons] at hT ⊢; omega); have D := D.alloc (.cells #[.int .i64 (6), .string ⟨(t2.t).toArray⟩, .int .i64 (0), .int .i64 (t2.p), .slice none 0 0] 42)) | (go_at_call 87; refine (accept_f b m T _ t3 _ _ D.tk.ps (by assumption)).mono ?_; rintro e w3 ⟨rfl, hb3⟩; have D := D.below hb3; have RW := RW.past hb3) | (go_at_call 126; have YtmejlldabdjpjaaGreat := names_p N b m T _ _ _ _ _ _ RW; rw [he] at YtmejlldabdjpjaaGreat; refine (YtmejlldabdjpjaaGreat (by simp)).mono ?_; rintro e w4 ⟨a3, c3, rfl, hkl, hps, hk⟩; have D := D.row4 hps hk hz; have hz4 := D.res.lt; have E := Nw.begin D hkl (by simp only [List.length_cons] at hT ⊢; omega) 27 [] 0 t.p; obtain ⟨-, -, e2, -, e4⟩ := E.box.five; obtain ⟨-, -, e6, -, -⟩ := E.box.frozen5; obtain ⟨w6, hw6, E⟩ := E.num (ns.len : Nat)) | (go_at_call 125; refine (expect_t b m T _ t5 _ _ E.tk.ps (by assumption)).mono ?_; rintro e w7 ⟨rfl, hT7⟩; have E := E.took hT7 (by simp); obtain ⟨-, -, -, -, v4⟩ := E.box.five) | (go_at_call 123; have CL := H.lst b m T _ _ _ _ _ _ E.row; rw [he2] at CL; refine (CL (by simp)).mono ?_; rintro e w8 ⟨a8, c8, rfl, hkl8, hps8, hk8⟩; have hfe := E.few; obtain ⟨w9, hw9, E, B9⟩ := E.grown hps8 hkl8 (by omega) hk8; obtain ⟨-, -, -, -, x9⟩ := B9.five; obtain ⟨-, -, -, -, y9⟩ := B9.frozen5; obtain ⟨-, -, -, -, z4⟩ := E.box.five))
              have E1 := E.drew
              have hE1 := E1.few
              go_region_law (first | (refine step_goE (by rfl) 127 _ _ (by rfl) _ (by simp [Act.eval, Act.put]) enters100 (CB _ E1.tk.ps (by simp)) ?_; rintro e wb ⟨k, tt, n, p, a1, c1, ks, rfl, rfl, hTN, hTk⟩; refine ⟨_, rfl, ?_⟩; obtain ⟨-, -, -, -, q4⟩ := (E1.took hTk (by omega)).box.five; obtain ⟨-, -, -, -, q5⟩ := (E1.took hTk (by omega)).box.fiveA) | (refine step_row2 (by rfl) _ _ (by rfl) E1.row hTN hTk (by omega) (by rfl) (by rfl) ?_; intro gg cc wc hrow hky; obtain ⟨w10, hw10, E4, B4⟩ := E1.grown hrow.ps hrow.kl hrow.few hky; obtain ⟨-, -, -, -, r4⟩ := B4.five; obtain ⟨-, -, -, -, g4⟩ := B4.frozen5; obtain ⟨q0, q1, q2, q3, q4'⟩ := E4.res.five; obtain ⟨f0, f1, f2, f3, f4⟩ := E4.res.frozen5; obtain ⟨p0, p1, p2', p3, p4⟩ := E4.box.five))
              all_goals
                go_wp2_with fail
                refine bodyPost_ret (v := .agg #[.int .i64 27, .string ⟨#[]⟩, .int .i64 (ns.len : Nat), .int .i64 t.p, .slice (some ⟨gg, 0, none⟩) (f.app (one k tt n p ks)).len cc]) (by simp [results, Tryz.results130, go_sem, q0, q1, q2, q3, q4']) rfl ?_
                exact E4.ret _ _ _ _ _
        · have wt516 : rd t5 [105, 110] = false := cls_nrd (c := 16) (by omega) (by decide) (by decide)
          rw [if_neg (show ¬ hc (t5 :: l5) = 16 from h16)] at hR
          subst hR
          go_enter Tryz.func130, Tryz.ntmps130
          go_wp2_with (first | (go_at_call 122; refine (take_p b m T _ t _ D.tk.ps h56).mono ?_; rintro e w1 ⟨rfl, hT1⟩; have D := D.took hT1) | (go_at_call 124; refine (name_yes b m T _ t2 _ D.tk.ps h51).mono ?_; rintro e w2 ⟨rfl, hT2⟩; have D := D.took hT2; have hz := D.res.lt; have RW := D.name1 t2.t t2.p (by simp only [List.length_cons] at hT ⊢; omega); have D := D.alloc (.cells #[.int .i64 (6), .string ⟨(t2.t).toArray⟩, .int .i64 (0), .int .i64 (t2.p), .slice none 0 0] 42)) | (go_at_call 87; refine (accept_f b m T _ t3 _ _ D.tk.ps (by assumption)).mono ?_; rintro e w3 ⟨rfl, hb3⟩; have D := D.below hb3; have RW := RW.past hb3) | (go_at_call 126; have YtmejlldabdjpjaaGreat := names_p N b m T _ _ _ _ _ _ RW; rw [he] at YtmejlldabdjpjaaGreat; refine (YtmejlldabdjpjaaGreat (by simp)).mono ?_; rintro e w4 ⟨a3, c3, rfl, hkl, hps, hk⟩; have D := D.row4 hps hk hz; have hz4 := D.res.lt; have E := Nw.begin D hkl (by simp only [List.length_cons] at hT ⊢; omega) 27 [] 0 t.p; obtain ⟨-, -, e2, -, e4⟩ := E.box.five; obtain ⟨-, -, e6, -, -⟩ := E.box.frozen5; obtain ⟨w6, hw6, E⟩ := E.num (ns.len : Nat)) | (go_at_call 125; refine (expect_f b m T _ t5 _ _ E.tk.ps (by assumption)).mono ?_; rintro e w7 ⟨he, hb7⟩; unfold refp at he; subst he))
          exact ⟨rfl, rfl, E.tk.ky.trans (.of_below hb7)⟩
  · rw [if_neg (show ¬ hc (t2 :: l2) = 51 from h51)] at hR
    subst hR
    go_enter Tryz.func130, Tryz.ntmps130
    go_wp2_with (first | (go_at_call 122; refine (take_p b m T _ t _ D.tk.ps h56).mono ?_; rintro e w1 ⟨rfl, hT1⟩; have D := D.took hT1) | (go_at_call 124; refine (name_no b m T _ t2 _ D.tk.ps h51).mono ?_; rintro e w2 ⟨he, hb2⟩; unfold refp at he; subst he))
    exact ⟨rfl, rfl, D.tk.ky.trans (.of_below hb2)⟩
end Go.Proofs.YtmejlldabdjpjaaGreat
