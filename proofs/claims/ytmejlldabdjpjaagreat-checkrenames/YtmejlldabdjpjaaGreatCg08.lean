/- The walk of choice. -/
import Derived.Test.YtmejlldabdjpjaaGreatCg07
namespace Go.Proofs.YtmejlldabdjpjaaGreat
open Go.RowKit
/-- What stands behind a branch. -/
def ifK (q : Nat) (p : Int) (f : F) (l : List Tok) : PR :=
  (if hc l = 6 then pr q (.ifs f) l.tail
    else if hc l = 5 then (pr q (.blk false) l.tail).bind fun b l => need 4 l fun l => .ok (f.app b) l
    else need 4 l fun l => .ok f l).bind fun f l1 => .ok (one 24 [] 0 p f) l1
theorem bind_assoc (x : PR) (f g : F → List Tok → PR) : (x.bind f).bind g = x.bind fun a l => (f a l).bind g := by cases x <;> rfl
theorem ifs_bind (q : Nat) (p : Int) (a : F) (l : List Tok) : (pr (q + 1) (.ifs a) l).bind (fun f l1 => .ok (one 24 [] 0 p f) l1) = (brP (pr q) a l).bind (ifK q p) := by
  rw [pr_succ]
  simp only [stp']
  rw [bind_assoc]
  rfl
theorem Nd.grownN {b m : Nat} {T l l' : List Tok} {W : World} {X : Nat} {k : Int} {t : List UInt8} {n p : Int} {a a' : Option Addr} {c c' : Nat} {f f' : F} {w w' : World} (h : Nd b m T l W X k t n p a c f w) (ps : PS b m T l' w') (kl : KL 42 (fun g => X < g) w' (.slice a' f'.len c') f') (few : f'.len + l'.length ≤ T.length) (hk : Ky (fun k => k = b ∨ some k = Value.ownBlock (.slice a f.len c)) w w') :
    ∃ wF, w'.setCell ⟨X, 4, none⟩ (.slice a' f'.len c') = wF ∧ Nd b m T l' W X k t n p a' c' f' wF ∧ Bx X 42 #[.int .i64 k, .string ⟨t.toArray⟩, .int .i64 n, .int .i64 p, .slice a f.len c] w' := by
  have hlt := h.lt
  have hX := h.box.lt
  have hs := hk.size
  obtain ⟨h1, h2⟩ := h.grown (l' := l') ⟨ps, kl, fun x hx => by omega, fun x hx => by omega, few⟩ hk
  exact ⟨_, rfl, h1, h2⟩
theorem enters32 : ∀ args w, (callFunc 48 args).run Tryz.prog w = .ok (.enter 48 args) w := enters_of Tryz.func48 (by kernel_rfl) rfl
set_option maxRecDepth 20000 in
set_option maxHeartbeats 16000000 in
theorem choice_any (N : Nat) (H : ∀ n, n ≤ N → CC n) (b m : Nat) (T l : List Tok) (t : Tok) (W : World) (h : PS b m T (t :: l) W) (h56 : cls t ≠ 56) (hr : ifP (pr N) (t :: l) ≠ .out) : Calls Tryz.prog 129 #[.pointer (some ⟨b, 0, none⟩)] W (PN b m T W (ifP (pr N) (t :: l))) := by
  have hlt := h.lt
  have hbW : W.heap.size ≠ b := by omega
  obtain ⟨R, hR⟩ : ∃ R, ifP (pr N) (t :: l) = R := ⟨_, rfl⟩
  rw [hR] at hr ⊢
  unfold ifP at hR
  change (pr N (.ifs .nil) l).bind (fun f l1 => .ok (one 24 [] 0 t.p f) l1) = R at hR
  cases N with
  | zero => exact absurd hR.symm hr
  | succ q =>
    rw [ifs_bind] at hR
    cases he : brP (pr q) .nil l with
    | out => rw [he] at hR; exact absurd hR.symm hr
    | bad p2 =>
      rw [he] at hR
      simp only [PR.bind] at hR
      subst hR
      go_enter Tryz.func129, Tryz.ntmps129
      go_wp2_with (first | (go_at_call 122; refine (take_p b m T l t _ (h.alloc _) h56).mono ?_; rintro e w1 ⟨rfl, hT1⟩; have D := Nd.begin ((h.tk.alloc _).trans hT1) ((Bx.new W 42 _).ky hT1.ky hbW) (by omega) 24 [] 0 t.p; obtain ⟨b0, b1, b2, b3, b4⟩ := D.box.five) | (go_at_call 150; have BR := branch_any q (H q (by omega)) b m T l _ _ _ _ _ D.row; rw [he] at BR; refine (BR (by simp)).mono ?_; rintro e w3 ⟨he, hk⟩; unfold refp at he; subst he))
      exact ⟨rfl, rfl, D.tk.ky.onto hk fun i _ e => e.elim id fun e => by simp [Value.ownBlock] at e⟩
    | ok f l2 =>
      have hsz : f.len + l2.length ≤ l.length := by
        have := sz_br (sz_all q) (fun _ _ _ _ => pr_len) he
        simp only [F.len] at this
        omega
      rw [he] at hR
      simp only [PR.bind] at hR
      replace hR : Hid (ifK q t.p f l2 = R) := hR
      go_enter Tryz.func129, Tryz.ntmps129
      go_wp2_with (first | (go_at_call 122; refine (take_p b m T l t _ (h.alloc _) h56).mono ?_; rintro e w1 ⟨rfl, hT1⟩; have D := Nd.begin ((h.tk.alloc _).trans hT1) ((Bx.new W 42 _).ky hT1.ky hbW) (by omega) 24 [] 0 t.p; obtain ⟨b0, b1, b2, b3, b4⟩ := D.box.five) | (go_at_call 150; have BR := branch_any q (H q (by omega)) b m T l _ _ _ _ _ D.row; rw [he] at BR; refine (BR (by simp)).mono ?_; rintro e w3 ⟨a3, c3, rfl, hkl, hps, hk⟩; have hfe := D.few; obtain ⟨w4, hw4, D4, B4⟩ := D.grownN hps hkl (by simp only [F.len] at hfe; omega) hk; obtain ⟨-, -, -, -, x4⟩ := B4.five; obtain ⟨-, -, -, -, y4⟩ := B4.frozen5))
      obtain ⟨X, hX⟩ : ∃ X, w1.heap.size = X := ⟨_, rfl⟩
      rw [hX] at D4 ⊢
      clear hX D B4 hk hkl hps
      go_loopg [] (q + 2) (fun gf wx => ∃ (q' : Nat) (a' : Option Addr) (c' : Nat) (f : F) (l' : List Tok), q' ≤ q ∧ Nd b m T l' W X 24 [] 0 t.p a' c' f wx ∧ Hid (ifK q' t.p f l' = R) ∧ q' < gf)
      case atStart => exact ⟨q, a3, c3, f, l2, Nat.le_refl _, D4, hR, by omega⟩
      case round =>
        clear D4 hR
        obtain ⟨q', a1, c1, f, l', hq, D, hR, hfu⟩ := hrel
        obtain ⟨t3, l4, rfl⟩ := D.tk.ps.cons
        have hR := hR.out
        unfold ifK at hR
        have hfew := D.few
        simp only [List.length_cons] at hfew
        by_cases h6 : cls t3 = 6
        · have wt36 : rd t3 [101, 108, 115, 101, 105, 102] = true := cls_rd (c := 6) (by omega) (by decide) (by decide)
          rw [if_pos (show hc (t3 :: l4) = 6 from h6)] at hR
          cases q' with
          | zero => exact absurd hR.symm hr
          | succ q1 =>
            rw [ifs_bind] at hR
            simp only [List.tail_cons] at hR
            cases he : brP (pr q1) f l4 with
            | out => rw [he] at hR; exact absurd hR.symm hr
            | bad p2 =>
              rw [he] at hR
              simp only [PR.bind] at hR
              subst hR
              go_wp2_with (first | (go_at_call 87; refine (accept_t b m T l4 t3 _ _ D.tk.ps (by assumption)).mono ?_; rintro e w5 ⟨rfl, hT5⟩; have D := D.took hT5 (by simp); obtain ⟨b0, b1, b2, b3, b4⟩ := D.box.five) | (go_at_call 150; have BR := branch_any q1 (H q1 (by omega)) b m T l4 _ _ _ _ _ D.row; rw [he] at BR; refine (BR (by simp)).mono ?_; rintro e w6 ⟨he, hk⟩; unfold refp at he; subst he))
              obtain ⟨xs, hown, hoP, _⟩ := D.kl.out
              have hDl := D.lt
              exact ⟨rfl, rfl, D.tk.ky.onto hk fun i hi e => e.elim id fun e => by have := hoP i e.symm; omega⟩
            | ok f2 l5 =>
              have hsz : f2.len + l5.length ≤ f.len + l4.length := by have := sz_br (sz_all q1) (fun _ _ _ _ => pr_len) he; omega
              rw [he] at hR
              simp only [PR.bind] at hR
              replace hR : Hid (ifK q1 t.p f2 l5 = R) := hR
              go_wp2_with (first | (go_at_call 87; refine (accept_t b m T l4 t3 _ _ D.tk.ps (by assumption)).mono ?_; rintro e w5 ⟨rfl, hT5⟩; have D := D.took hT5 (by simp); obtain ⟨b0, b1, b2, b3, b4⟩ := D.box.five) | (go_at_call 150; have BR := branch_any q1 (H q1 (by omega)) b m T l4 _ _ _ _ _ D.row; rw [he] at BR; refine (BR (by simp)).mono ?_; rintro e w6 ⟨a3, c3, rfl, hkl, hps, hk⟩; obtain ⟨w7, hw7, D4, B4⟩ := D.grownN hps hkl (by omega) hk; obtain ⟨-, -, -, -, x4⟩ := B4.five; obtain ⟨-, -, -, -, y4⟩ := B4.frozen5))
              go_roundg (q1 + 1)
              case measure => omega
              case rel => exact ⟨q1, a3, c3, f2, l5, by omega, D4, hR, by omega⟩
        · have wt36 : rd t3 [101, 108, 115, 101, 105, 102] = false := cls_nrd (c := 6) (by omega) (by decide) (by decide)
          rw [if_neg (show ¬ hc (t3 :: l4) = 6 from h6)] at hR
          by_cases h5 : cls t3 = 5
          · have wt35 : rd t3 [101, 108, 115, 101] = true := cls_rd (c := 5) (by omega) (by decide) (by decide)
            rw [if_pos (show hc (t3 :: l4) = 5 from h5)] at hR
            have CB := fun W h => (H q' (by omega)).blk false b m T l4 W h
            change ((pr q' (.blk false) l4).bind _).bind _ = R at hR
            cases he : pr q' (.blk false) l4 with
            | out => rw [he] at hR; exact absurd hR.symm hr
            | bad p2 =>
              rw [he] at hR CB
              simp only [PR.bind] at hR
              subst hR
              go_wp2_with (first | (go_at_call 87; refine (accept_f b m T l4 t3 _ _ D.tk.ps (by assumption)).mono ?_; rintro e w5 ⟨rfl, hb5⟩; have D := D.below hb5) | (go_at_call 87; refine (accept_t b m T l4 t3 _ _ D.tk.ps (by assumption)).mono ?_; rintro e w5 ⟨rfl, hT5⟩; have D := D.took hT5 (by simp); obtain ⟨b0, b1, b2, b3, b4⟩ := D.box.five))
              have D1 := D.drew
              go_region_dies
              all_goals
                refine (CB _ D1.tk.ps (by simp)).mono ?_
                rintro e w6 ⟨he, hk⟩
                unfold refp at he
                subst he
                exact ⟨rfl, rfl, D1.tk.ky.trans hk⟩
            | ok g l5 =>
              have hlen := pr_len he
              obtain ⟨t6, l7, rfl⟩ := (pr_ends he (D.tk.ps.ends.tail (by omega))).cons
              rw [he] at hR CB
              simp only [PR.bind, need] at hR
              simp only [st, List.length_cons] at hlen
              by_cases h4 : cls t6 = 4
              · have wt64 : rd t6 [101, 110, 100] = true := cls_rd (c := 4) (by omega) (by decide) (by decide)
                rw [if_pos (show hc (t6 :: l7) = 4 from h4)] at hR
                subst hR
                go_wp2_with (first | (go_at_call 87; refine (accept_f b m T l4 t3 _ _ D.tk.ps (by assumption)).mono ?_; rintro e w5 ⟨rfl, hb5⟩; have D := D.below hb5) | (go_at_call 87; refine (accept_t b m T l4 t3 _ _ D.tk.ps (by assumption)).mono ?_; rintro e w5 ⟨rfl, hT5⟩; have D := D.took hT5 (by simp); obtain ⟨b0, b1, b2, b3, b4⟩ := D.box.five))
                have D1 := D.drew
                go_region_law (first | (refine step_goE (by rfl) 48 _ _ (by rfl) _ (by simp [Act.eval, Act.put]) enters32 (CB _ D1.tk.ps (by simp)) ?_; rintro e w6 ⟨k, tt, n, p, a1, c1, ks, rfl, rfl, hTN, hTk⟩; refine ⟨_, rfl, ?_⟩; obtain ⟨-, -, -, -, q4⟩ := (D1.took hTk (by simp only [List.length_cons]; omega)).box.five; obtain ⟨-, -, -, -, q5⟩ := (D1.took hTk (by simp only [List.length_cons]; omega)).box.fiveA) | (refine step_row2 (by rfl) _ _ (by rfl) D1.row hTN hTk (by simp only [List.length_cons]; omega) (by rfl) (by rfl) ?_; intro gg cc w7 hrow hky; obtain ⟨D4, B4⟩ := D1.grown hrow hky; obtain ⟨-, -, -, -, r4⟩ := B4.five; obtain ⟨-, -, -, -, g4⟩ := B4.frozen5))
                all_goals
                  go_wp2_with (go_at_call 125; refine (expect_t b m T l7 t6 _ _ D4.tk.ps (by assumption)).mono ?_; rintro e w8 ⟨rfl, hT8⟩; have D8 := D4.took hT8 (by simp); obtain ⟨q0, q1, q2, q3, q4⟩ := D8.res.five; obtain ⟨f0, f1, f2, f3, f4⟩ := D8.res.frozen5; obtain ⟨z0, z1, z2, z3, z4⟩ := D8.box.five)
                  refine bodyPost_ret (v := .agg #[.int .i64 24, .string ⟨#[]⟩, .int .i64 0, .int .i64 t.p, .slice (some ⟨gg, 0, none⟩) (f.app (one k tt n p ks)).len cc]) (by simp [results, Tryz.results129, go_sem, q0, q1, q2, q3, q4]) rfl ?_
                  exact D8.ret _ _ _ _ _
              · have wt64 : rd t6 [101, 110, 100] = false := cls_nrd (c := 4) (by omega) (by decide) (by decide)
                rw [if_neg (show ¬ hc (t6 :: l7) = 4 from h4)] at hR
                subst hR
                go_wp2_with (first | (go_at_call 87; refine (accept_f b m T l4 t3 _ _ D.tk.ps (by assumption)).mono ?_; rintro e w5 ⟨rfl, hb5⟩; have D := D.below hb5) | (go_at_call 87; refine (accept_t b m T l4 t3 _ _ D.tk.ps (by assumption)).mono ?_; rintro e w5 ⟨rfl, hT5⟩; have D := D.took hT5 (by simp); obtain ⟨b0, b1, b2, b3, b4⟩ := D.box.five))
                have D1 := D.drew
                go_region_law (first | (refine step_goE (by rfl) 48 _ _ (by rfl) _ (by simp [Act.eval, Act.put]) enters32 (CB _ D1.tk.ps (by simp)) ?_; rintro e w6 ⟨k, tt, n, p, a1, c1, ks, rfl, rfl, hTN, hTk⟩; refine ⟨_, rfl, ?_⟩; obtain ⟨-, -, -, -, q4⟩ := (D1.took hTk (by simp only [List.length_cons]; omega)).box.five; obtain ⟨-, -, -, -, q5⟩ := (D1.took hTk (by simp only [List.length_cons]; omega)).box.fiveA) | (refine step_row2 (by rfl) _ _ (by rfl) D1.row hTN hTk (by simp only [List.length_cons]; omega) (by rfl) (by rfl) ?_; intro gg cc w7 hrow hky; obtain ⟨D4, B4⟩ := D1.grown hrow hky; obtain ⟨-, -, -, -, r4⟩ := B4.five; obtain ⟨-, -, -, -, g4⟩ := B4.frozen5))
                all_goals
                  go_wp2_with (go_at_call 125; refine (expect_f b m T l7 t6 _ _ D4.tk.ps (by assumption)).mono ?_; rintro e w8 ⟨he, hb8⟩; unfold refp at he; subst he)
                  exact ⟨rfl, rfl, D4.tk.ky.trans (.of_below hb8)⟩
          · have wt35 : rd t3 [101, 108, 115, 101] = false := cls_nrd (c := 5) (by omega) (by decide) (by decide)
            rw [if_neg (show ¬ hc (t3 :: l4) = 5 from h5)] at hR
            simp only [need] at hR
            by_cases h4 : cls t3 = 4
            · have wt34 : rd t3 [101, 110, 100] = true := cls_rd (c := 4) (by omega) (by decide) (by decide)
              rw [if_pos (show hc (t3 :: l4) = 4 from h4)] at hR
              subst hR
              go_wp2_with (first | (go_at_call 87; refine (accept_f b m T l4 t3 _ _ D.tk.ps (by assumption)).mono ?_; rintro e w5 ⟨rfl, hb5⟩; have D := D.below hb5) | (go_at_call 125; refine (expect_t b m T l4 t3 _ _ D.tk.ps (by assumption)).mono ?_; rintro e w8 ⟨rfl, hT8⟩; have D := D.took hT8 (by simp); obtain ⟨q0, q1, q2, q3, q4⟩ := D.res.five; obtain ⟨f0, f1, f2, f3, f4⟩ := D.res.frozen5; obtain ⟨z0, z1, z2, z3, z4⟩ := D.box.five))
              refine bodyPost_ret (v := (.agg #[.int .i64 (24), .string ⟨#[]⟩, .int .i64 (0), .int .i64 (t.p), .slice a1 f.len c1])) (by simp [results, Tryz.results129, go_sem, q0, q1, q2, q3, q4]) rfl ?_
              exact D.ret _ _ _ _ _
            · have wt34 : rd t3 [101, 110, 100] = false := cls_nrd (c := 4) (by omega) (by decide) (by decide)
              rw [if_neg (show ¬ hc (t3 :: l4) = 4 from h4)] at hR
              subst hR
              go_wp2_with (first | (go_at_call 87; refine (accept_f b m T l4 t3 _ _ D.tk.ps (by assumption)).mono ?_; rintro e w5 ⟨rfl, hb5⟩; have D := D.below hb5) | (go_at_call 125; refine (expect_f b m T l4 t3 _ _ D.tk.ps (by assumption)).mono ?_; rintro e w8 ⟨he, hb8⟩; unfold refp at he; subst he))
              exact ⟨rfl, rfl, D.tk.ky.trans (.of_below hb8)⟩
end Go.Proofs.YtmejlldabdjpjaaGreat

/- The walks of last and local. -/
namespace Go.Proofs.YtmejlldabdjpjaaGreat
open Go.RowKit
/-- Behind a call with a row in a block y: its row is stored as the kids. -/
theorem Nd.call {b m : Nat} {T l l' : List Tok} {W : World} {X y : Nat} {k : Int} {t : List UInt8} {n p : Int} {a a' : Option Addr} {c c' : Nat} {f f' : F} {w w' : World} (h : Nd b m T l W X k t n p a c f w) (ps : PS b m T l' w') (kl : KL 42 (fun g => X < g) w' (.slice a' f'.len c') f') (few : f'.len + l'.length ≤ T.length) (hk : Ky (fun k => k = b ∨ some k = some y) w w') (hy : X < y) :
    ∃ wF, w'.setCell ⟨X, 4, none⟩ (.slice a' f'.len c') = wF ∧ Nd b m T l' W X k t n p a' c' f' wF ∧ Bx X 42 #[.int .i64 k, .string ⟨t.toArray⟩, .int .i64 n, .int .i64 p, .slice a f.len c] w' := by
  have hlt := h.lt
  have hS : ∀ x, x ≤ X → x ≠ b → ¬ (x = b ∨ some x = some y) := fun x hx hb e => e.elim hb fun e => by simp at e; omega
  have hB := h.box.ky hk (hS X (Nat.le_refl _) (by omega))
  refine ⟨_, rfl, ⟨⟨ps.set (by omega) _, ?_⟩, (h.res.ky hk (hS _ (by omega) (by omega))).set (by omega) _, hB.put4 _, kl.set (Nat.lt_irrefl _) _, few, h.lt⟩, hB⟩
  exact Ky.new (h.tk.ky.onto hk fun i hi e => e.elim id fun e => by simp at e; omega) (by omega) _
/-- The number is stored. -/
theorem Nd.num {b m : Nat} {T l : List Tok} {W : World} {X : Nat} {k : Int} {t : List UInt8} {n p : Int} {a : Option Addr} {c : Nat} {f : F} {w : World} (h : Nd b m T l W X k t n p a c f w) (n' : Int) : ∃ wF, w.setCell ⟨X, 2, none⟩ (.int .i64 n') = wF ∧ Nd b m T l W X k t n' p a c f wF := by
  have hlt := h.lt
  exact ⟨_, rfl, h.tk.new (by omega) hlt.2.1 _, h.res.set (by omega) _, h.box.put2 _, h.kl.set (Nat.lt_irrefl _) _, h.few, h.lt⟩
/-- The text is stored. -/
theorem Nd.txt {b m : Nat} {T l : List Tok} {W : World} {X : Nat} {k : Int} {t : List UInt8} {n p : Int} {a : Option Addr} {c : Nat} {f : F} {w : World} (h : Nd b m T l W X k t n p a c f w) (t' : List UInt8) : ∃ wF, w.setCell ⟨X, 1, none⟩ (.string ⟨t'.toArray⟩) = wF ∧ Nd b m T l W X k t' n p a c f wF := by
  have hlt := h.lt
  exact ⟨_, rfl, h.tk.new (by omega) hlt.2.1 _, h.res.set (by omega) _, h.box.put (j := 1) _, h.kl.set (Nat.lt_irrefl _) _, h.few, h.lt⟩
/-- A name in a new row. -/
theorem Nd.name1 {b m : Nat} {T l : List Tok} {W : World} {X : Nat} {k : Int} {t : List UInt8} {n p : Int} {a : Option Addr} {c : Nat} {f : F} {w : World} (h : Nd b m T l W X k t n p a c f w) (t' : List UInt8) (p' : Int) (few : 1 + l.length ≤ T.length) : Row b m T l (w.alloc (.cells #[.int .i64 (6), .string ⟨(t').toArray⟩, .int .i64 (0), .int .i64 (p'), .slice none 0 0] 42)) (fun g => X < g) (some ⟨w.heap.size, 0, none⟩) 1 (one 6 t' 0 p' .nil) := by
  have hlt := h.lt
  have hX := h.box.lt
  exact ⟨h.tk.ps.alloc _, (TN.leaf 42 w (fun g => X < g) 6 t' 0 p').row1 (fun _ e _ => e) hX, fun x hx => by omega, fun x hx => by simp at hx; omega, by rw [one_len]; exact few⟩
set_option maxRecDepth 20000 in
set_option maxHeartbeats 8000000 in
theorem last_any (N : Nat) (H : CC N) (b m : Nat) (T l : List Tok) (t : Tok) (W : World) (h : PS b m T (t :: l) W) (h56 : cls t ≠ 56) (hr : lastP (pr N) (t :: l) ≠ .out) : Calls Tryz.prog 89 #[.pointer (some ⟨b, 0, none⟩)] W (PN b m T W (lastP (pr N) (t :: l))) := by
  have hlt := h.lt
  have hbW : W.heap.size ≠ b := by omega
  obtain ⟨t2, l2, rfl⟩ := tail_cons h.ends h56
  unfold lastP at hr ⊢
  simp only [List.tail_cons, show ha (t :: t2 :: l2) = t.p from rfl] at hr ⊢
  by_cases h1 : cls t2 = 1
  · have wt21 : rd t2 [59] = true := cls_rd (c := 1) (by omega) (by decide) (by decide)
    rw [if_pos (show hc (t2 :: l2) = 1 from h1)]
    go_enter Tryz.func89, Tryz.ntmps89
    go_wp2_with (first | (go_at_call 122; refine (take_p b m T (t2 :: l2) t _ (h.alloc _) h56).mono ?_; rintro e w1 ⟨rfl, hT1⟩; have D := Nd.begin ((h.tk.alloc _).trans hT1) ((Bx.new W 42 _).ky hT1.ky hbW) (by omega) 30 [] 0 t.p; obtain ⟨b0, b1, b2, b3, b4⟩ := D.box.five; obtain ⟨y0, y1, y2, y3, y4⟩ := D.box.frozen5) | (go_at_call 87; refine (accept_t b m T l2 t2 _ _ D.tk.ps (by assumption)).mono ?_; rintro e w2 ⟨rfl, hT2⟩; have D := D.took hT2 (by simp); obtain ⟨q0, q1, q2, q3, q4⟩ := D.res.five; obtain ⟨f0, f1, f2, f3, f4⟩ := D.res.frozen5; obtain ⟨z0, z1, z2, z3, z4⟩ := D.box.five))
    refine bodyPost_ret (v := (.agg #[.int .i64 (30), .string ⟨#[]⟩, .int .i64 (0), .int .i64 (t.p), .slice none F.nil.len 0])) (by simp [results, Tryz.results89, go_sem, q0, q1, q2, q3, q4]) rfl ?_
    exact D.ret _ _ _ _ _
  · have wt21 : rd t2 [59] = false := cls_nrd (c := 1) (by omega) (by decide) (by decide)
    rw [if_neg (show ¬ hc (t2 :: l2) = 1 from h1)] at hr ⊢
    have CC' := fun w h => closes_any b m T l2 t2 w h
    cases hcl : closes (t2 :: l2) with
    | true =>
      rw [hcl] at CC'
      rw [if_pos rfl]
      go_enter Tryz.func89, Tryz.ntmps89
      go_wp2_with (first | (go_at_call 122; refine (take_p b m T (t2 :: l2) t _ (h.alloc _) h56).mono ?_; rintro e w1 ⟨rfl, hT1⟩; have D := Nd.begin ((h.tk.alloc _).trans hT1) ((Bx.new W 42 _).ky hT1.ky hbW) (by omega) 30 [] 0 t.p; obtain ⟨b0, b1, b2, b3, b4⟩ := D.box.five; obtain ⟨y0, y1, y2, y3, y4⟩ := D.box.frozen5) | (go_at_call 87; refine (accept_f b m T l2 t2 _ _ D.tk.ps (by assumption)).mono ?_; rintro e w2 ⟨rfl, hb2⟩; have D := D.below hb2) | (go_at_call 91; refine (CC' _ D.tk.ps).mono ?_; rintro e w3 ⟨rfl, hb3⟩; have D := D.below hb3; obtain ⟨q0, q1, q2, q3, q4⟩ := D.res.five; obtain ⟨f0, f1, f2, f3, f4⟩ := D.res.frozen5; obtain ⟨z0, z1, z2, z3, z4⟩ := D.box.five))
      refine bodyPost_ret (v := (.agg #[.int .i64 (30), .string ⟨#[]⟩, .int .i64 (0), .int .i64 (t.p), .slice none F.nil.len 0])) (by simp [results, Tryz.results89, go_sem, q0, q1, q2, q3, q4]) rfl ?_
      exact D.ret _ _ _ _ _
    | false =>
      rw [hcl] at CC'
      rw [if_neg (by simp)]
      rw [hcl, if_neg (by simp)] at hr
      cases he : pr N (.lst .nil) (t2 :: l2) with
      | out => rw [he] at hr; exact absurd rfl hr
      | bad p2 =>
        simp only [PR.bind]
        go_enter Tryz.func89, Tryz.ntmps89
        go_wp2_with (first | (go_at_call 122; refine (take_p b m T (t2 :: l2) t _ (h.alloc _) h56).mono ?_; rintro e w1 ⟨rfl, hT1⟩; have D := Nd.begin ((h.tk.alloc _).trans hT1) ((Bx.new W 42 _).ky hT1.ky hbW) (by omega) 30 [] 0 t.p; obtain ⟨b0, b1, b2, b3, b4⟩ := D.box.five; obtain ⟨y0, y1, y2, y3, y4⟩ := D.box.frozen5) | (go_at_call 87; refine (accept_f b m T l2 t2 _ _ D.tk.ps (by assumption)).mono ?_; rintro e w2 ⟨rfl, hb2⟩; have D := D.below hb2) | (go_at_call 91; refine (CC' _ D.tk.ps).mono ?_; rintro e w3 ⟨rfl, hb3⟩; have D := D.below hb3) | (go_at_call 123; have CL := H.lst b m T (t2 :: l2) _ _ _ _ _ D.row; rw [he] at CL; refine (CL (by simp)).mono ?_; rintro e w4 ⟨he, hk⟩; unfold refp at he; subst he))
        exact ⟨rfl, rfl, D.tk.ky.onto hk fun i _ e => e.elim id fun e => by simp [Value.ownBlock] at e⟩
      | ok f l3 =>
        have hsz := sz_all _ _ _ _ _ he
        simp only [Sz, F.len] at hsz
        obtain ⟨t5, l6, rfl⟩ := (pr_ends he (h.ends.tail h56)).cons
        simp only [PR.bind]
        by_cases h5 : cls t5 = 1
        · have wt51 : rd t5 [59] = true := cls_rd (c := 1) (by omega) (by decide) (by decide)
          rw [if_pos (show hc (t5 :: l6) = 1 from h5)]
          go_enter Tryz.func89, Tryz.ntmps89
          go_wp2_with (first | (go_at_call 122; refine (take_p b m T (t2 :: l2) t _ (h.alloc _) h56).mono ?_; rintro e w1 ⟨rfl, hT1⟩; have D := Nd.begin ((h.tk.alloc _).trans hT1) ((Bx.new W 42 _).ky hT1.ky hbW) (by omega) 30 [] 0 t.p; obtain ⟨b0, b1, b2, b3, b4⟩ := D.box.five; obtain ⟨y0, y1, y2, y3, y4⟩ := D.box.frozen5) | (go_at_call 87; refine (accept_f b m T l2 t2 _ _ D.tk.ps (by assumption)).mono ?_; rintro e w2 ⟨rfl, hb2⟩; have D := D.below hb2) | (go_at_call 91; refine (CC' _ D.tk.ps).mono ?_; rintro e w3 ⟨rfl, hb3⟩; have D := D.below hb3) | (go_at_call 123; have CL := H.lst b m T (t2 :: l2) _ _ _ _ _ D.row; rw [he] at CL; refine (CL (by simp)).mono ?_; rintro e w4 ⟨a3, c3, rfl, hkl, hps, hk⟩; have hfe := D.few; obtain ⟨w5, hw5, D, B5⟩ := D.grownN hps hkl (by simp only [F.len] at hfe; omega) hk; obtain ⟨-, -, -, -, x4⟩ := B5.five; obtain ⟨-, -, -, -, y4⟩ := B5.frozen5) | (go_at_call 87; refine (accept_t b m T l6 t5 _ _ D.tk.ps (by assumption)).mono ?_; rintro e w2 ⟨rfl, hT2⟩; have D := D.took hT2 (by simp); obtain ⟨q0, q1, q2, q3, q4⟩ := D.res.five; obtain ⟨f0, f1, f2, f3, f4⟩ := D.res.frozen5; obtain ⟨z0, z1, z2, z3, z4⟩ := D.box.five))
          refine bodyPost_ret (v := (.agg #[.int .i64 (30), .string ⟨#[]⟩, .int .i64 (0), .int .i64 (t.p), .slice a3 f.len c3])) (by simp [results, Tryz.results89, go_sem, q0, q1, q2, q3, q4]) rfl ?_
          exact D.ret _ _ _ _ _
        · have wt51 : rd t5 [59] = false := cls_nrd (c := 1) (by omega) (by decide) (by decide)
          rw [if_neg (show ¬ hc (t5 :: l6) = 1 from h5)]
          go_enter Tryz.func89, Tryz.ntmps89
          go_wp2_with (first | (go_at_call 122; refine (take_p b m T (t2 :: l2) t _ (h.alloc _) h56).mono ?_; rintro e w1 ⟨rfl, hT1⟩; have D := Nd.begin ((h.tk.alloc _).trans hT1) ((Bx.new W 42 _).ky hT1.ky hbW) (by omega) 30 [] 0 t.p; obtain ⟨b0, b1, b2, b3, b4⟩ := D.box.five; obtain ⟨y0, y1, y2, y3, y4⟩ := D.box.frozen5) | (go_at_call 87; refine (accept_f b m T l2 t2 _ _ D.tk.ps (by assumption)).mono ?_; rintro e w2 ⟨rfl, hb2⟩; have D := D.below hb2) | (go_at_call 91; refine (CC' _ D.tk.ps).mono ?_; rintro e w3 ⟨rfl, hb3⟩; have D := D.below hb3) | (go_at_call 123; have CL := H.lst b m T (t2 :: l2) _ _ _ _ _ D.row; rw [he] at CL; refine (CL (by simp)).mono ?_; rintro e w4 ⟨a3, c3, rfl, hkl, hps, hk⟩; have hfe := D.few; obtain ⟨w5, hw5, D, B5⟩ := D.grownN hps hkl (by simp only [F.len] at hfe; omega) hk; obtain ⟨-, -, -, -, x4⟩ := B5.five; obtain ⟨-, -, -, -, y4⟩ := B5.frozen5) | (go_at_call 87; refine (accept_f b m T l6 t5 _ _ D.tk.ps (by assumption)).mono ?_; rintro e w2 ⟨rfl, hb2⟩; have D := D.below hb2; obtain ⟨q0, q1, q2, q3, q4⟩ := D.res.five; obtain ⟨f0, f1, f2, f3, f4⟩ := D.res.frozen5; obtain ⟨z0, z1, z2, z3, z4⟩ := D.box.five))
          refine bodyPost_ret (v := (.agg #[.int .i64 (30), .string ⟨#[]⟩, .int .i64 (0), .int .i64 (t.p), .slice a3 f.len c3])) (by simp [results, Tryz.results89, go_sem, q0, q1, q2, q3, q4]) rfl ?_
          exact D.ret _ _ _ _ _
end Go.Proofs.YtmejlldabdjpjaaGreat
