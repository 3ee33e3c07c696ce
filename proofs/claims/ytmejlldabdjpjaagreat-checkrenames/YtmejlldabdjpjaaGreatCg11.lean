/- The walk of loopOfNumbers. -/
import Derived.Test.YtmejlldabdjpjaaGreatCg08
namespace Go.Proofs.YtmejlldabdjpjaaGreat
open Go.RowKit
/-- A call that tells a tree over a row that it was given. -/
def PQ (b m : Nat) (T : List Tok) (W : World) (P : Nat → Prop) (v : Value) : PR → Ending → World → Prop
  | .ok f l, e, W' => ∃ k t n p a c ks, f = one k t n p ks ∧ e = .returned (.agg #[.int .i64 (k), .string ⟨(t).toArray⟩, .int .i64 (n), .int .i64 (p), .slice a ks.len c]) ∧ TN 42 W' P k t n p (.slice a ks.len c) ks ∧ PS b m T l W' ∧ Ky (fun k => k = b ∨ some k = v.ownBlock) W W'
  | .bad p, e, W' => e = refp p ∧ Ky (fun k => k = b ∨ some k = v.ownBlock) W W'
  | .out, _, _ => False
/-- A row beside the result's block. -/
theorem Row.slot {b m : Nat} {T l : List Tok} {W : World} {P : Nat → Prop} {a : Option Addr} {c : Nat} {f : F} (h : Row b m T l W P a c f) (o : Obj) : Row b m T l (W.alloc o) (fun g => P g ∧ g ≠ W.heap.size) a c f := by
  obtain ⟨xs, h1, h2, h3⟩ := h.kl.out
  refine ⟨h.ps.alloc o, ?_, fun x hx e => h.lo x hx e.1, fun x hx => ⟨h.hi x (by simp at hx; omega), by simp at hx; omega⟩, h.few⟩
  have : KL 42 (fun g => P g ∧ g ≠ W.heap.size) W (.slice a f.len c) f := ⟨xs, h1, fun g hg => ⟨h2 g hg, by have := (h1.lt g hg).2; omega⟩, h3.mono fun g hg hl => ⟨⟨hg.1, by omega⟩, hg.2⟩⟩
  exact this.alloc o
theorem Row.nslot {b m X : Nat} {T l : List Tok} {w : World} {P : Nat → Prop} {a : Option Addr} {c : Nat} {f : F} (h : Row b m T l w (fun g => P g ∧ g ≠ X) a c f) (hb : X ≠ b) : ¬ (X = b ∨ some X = Value.ownBlock (.slice a f.len c)) := by
  obtain ⟨xs, h1, h2, h3⟩ := h.kl.out
  exact fun e => e.elim hb fun e => (h2 X e.symm).2 rfl
theorem PQ.five {b m : Nat} {T l : List Tok} {W w : World} {P : Nat → Prop} {v : Value} {k : Int} {t : List UInt8} {n p : Int} {a : Option Addr} {c : Nat} {ks : F} {u0 u1 u2 u3 u4 : Value} (ht : TN 42 w (fun g => P g ∧ g ≠ W.heap.size) k t n p (.slice a ks.len c) ks) (ps : PS b m T l w) (hk : Ky (fun k => k = b ∨ some k = v.ownBlock) W w) (hm : m ≤ W.heap.size) :
    PQ b m T W P v (.ok (one k t n p ks) l) (.returned (.agg #[.int .i64 (k), .string ⟨(t).toArray⟩, .int .i64 (n), .int .i64 (p), .slice a ks.len c])) (((((w.setCell ⟨W.heap.size, 0, none⟩ u0).setCell ⟨W.heap.size, 1, none⟩ u1).setCell ⟨W.heap.size, 2, none⟩ u2).setCell ⟨W.heap.size, 3, none⟩ u3).setCell ⟨W.heap.size, 4, none⟩ u4) :=
  ⟨k, t, n, p, a, c, ks, rfl, rfl, (ht.five (fun e => e.2 rfl) u0 u1 u2 u3 u4).mono fun _ hg _ => hg.1, ((((ps.set hm u0).set hm u1).set hm u2).set hm u3).set hm u4, ((((hk.new (Nat.le_refl _) u0).new (Nat.le_refl _) u1).new (Nat.le_refl _) u2).new (Nat.le_refl _) u3).new (Nat.le_refl _) u4⟩
set_option maxRecDepth 20000 in
set_option maxHeartbeats 16000000 in
theorem numbers_any (N : Nat) (H : CC N) (at' : Int) (b m : Nat) (T l : List Tok) (W : World) (P : Nat → Prop) (a : Option Addr) (c : Nat) (f : F) (h : Row b m T l W P a c f) (hr : numP (pr N) at' f l ≠ .out) : Calls Tryz.prog 151 #[.pointer (some ⟨b, 0, none⟩), .int .i64 at', .slice a f.len c] W (PQ b m T W P (.slice a f.len c) (numP (pr N) at' f l)) := by
  have hlt := h.ps.lt
  obtain ⟨R, hR⟩ : ∃ R, numP (pr N) at' f l = R := ⟨_, rfl⟩
  rw [hR] at hr ⊢
  unfold numP need at hR
  have hrow := h.slot (.cells #[.int .i64 0, .string ⟨#[]⟩, .int .i64 0, .int .i64 0, .slice none 0 0] 42)
  have hky : Ky (fun k => k = b ∨ some k = Value.ownBlock (.slice a f.len c)) W (W.alloc (.cells #[.int .i64 0, .string ⟨#[]⟩, .int .i64 0, .int .i64 0, .slice none 0 0] 42)) := (Ky.refl _ _).alloc _
  have hOB := OB.refl W a f.len c
  have RS := Bx.new W 42 #[.int .i64 0, .string ⟨#[]⟩, .int .i64 0, .int .i64 0, .slice none 0 0]
  have hX0 : W.heap.size ≠ b := by omega
  have C1 := fun W h => H.ex 0 b m T l W h
  cases he1 : pr N (.ex 0) l with
  | out => rw [he1] at hR; exact absurd hR.symm hr
  | bad q1 =>
    rw [he1] at hR C1
    simp only [PR.bind] at hR
    subst hR
    go_enter Tryz.func151, Tryz.ntmps151
    go_wp2_with (go_at_call 149; refine (C1 _ hrow.ps (by simp)).mono ?_; rintro e v1 ⟨he, hk⟩; unfold refp at he; subst he)
    exact ⟨rfl, rfl, hky.onto hk fun _ _ e => .inl e⟩
  | ok g1 l1 =>
    have hl1 := pr_len he1
    obtain ⟨t2, l2, rfl⟩ := (pr_ends he1 h.ps.ends).cons
    rw [he1] at hR C1
    simp only [PR.bind] at hR
    simp only [st, List.length_cons] at hl1
    by_cases h15 : cls t2 = 15
    · have wt215 : rd t2 [44] = true := cls_rd (c := 15) (by omega) (by decide) (by decide)
      rw [if_pos (show hc (t2 :: l2) = 15 from h15)] at hR
      change ((pr N (.ex 0) l2).bind _) = R at hR
      have C2 := fun W h => H.ex 0 b m T l2 W h
      cases he2 : pr N (.ex 0) l2 with
      | out => rw [he2] at hR; exact absurd hR.symm hr
      | bad q2 =>
        rw [he2] at hR C2
        simp only [PR.bind] at hR
        subst hR
        go_enter Tryz.func151, Tryz.ntmps151
        go_wp2_with (first | (go_at_call 149; refine (C2 _ hrow.ps (by simp)).mono ?_; rintro e v2 ⟨he, hk⟩; unfold refp at he; subst he) | (go_at_call 125; refine (expect_t b m T _ t2 _ _ hrow.ps (by assumption)).mono ?_; rintro e y1 ⟨rfl, hT1⟩; have RS := RS.ky hT1.ky hX0; have hrow := hrow.took hT1; have hky := hky.onto hT1.ky (fun _ _ e => .inl e)) | (go_at_call 149; refine (C1 _ hrow.ps (by simp)).mono ?_; rintro e v1 ⟨k1, tt1, n1, p1, a1, c1, ks1, rfl, rfl, hTN1, hTk1⟩) | (at_builtin; refine app_row2 rfl _ _ rfl hrow hTN1 hTk1 (by have := hrow.few; (try simp only [List.length_cons] at this); (try simp only [List.length_cons]); omega) rfl rfl ?_; intro gg1 cc1 x1 hrow2 hky2 hat2; have RS := RS.ky hky2 (hrow.nslot hX0); have hky3 := hOB.ky hky hky2; have hOB := hOB.app hky.size hat2; have hky := hky3; have hrow := hrow2))
        exact ⟨rfl, rfl, hky.onto hk fun _ _ e => .inl e⟩
      | ok g2 l3 =>
        have hl2 := pr_len he2
        obtain ⟨t4, l4, rfl⟩ := (pr_ends he2 ((pr_ends he1 h.ps.ends).tail (by omega))).cons
        rw [he2] at hR C2
        simp only [PR.bind] at hR
        simp only [st, List.length_cons] at hl2
        by_cases h4 : cls t4 = 15
        · have wt415 : rd t4 [44] = true := cls_rd (c := 15) (by omega) (by decide) (by decide)
          rw [if_pos (show hc (t4 :: l4) = 15 from h4)] at hR
          change ((pr N (.ex 0) l4).bind _) = R at hR
          have C3 := fun W h => H.ex 0 b m T l4 W h
          cases he3 : pr N (.ex 0) l4 with
          | out => rw [he3] at hR; exact absurd hR.symm hr
          | bad q3 =>
            rw [he3] at hR C3
            simp only [PR.bind] at hR
            subst hR
            go_enter Tryz.func151, Tryz.ntmps151
            go_wp2_with (first | (go_at_call 149; refine (C3 _ hrow.ps (by simp)).mono ?_; rintro e v3 ⟨he, hk⟩; unfold refp at he; subst he) | (go_at_call 87; refine (accept_t b m T _ t4 _ _ hrow.ps (by assumption)).mono ?_; rintro e y2 ⟨rfl, hT2⟩; have RS := RS.ky hT2.ky hX0; have hrow := hrow.took hT2; have hky := hky.onto hT2.ky (fun _ _ e => .inl e)) | (go_at_call 149; refine (C2 _ hrow.ps (by simp)).mono ?_; rintro e v2 ⟨k2, tt2, n2, p2, a2, c2, ks2, rfl, rfl, hTN2, hTk2⟩) | (at_builtin; refine app_row2 rfl _ _ rfl hrow hTN2 hTk2 (by have := hrow.few; (try simp only [List.length_cons] at this); (try simp only [List.length_cons]); omega) rfl rfl ?_; intro gg2 cc2 x2 hrow2 hky2 hat2; have RS := RS.ky hky2 (hrow.nslot hX0); have hky3 := hOB.ky hky hky2; have hOB := hOB.app hky.size hat2; have hky := hky3; have hrow := hrow2) | (go_at_call 125; refine (expect_t b m T _ t2 _ _ hrow.ps (by assumption)).mono ?_; rintro e y1 ⟨rfl, hT1⟩; have RS := RS.ky hT1.ky hX0; have hrow := hrow.took hT1; have hky := hky.onto hT1.ky (fun _ _ e => .inl e)) | (go_at_call 149; refine (C1 _ hrow.ps (by simp)).mono ?_; rintro e v1 ⟨k1, tt1, n1, p1, a1, c1, ks1, rfl, rfl, hTN1, hTk1⟩) | (at_builtin; refine app_row2 rfl _ _ rfl hrow hTN1 hTk1 (by have := hrow.few; (try simp only [List.length_cons] at this); (try simp only [List.length_cons]); omega) rfl rfl ?_; intro gg1 cc1 x1 hrow2 hky2 hat2; have RS := RS.ky hky2 (hrow.nslot hX0); have hky3 := hOB.ky hky hky2; have hOB := hOB.app hky.size hat2; have hky := hky3; have hrow := hrow2))
            exact ⟨rfl, rfl, hky.onto hk fun _ _ e => .inl e⟩
          | ok g3 l5 =>
            have hl3 := pr_len he3
            rw [he3] at hR C3
            simp only [PR.bind] at hR
            simp only [st] at hl3
            rw [bodyP_bind] at hR
            have CB := fun W h => body_any N H b m T l5 W h
            cases hb : bodyP (pr N) l5 .ok with
            | out => rw [hb] at hR; exact absurd hR.symm hr
            | bad q9 =>
              rw [hb] at hR CB
              simp only [PR.bind] at hR
              subst hR
              go_enter Tryz.func151, Tryz.ntmps151
              go_wp2_with (first | (go_at_call 127; refine (CB _ hrow.ps (by simp)).mono ?_; rintro e v9 ⟨he, hk⟩; unfold refp at he; subst he) | (go_at_call 149; refine (C3 _ hrow.ps (by simp)).mono ?_; rintro e v3 ⟨k3, tt3, n3, p3, a3, c3, ks3, rfl, rfl, hTN3, hTk3⟩) | (at_builtin; refine app_row2 rfl _ _ rfl hrow hTN3 hTk3 (by have := hrow.few; (try simp only [List.length_cons] at this); (try simp only [List.length_cons]); omega) rfl rfl ?_; intro gg3 cc3 x3 hrow2 hky2 hat2; have RS := RS.ky hky2 (hrow.nslot hX0); have hky3 := hOB.ky hky hky2; have hOB := hOB.app hky.size hat2; have hky := hky3; have hrow := hrow2) | (go_at_call 87; refine (accept_t b m T _ t4 _ _ hrow.ps (by assumption)).mono ?_; rintro e y2 ⟨rfl, hT2⟩; have RS := RS.ky hT2.ky hX0; have hrow := hrow.took hT2; have hky := hky.onto hT2.ky (fun _ _ e => .inl e)) | (go_at_call 149; refine (C2 _ hrow.ps (by simp)).mono ?_; rintro e v2 ⟨k2, tt2, n2, p2, a2, c2, ks2, rfl, rfl, hTN2, hTk2⟩) | (at_builtin; refine app_row2 rfl _ _ rfl hrow hTN2 hTk2 (by have := hrow.few; (try simp only [List.length_cons] at this); (try simp only [List.length_cons]); omega) rfl rfl ?_; intro gg2 cc2 x2 hrow2 hky2 hat2; have RS := RS.ky hky2 (hrow.nslot hX0); have hky3 := hOB.ky hky hky2; have hOB := hOB.app hky.size hat2; have hky := hky3; have hrow := hrow2) | (go_at_call 125; refine (expect_t b m T _ t2 _ _ hrow.ps (by assumption)).mono ?_; rintro e y1 ⟨rfl, hT1⟩; have RS := RS.ky hT1.ky hX0; have hrow := hrow.took hT1; have hky := hky.onto hT1.ky (fun _ _ e => .inl e)) | (go_at_call 149; refine (C1 _ hrow.ps (by simp)).mono ?_; rintro e v1 ⟨k1, tt1, n1, p1, a1, c1, ks1, rfl, rfl, hTN1, hTk1⟩) | (at_builtin; refine app_row2 rfl _ _ rfl hrow hTN1 hTk1 (by have := hrow.few; (try simp only [List.length_cons] at this); (try simp only [List.length_cons]); omega) rfl rfl ?_; intro gg1 cc1 x1 hrow2 hky2 hat2; have RS := RS.ky hky2 (hrow.nslot hX0); have hky3 := hOB.ky hky hky2; have hOB := hOB.app hky.size hat2; have hky := hky3; have hrow := hrow2))
              exact ⟨rfl, rfl, hky.onto hk fun _ _ e => .inl e⟩
            | ok g9 l9 =>
              obtain ⟨_, hl9⟩ := body_len hb
              rw [hb] at hR CB
              simp only [PR.bind] at hR
              try simp only [List.length_cons] at hl9
              subst hR
              go_enter Tryz.func151, Tryz.ntmps151
              go_wp2_with (first | (go_at_call 127; refine (CB _ hrow.ps (by simp)).mono ?_; rintro e v9 ⟨k9, tt9, n9, p9, a9, c9, ks9, rfl, rfl, hTN9, hTk9⟩) | (at_builtin; refine app_row2 rfl _ _ rfl hrow hTN9 hTk9 (by have := hrow.few; (try simp only [List.length_cons] at this); (try simp only [List.length_cons]); omega) rfl rfl ?_; intro gg9 cc9 x9 hrow2 hky2 hat2; have RS := RS.ky hky2 (hrow.nslot hX0); have hky3 := hOB.ky hky hky2; have hOB := hOB.app hky.size hat2; have hky := hky3; have hrow := hrow2; obtain ⟨q0, q1, q2, q3, q4⟩ := RS.five; obtain ⟨f0, f1, f2, f3, f4⟩ := RS.frozen5) | (go_at_call 149; refine (C3 _ hrow.ps (by simp)).mono ?_; rintro e v3 ⟨k3, tt3, n3, p3, a3, c3, ks3, rfl, rfl, hTN3, hTk3⟩) | (at_builtin; refine app_row2 rfl _ _ rfl hrow hTN3 hTk3 (by have := hrow.few; (try simp only [List.length_cons] at this); (try simp only [List.length_cons]); omega) rfl rfl ?_; intro gg3 cc3 x3 hrow2 hky2 hat2; have RS := RS.ky hky2 (hrow.nslot hX0); have hky3 := hOB.ky hky hky2; have hOB := hOB.app hky.size hat2; have hky := hky3; have hrow := hrow2) | (go_at_call 87; refine (accept_t b m T _ t4 _ _ hrow.ps (by assumption)).mono ?_; rintro e y2 ⟨rfl, hT2⟩; have RS := RS.ky hT2.ky hX0; have hrow := hrow.took hT2; have hky := hky.onto hT2.ky (fun _ _ e => .inl e)) | (go_at_call 149; refine (C2 _ hrow.ps (by simp)).mono ?_; rintro e v2 ⟨k2, tt2, n2, p2, a2, c2, ks2, rfl, rfl, hTN2, hTk2⟩) | (at_builtin; refine app_row2 rfl _ _ rfl hrow hTN2 hTk2 (by have := hrow.few; (try simp only [List.length_cons] at this); (try simp only [List.length_cons]); omega) rfl rfl ?_; intro gg2 cc2 x2 hrow2 hky2 hat2; have RS := RS.ky hky2 (hrow.nslot hX0); have hky3 := hOB.ky hky hky2; have hOB := hOB.app hky.size hat2; have hky := hky3; have hrow := hrow2) | (go_at_call 125; refine (expect_t b m T _ t2 _ _ hrow.ps (by assumption)).mono ?_; rintro e y1 ⟨rfl, hT1⟩; have RS := RS.ky hT1.ky hX0; have hrow := hrow.took hT1; have hky := hky.onto hT1.ky (fun _ _ e => .inl e)) | (go_at_call 149; refine (C1 _ hrow.ps (by simp)).mono ?_; rintro e v1 ⟨k1, tt1, n1, p1, a1, c1, ks1, rfl, rfl, hTN1, hTk1⟩) | (at_builtin; refine app_row2 rfl _ _ rfl hrow hTN1 hTk1 (by have := hrow.few; (try simp only [List.length_cons] at this); (try simp only [List.length_cons]); omega) rfl rfl ?_; intro gg1 cc1 x1 hrow2 hky2 hat2; have RS := RS.ky hky2 (hrow.nslot hX0); have hky3 := hOB.ky hky hky2; have hOB := hOB.app hky.size hat2; have hky := hky3; have hrow := hrow2))
              refine bodyPost_ret (v := .agg #[.int .i64 26, .string ⟨#[]⟩, .int .i64 0, .int .i64 at', .slice (some ⟨gg9, 0, none⟩) _ cc9]) (by simp [results, Tryz.results151, go_sem, q0, q1, q2, q3, q4]; rfl) rfl ?_
              exact PQ.five (hrow.kl.node 26 [] 0 at') hrow.ps hky hlt.2
        · have wt415 : rd t4 [44] = false := cls_nrd (c := 15) (by omega) (by decide) (by decide)
          rw [if_neg (show ¬ hc (t4 :: l4) = 15 from h4)] at hR
          rw [bodyP_bind] at hR
          have CB := fun W h => body_any N H b m T (t4 :: l4) W h
          cases hb : bodyP (pr N) (t4 :: l4) .ok with
          | out => rw [hb] at hR; exact absurd hR.symm hr
          | bad q9 =>
            rw [hb] at hR CB
            simp only [PR.bind] at hR
            subst hR
            go_enter Tryz.func151, Tryz.ntmps151
            go_wp2_with (first | (go_at_call 127; refine (CB _ hrow.ps (by simp)).mono ?_; rintro e v9 ⟨he, hk⟩; unfold refp at he; subst he) | (go_at_call 87; refine (accept_f b m T _ t4 _ _ hrow.ps (by assumption)).mono ?_; rintro e y2 ⟨rfl, hb2⟩; have RS := RS.below hb2; have hrow := hrow.past hb2; have hky := hky.trans (.of_below hb2)) | (go_at_call 149; refine (C2 _ hrow.ps (by simp)).mono ?_; rintro e v2 ⟨k2, tt2, n2, p2, a2, c2, ks2, rfl, rfl, hTN2, hTk2⟩) | (at_builtin; refine app_row2 rfl _ _ rfl hrow hTN2 hTk2 (by have := hrow.few; (try simp only [List.length_cons] at this); (try simp only [List.length_cons]); omega) rfl rfl ?_; intro gg2 cc2 x2 hrow2 hky2 hat2; have RS := RS.ky hky2 (hrow.nslot hX0); have hky3 := hOB.ky hky hky2; have hOB := hOB.app hky.size hat2; have hky := hky3; have hrow := hrow2) | (go_at_call 125; refine (expect_t b m T _ t2 _ _ hrow.ps (by assumption)).mono ?_; rintro e y1 ⟨rfl, hT1⟩; have RS := RS.ky hT1.ky hX0; have hrow := hrow.took hT1; have hky := hky.onto hT1.ky (fun _ _ e => .inl e)) | (go_at_call 149; refine (C1 _ hrow.ps (by simp)).mono ?_; rintro e v1 ⟨k1, tt1, n1, p1, a1, c1, ks1, rfl, rfl, hTN1, hTk1⟩) | (at_builtin; refine app_row2 rfl _ _ rfl hrow hTN1 hTk1 (by have := hrow.few; (try simp only [List.length_cons] at this); (try simp only [List.length_cons]); omega) rfl rfl ?_; intro gg1 cc1 x1 hrow2 hky2 hat2; have RS := RS.ky hky2 (hrow.nslot hX0); have hky3 := hOB.ky hky hky2; have hOB := hOB.app hky.size hat2; have hky := hky3; have hrow := hrow2))
            exact ⟨rfl, rfl, hky.onto hk fun _ _ e => .inl e⟩
          | ok g9 l9 =>
            obtain ⟨_, hl9⟩ := body_len hb
            rw [hb] at hR CB
            simp only [PR.bind] at hR
            try simp only [List.length_cons] at hl9
            subst hR
            go_enter Tryz.func151, Tryz.ntmps151
            go_wp2_with (first | (go_at_call 127; refine (CB _ hrow.ps (by simp)).mono ?_; rintro e v9 ⟨k9, tt9, n9, p9, a9, c9, ks9, rfl, rfl, hTN9, hTk9⟩) | (at_builtin; refine app_row2 rfl _ _ rfl hrow hTN9 hTk9 (by have := hrow.few; (try simp only [List.length_cons] at this); (try simp only [List.length_cons]); omega) rfl rfl ?_; intro gg9 cc9 x9 hrow2 hky2 hat2; have RS := RS.ky hky2 (hrow.nslot hX0); have hky3 := hOB.ky hky hky2; have hOB := hOB.app hky.size hat2; have hky := hky3; have hrow := hrow2; obtain ⟨q0, q1, q2, q3, q4⟩ := RS.five; obtain ⟨f0, f1, f2, f3, f4⟩ := RS.frozen5) | (go_at_call 87; refine (accept_f b m T _ t4 _ _ hrow.ps (by assumption)).mono ?_; rintro e y2 ⟨rfl, hb2⟩; have RS := RS.below hb2; have hrow := hrow.past hb2; have hky := hky.trans (.of_below hb2)) | (go_at_call 149; refine (C2 _ hrow.ps (by simp)).mono ?_; rintro e v2 ⟨k2, tt2, n2, p2, a2, c2, ks2, rfl, rfl, hTN2, hTk2⟩) | (at_builtin; refine app_row2 rfl _ _ rfl hrow hTN2 hTk2 (by have := hrow.few; (try simp only [List.length_cons] at this); (try simp only [List.length_cons]); omega) rfl rfl ?_; intro gg2 cc2 x2 hrow2 hky2 hat2; have RS := RS.ky hky2 (hrow.nslot hX0); have hky3 := hOB.ky hky hky2; have hOB := hOB.app hky.size hat2; have hky := hky3; have hrow := hrow2) | (go_at_call 125; refine (expect_t b m T _ t2 _ _ hrow.ps (by assumption)).mono ?_; rintro e y1 ⟨rfl, hT1⟩; have RS := RS.ky hT1.ky hX0; have hrow := hrow.took hT1; have hky := hky.onto hT1.ky (fun _ _ e => .inl e)) | (go_at_call 149; refine (C1 _ hrow.ps (by simp)).mono ?_; rintro e v1 ⟨k1, tt1, n1, p1, a1, c1, ks1, rfl, rfl, hTN1, hTk1⟩) | (at_builtin; refine app_row2 rfl _ _ rfl hrow hTN1 hTk1 (by have := hrow.few; (try simp only [List.length_cons] at this); (try simp only [List.length_cons]); omega) rfl rfl ?_; intro gg1 cc1 x1 hrow2 hky2 hat2; have RS := RS.ky hky2 (hrow.nslot hX0); have hky3 := hOB.ky hky hky2; have hOB := hOB.app hky.size hat2; have hky := hky3; have hrow := hrow2))
            refine bodyPost_ret (v := .agg #[.int .i64 26, .string ⟨#[]⟩, .int .i64 0, .int .i64 at', .slice (some ⟨gg9, 0, none⟩) _ cc9]) (by simp [results, Tryz.results151, go_sem, q0, q1, q2, q3, q4]; rfl) rfl ?_
            exact PQ.five (hrow.kl.node 26 [] 0 at') hrow.ps hky hlt.2
    · have wt215 : rd t2 [44] = false := cls_nrd (c := 15) (by omega) (by decide) (by decide)
      rw [if_neg (show ¬ hc (t2 :: l2) = 15 from h15)] at hR
      subst hR
      go_enter Tryz.func151, Tryz.ntmps151
      go_wp2_with (first | (go_at_call 125; refine (expect_f b m T _ t2 _ _ hrow.ps (by assumption)).mono ?_; rintro e y1 ⟨he, hb⟩; unfold refp at he; subst he) | (go_at_call 149; refine (C1 _ hrow.ps (by simp)).mono ?_; rintro e v1 ⟨k1, tt1, n1, p1, a1, c1, ks1, rfl, rfl, hTN1, hTk1⟩) | (at_builtin; refine app_row2 rfl _ _ rfl hrow hTN1 hTk1 (by have := hrow.few; (try simp only [List.length_cons] at this); (try simp only [List.length_cons]); omega) rfl rfl ?_; intro gg1 cc1 x1 hrow2 hky2 hat2; have RS := RS.ky hky2 (hrow.nslot hX0); have hky3 := hOB.ky hky hky2; have hOB := hOB.app hky.size hat2; have hky := hky3; have hrow := hrow2))
      exact ⟨rfl, rfl, hky.trans (.of_below hb)⟩
end Go.Proofs.YtmejlldabdjpjaaGreat
