/- The walks of body and branch. -/
import Derived.Test.YtmejlldabdjpjaaGreatCg05
import Derived.Test.YtmejlldabdjpjaaGreatCg06
import Derived.Test.YtmejlldabdjpjaaGreatCg01
namespace Go.Proofs.YtmejlldabdjpjaaGreat
open Go.RowKit
/-- The parser and the result's block. -/
structure Rs (b m : Nat) (T l : List Tok) (W : World) (w : World) : Prop where
  tk : Tk b m T l W w
  res : Bx W.heap.size 42 #[.int .i64 0, .string ⟨#[]⟩, .int .i64 0, .int .i64 0, .slice none 0 0] w
  lt : b < W.heap.size ∧ m ≤ W.heap.size
section
variable {b m : Nat} {T l l' : List Tok} {W : World} {w w' : World}
theorem Rs.below (h : Rs b m T l W w) (hb : Below w.heap.size w w') : Rs b m T l W w' := ⟨h.tk.below hb, h.res.below hb, h.lt⟩
theorem Rs.alloc (h : Rs b m T l W w) (o : Obj) : Rs b m T l W (w.alloc o) := ⟨h.tk.alloc o, h.res.alloc o, h.lt⟩
theorem Rs.took (h : Rs b m T l W w) (hT : Tk b m T l' w w') : Rs b m T l' W w' := by
  have hlt := h.lt
  exact ⟨h.tk.trans hT, h.res.ky hT.ky (by omega), h.lt⟩
theorem PS.rs (h : PS b m T l W) : Rs b m T l W (W.alloc (.cells #[.int .i64 0, .string ⟨#[]⟩, .int .i64 0, .int .i64 0, .slice none 0 0] 42)) := ⟨h.tk.alloc _, Bx.new _ _ _, by have := h.lt; omega⟩
end
/-- A tree behind a row. -/
theorem Row.snoc2 {b m : Nat} {T l l' : List Tok} {W w1 w2 : World} {P : Nat → Prop} {a a' : Option Addr} {c c' cc : Nat} {f ks : F} {k : Int} {t : List UInt8} {n p : Int} {g : Nat} {o : Obj} {xs : List Value} (h : Row b m T l W P a c f) (ht : TN 42 w1 (fun g => W.heap.size ≤ g) k t n p (.slice a' ks.len c') ks) (hk : Tk b m T l' W w1)
    (hkf : KF 42 (w1.alloc o) (fun g => P g ∧ some g ≠ Value.ownBlock (.slice a f.len c)) xs f)
    (own : w2.ownsRow 0 42 5 (.slice (some ⟨g, 0, none⟩) (f.len + 1) cc) (f.len + 1) (xs ++ [.int .i64 k, .string ⟨t.toArray⟩, .int .i64 n, .int .i64 p, .slice a' ks.len c']))
    (hg : (w1.alloc o).grownBy w2 (Value.ownBlock (.slice a f.len c))) (hat : Value.ownBlock (.slice a f.len c) = some g ∨ g = (w1.alloc o).heap.size) (hl : f.len + 1 + l'.length ≤ T.length) :
    Row b m T l' w2 P (some ⟨g, 0, none⟩) cc (f.app (one k t n p ks)) ∧ Ky (fun k => k = b ∨ some k = Value.ownBlock (.slice a f.len c)) W w2 := by
  have hps := h.ps.lt
  have hsz := hk.ky.size
  obtain ⟨ys, hy, hyP, _⟩ := h.kl.out
  have hl1 : (f.app (one k t n p ks)).len = f.len + 1 := by rw [F.len_app]; rfl
  have hK : Ky (fun k => k = b ∨ some k = Value.ownBlock (.slice a f.len c)) W w2 := ((hk.ky.mono fun _ _ e => .inl e).alloc o).trans ⟨hg.os, hg.tape, hg.output, hg.size, fun i hi hn => hg.block i hi fun e => hn (.inr e)⟩
  have hkt : KF 42 (w1.alloc o) (fun g => P g ∧ some g ≠ Value.ownBlock (.slice a f.len c)) [.int .i64 k, .string ⟨t.toArray⟩, .int .i64 n, .int .i64 p, .slice a' ks.len c'] (one k t n p ks) := by
    refine (ht.kf.mono (Q := fun g => W.heap.size ≤ g ∧ g < w1.heap.size) fun g h1 h2 => ⟨h1, h2⟩).keep (w' := w1.alloc o) (fun k hk _ => (World.grownBy_alloc w1 o none).block k hk.2 (by simp)) |>.mono fun g hg _ => ⟨h.hi g hg.1, fun e => ?_⟩
    have := (hy.lt g e.symm).2
    omega
  refine ⟨⟨?_, ?_, h.lo, fun x hx => h.hi x (Nat.le_trans hK.size hx), by rw [hl1]; omega⟩, hK⟩
  · exact (hk.ps.alloc o).ky (S := fun k => some k = Value.ownBlock (.slice a f.len c)) ⟨hg.os, hg.tape, hg.output, hg.size, fun i hi hn => hg.block i hi hn⟩ fun x hx e => h.lo x hx (hyP x e.symm)
  · have := KL.snoc (n := one k t n p ks) hyP hkf hkt own (fun k hk hn => hg.block k hk hn) (fun x hx => h.hi x (by simp at hx; omega)) (hat.imp id (fun e => by omega))
    rw [hl1]; exact this
/-- The append of a tree that a call has told. -/
theorem app_row2 {ops : Array Oper} {rest : List Oper} {o : Oper} {ac : Act} {Q : Exit → Act → World → Prop} {b m : Nat} {T l l' : List Tok} {W w1 : World} {P : Nat → Prop} {a a' : Option Addr} {c c' : Nat} {f ks : F} {k : Int} {t : List UInt8} {n p : Int} (hgd : o.guard = none) (s x : Operand)
    (ho : o.op = .call { callee := .builtin .append, args := #[s, x], argTypes := #[40, 40] }) (h : Row b m T l W P a c f) (ht : TN 42 w1 (fun g => W.heap.size ≤ g) k t n p (.slice a' ks.len c') ks) (hk : Tk b m T l' W w1) (hl : f.len + 1 + l'.length ≤ T.length)
    (hs : ac.eval s = .slice a f.len c) (hx : ac.eval x = .slice (some ⟨w1.heap.size, 0, none⟩) 1 1)
    (hK : ∀ g cc w2, Row b m T l' w2 P (some ⟨g, 0, none⟩) cc (f.app (one k t n p ks)) → Ky (fun k => k = b ∨ some k = Value.ownBlock (.slice a f.len c)) W w2 → (Value.ownBlock (.slice a f.len c) = some g ∨ W.heap.size ≤ g) → wpList Tryz.prog ops Q rest (ac.put o.dst (.slice (some ⟨g, 0, none⟩) (f.app (one k t n p ks)).len cc)) w2) :
    wpList Tryz.prog ops Q (o :: rest) ac (w1.alloc (.cells #[.int .i64 k, .string ⟨t.toArray⟩, .int .i64 n, .int .i64 p, .slice a' ks.len c'] 42)) := by
  obtain ⟨i0, hi0, hz0, hz1, hz2⟩ := info_parts info24
  have hps := h.ps.lt
  have hsm := h.ps.small
  have hfew := h.few
  have hsz := hk.ky.size
  have hkl := h.kl.keep (w' := w1.alloc (.cells #[.int .i64 k, .string ⟨t.toArray⟩, .int .i64 n, .int .i64 p, .slice a' ks.len c'] 42)) fun g hg hl => (hk.ky.alloc _).block g hl (fun e => h.lo g (by omega) hg)
  obtain ⟨xs, hown, _, hkf⟩ := hkl.out
  have hl1 : (f.app (one k t n p ks)).len = f.len + 1 := by rw [F.len_app]; rfl
  refine wpList_append_lies _ hgd s x 40 ho 0 42 i0 _ 5 64 Tryz.underlying40 hi0 hz0 hz1 hz2 rfl (by omega) (.slice a f.len c) f.len xs hs hown ⟨w1.heap.size, 0, none⟩ 1 1 [.int .i64 k, .string ⟨t.toArray⟩, .int .i64 n, .int .i64 p, .slice a' ks.len c'] hx rfl (World.news_of_block (cs := #[.int .i64 k, .string ⟨t.toArray⟩, .int .i64 n, .int .i64 p, .slice a' ks.len c']) (t := 42) (fr := (0, 0)) (Go.heap_alloc_new w1 _)) (by simp [Value.oneCell']) (by omega) (by unfold maxLen; omega) (by omega) (Nat.zero_le _) (w1.heap.size + 1) (by simp) ?_
  intro g cc w2 hown2 hg hat _
  obtain ⟨r1, r2⟩ := h.snoc2 ht hk hkf hown2 hg (hat.imp id fun e => by simpa using e) hl
  have := hK g cc w2 r1 r2 (hat.imp id fun e => by omega)
  rw [hl1] at this
  exact this
/-- The append of a tree that a call has told, at a step of a region that draws its order. -/
theorem step_row2 {ops : Array Oper} {o : Oper} {ac : Act} {K : Act → World → Prop} {Q : Exit → Act → World → Prop} {E : Prop} {b m : Nat} {T l l' : List Tok} {W w1 : World} {P : Nat → Prop} {a a' : Option Addr} {c c' : Nat} {f ks : F} {k : Int} {t : List UInt8} {n p : Int} (hgd : o.guard = none) (s x : Operand)
    (ho : o.op = .call { callee := .builtin .append, args := #[s, x], argTypes := #[40, 40] }) (h : Row b m T l W P a c f) (ht : TN 42 w1 (fun g => W.heap.size ≤ g) k t n p (.slice a' ks.len c') ks) (hk : Tk b m T l' W w1) (hl : f.len + 1 + l'.length ≤ T.length)
    (hs : ac.eval s = .slice a f.len c) (hx : ac.eval x = .slice (some ⟨w1.heap.size, 0, none⟩) 1 1)
    (hK : ∀ g cc w2, Row b m T l' w2 P (some ⟨g, 0, none⟩) cc (f.app (one k t n p ks)) → Ky (fun k => k = b ∨ some k = Value.ownBlock (.slice a f.len c)) W w2 → K (ac.put o.dst (.slice (some ⟨g, 0, none⟩) (f.app (one k t n p ks)).len cc)) w2) :
    if Region.wanted o (yielded ops ac.tmps) = true then Oper.wp Tryz.prog o ac (w1.alloc (.cells #[.int .i64 k, .string ⟨t.toArray⟩, .int .i64 n, .int .i64 p, .slice a' ks.len c'] 42)) K Q else E := by
  obtain ⟨i0, hi0, hz0, hz1, hz2⟩ := info_parts info24
  have hps := h.ps.lt
  have hsm := h.ps.small
  have hfew := h.few
  have hsz := hk.ky.size
  have hkl := h.kl.keep (w' := w1.alloc (.cells #[.int .i64 k, .string ⟨t.toArray⟩, .int .i64 n, .int .i64 p, .slice a' ks.len c'] 42)) fun g hg hl => (hk.ky.alloc _).block g hl (fun e => h.lo g (by omega) hg)
  obtain ⟨xs, hown, _, hkf⟩ := hkl.out
  have hl1 : (f.app (one k t n p ks)).len = f.len + 1 := by rw [F.len_app]; rfl
  refine step_append_lies _ hgd s x 40 ho 0 42 i0 _ 5 64 Tryz.underlying40 hi0 hz0 hz1 hz2 rfl (by omega) (.slice a f.len c) f.len xs hs hown ⟨w1.heap.size, 0, none⟩ 1 1 [.int .i64 k, .string ⟨t.toArray⟩, .int .i64 n, .int .i64 p, .slice a' ks.len c'] hx rfl (World.news_of_block (cs := #[.int .i64 k, .string ⟨t.toArray⟩, .int .i64 n, .int .i64 p, .slice a' ks.len c']) (t := 42) (fr := (0, 0)) (Go.heap_alloc_new w1 _)) (by simp [Value.oneCell']) (by omega) (by unfold maxLen; omega) (by omega) (Nat.zero_le _) (w1.heap.size + 1) (by simp) ?_
  intro g cc w2 hown2 hg hat _
  obtain ⟨r1, r2⟩ := h.snoc2 ht hk hkf hown2 hg (hat.imp id fun e => by simpa using e) hl
  have := hK g cc w2 r1 r2
  rw [hl1] at this
  exact this
theorem bodyP_bind (rec : J → List Tok → PR) (l : List Tok) (k : F → List Tok → PR) : bodyP rec l k = (bodyP rec l .ok).bind k := by
  unfold bodyP need
  split
  · cases he : rec (.blk false) l.tail with
    | ok f m => simp only [he, PR.bind]; by_cases hm : hc m = 4 <;> simp [hm]
    | bad p => simp only [he, PR.bind]
    | out => simp only [he, PR.bind]
  · rfl
set_option maxRecDepth 20000 in
set_option maxHeartbeats 8000000 in
theorem body_any (N : Nat) (H : CC N) (b m : Nat) (T l : List Tok) (W : World) (h : PS b m T l W) (hr : bodyP (pr N) l .ok ≠ .out) : Calls Tryz.prog 127 #[.pointer (some ⟨b, 0, none⟩)] W (PN b m T W (bodyP (pr N) l .ok)) := by
  have hlt := h.lt
  obtain ⟨t, l1, rfl⟩ := h.cons
  have D := h.rs
  unfold bodyP need at hr ⊢
  by_cases h7 : cls t = 7
  · have wt7 : rd t [100, 111] = true := cls_rd (c := 7) (by omega) (by decide) (by decide)
    rw [if_pos (show hc (t :: l1) = 7 from h7)] at hr ⊢
    have CE := fun W h => H.blk false b m T l1 W h
    change ((pr N (.blk false) l1).bind _) ≠ _ at hr
    change Calls _ _ _ _ (PN b m T W ((pr N (.blk false) l1).bind _))
    cases he : pr N (.blk false) l1 with
    | out => rw [he] at hr; exact absurd rfl hr
    | bad p =>
      rw [he] at CE
      go_enter Tryz.func127, Tryz.ntmps127
      go_wp2_with (first | (go_at_call 125; refine (expect_t b m T l1 t _ _ D.tk.ps (by assumption)).mono ?_; rintro e w1 ⟨rfl, hT1⟩; have D := D.took hT1; have r1 := D.res.lt) | (go_at_call 48; refine (CE _ D.tk.ps (by simp)).mono ?_; rintro e w2 ⟨he, hk⟩; unfold refp at he; subst he))
      exact ⟨rfl, rfl, D.tk.ky.trans hk⟩
    | ok g l2 =>
      obtain ⟨t3, l4, rfl⟩ := (pr_ends he (h.ends.tail (by omega))).cons
      rw [he] at CE
      simp only [PR.bind]
      by_cases h4 : cls t3 = 4
      · have wt34 : rd t3 [101, 110, 100] = true := cls_rd (c := 4) (by omega) (by decide) (by decide)
        rw [if_pos (show hc (t3 :: l4) = 4 from h4)]
        go_enter Tryz.func127, Tryz.ntmps127
        go_wp2_with (first | (go_at_call 125; refine (expect_t b m T l1 t _ _ D.tk.ps (by assumption)).mono ?_; rintro e w1 ⟨rfl, hT1⟩; have D := D.took hT1; have r1 := D.res.lt) | (go_at_call 48; refine (CE _ D.tk.ps (by simp)).mono ?_; rintro e w2 ⟨k, tt, n, p, a1, c1, ks, rfl, rfl, hTN, hTk⟩; have D := (D.took hTk).alloc (.cells #[.int .i64 (k), .string ⟨(tt).toArray⟩, .int .i64 (n), .int .i64 (p), .slice a1 ks.len c1] 42); have KT := (hTN.mono (Q := fun g => W.heap.size < g) (fun g hg _ => by omega)).alloc (.cells #[.int .i64 (k), .string ⟨(tt).toArray⟩, .int .i64 (n), .int .i64 (p), .slice a1 ks.len c1] 42); have B := Bx.new w2 42 #[.int .i64 k, .string ⟨tt.toArray⟩, .int .i64 n, .int .i64 p, .slice a1 ks.len c1]; have s2 : w2.heap.size ≠ b := (by have := hTk.ps.lt; omega)) | (go_at_call 125; refine (expect_t b m T l4 t3 _ _ D.tk.ps (by assumption)).mono ?_; rintro e w3 ⟨rfl, hT3⟩; have D := D.took hT3; have B := B.ky hT3.ky s2; have KT := KT.ky hT3.ky (by omega); obtain ⟨q0, q1, q2, q3, q4⟩ := D.res.five; obtain ⟨f0, f1, f2, f3, f4⟩ := D.res.frozen5; obtain ⟨p0, p1, p2, p3, p4⟩ := B.five))
        refine bodyPost_ret (v := (.agg #[.int .i64 (k), .string ⟨(tt).toArray⟩, .int .i64 (n), .int .i64 (p), .slice a1 ks.len c1])) (by simp [results, Tryz.results127, go_sem, q0, q1, q2, q3, q4]) rfl ?_
        exact PN.five KT D.tk (fun _ e => e) hlt.2
      · have wt34 : rd t3 [101, 110, 100] = false := cls_nrd (c := 4) (by omega) (by decide) (by decide)
        rw [if_neg (show ¬ hc (t3 :: l4) = 4 from h4)]
        go_enter Tryz.func127, Tryz.ntmps127
        go_wp2_with (first | (go_at_call 125; refine (expect_t b m T l1 t _ _ D.tk.ps (by assumption)).mono ?_; rintro e w1 ⟨rfl, hT1⟩; have D := D.took hT1; have r1 := D.res.lt) | (go_at_call 48; refine (CE _ D.tk.ps (by simp)).mono ?_; rintro e w2 ⟨k, tt, n, p, a1, c1, ks, rfl, rfl, hTN, hTk⟩; have D := (D.took hTk).alloc (.cells #[.int .i64 (k), .string ⟨(tt).toArray⟩, .int .i64 (n), .int .i64 (p), .slice a1 ks.len c1] 42); have KT := (hTN.mono (Q := fun g => W.heap.size < g) (fun g hg _ => by omega)).alloc (.cells #[.int .i64 (k), .string ⟨(tt).toArray⟩, .int .i64 (n), .int .i64 (p), .slice a1 ks.len c1] 42); have B := Bx.new w2 42 #[.int .i64 k, .string ⟨tt.toArray⟩, .int .i64 n, .int .i64 p, .slice a1 ks.len c1]; have s2 : w2.heap.size ≠ b := (by have := hTk.ps.lt; omega)) | (go_at_call 125; refine (expect_f b m T l4 t3 _ _ D.tk.ps (by assumption)).mono ?_; rintro e w3 ⟨he, hb3⟩; unfold refp at he; subst he))
        exact ⟨rfl, rfl, D.tk.ky.trans (.of_below hb3)⟩
  · have wt7 : rd t [100, 111] = false := cls_nrd (c := 7) (by omega) (by decide) (by decide)
    rw [if_neg (show ¬ hc (t :: l1) = 7 from h7)]
    go_enter Tryz.func127, Tryz.ntmps127
    go_wp2_with (go_at_call 125; refine (expect_f b m T l1 t _ _ D.tk.ps (by assumption)).mono ?_; rintro e w1 ⟨he, hb1⟩; unfold refp at he; subst he)
    exact ⟨rfl, rfl, D.tk.ky.trans (.of_below hb1)⟩
set_option maxRecDepth 20000 in
set_option maxHeartbeats 8000000 in
theorem branch_any (N : Nat) (H : CC N) (b m : Nat) (T l : List Tok) (W : World) (P : Nat → Prop) (a : Option Addr) (c : Nat) (f : F) (h : Row b m T l W P a c f) (hr : brP (pr N) f l ≠ .out) : Calls Tryz.prog 150 #[.pointer (some ⟨b, 0, none⟩), .slice a f.len c] W (PL b m T W P (.slice a f.len c) (brP (pr N) f l)) := by
  unfold brP at hr ⊢
  have CE := fun W h => H.ex 0 b m T l W h
  cases he : pr N (.ex 0) l with
  | out => rw [he] at hr; exact absurd rfl hr
  | bad p =>
    rw [he] at CE
    simp only [PR.bind]
    go_enter Tryz.func150, Tryz.ntmps150
    go_wp2_with (go_at_call 149; refine (CE _ h.ps (by simp)).mono ?_; rintro e w1 ⟨he, hk⟩; unfold refp at he; subst he)
    exact ⟨rfl, rfl, hk.mono fun _ _ e => .inl e⟩
  | ok g l1 =>
    have hlen := pr_len he
    obtain ⟨t3, l4, rfl⟩ := (pr_ends he h.ps.ends).cons
    rw [he] at CE hr
    simp only [PR.bind, need] at hr ⊢
    by_cases h13 : cls t3 = 13
    · have wt313 : rd t3 [116, 104, 101, 110] = true := cls_rd (c := 13) (by omega) (by decide) (by decide)
      rw [if_pos (show hc (t3 :: l4) = 13 from h13)] at hr ⊢
      have CB := fun W h => H.blk false b m T l4 W h
      change ((pr N (.blk false) l4).bind _) ≠ _ at hr
      change Calls _ _ _ _ (PL b m T W P (.slice a f.len c) ((pr N (.blk false) l4).bind _))
      cases he2 : pr N (.blk false) l4 with
      | out => rw [he2] at hr; exact absurd rfl hr
      | bad p =>
        rw [he2] at CB
        go_enter Tryz.func150, Tryz.ntmps150
        go_wp2_with (first | (go_at_call 149; refine (CE _ h.ps (by simp)).mono ?_; rintro e w1 ⟨k, tt, n, p, a1, c1, ks, rfl, rfl, hTN, hTk⟩) | (at_builtin; refine app_row rfl _ _ rfl h hTN hTk (by simp only [st] at hlen; omega) rfl rfl ?_; intro gg cc w2 hrow hky hat; have hOB := (OB.refl W a f.len c).app (Nat.le_refl _) hat) | (go_at_call 125; refine (expect_t b m T l4 t3 _ _ hrow.ps (by assumption)).mono ?_; rintro e w3 ⟨rfl, hT3⟩; have hfew := hrow.few; have hrow := hrow.took hT3; have hky := hky.onto hT3.ky (fun _ _ e => .inl e)) | (go_at_call 48; refine (CB _ hrow.ps (by simp)).mono ?_; rintro e w4 ⟨he, hk4⟩; unfold refp at he; subst he))
        exact ⟨rfl, rfl, hky.onto hk4 fun _ _ e => .inl e⟩
      | ok g2 l5 =>
        have hlen2 := pr_len he2
        rw [he2] at CB
        simp only [PR.bind]
        go_enter Tryz.func150, Tryz.ntmps150
        go_wp2_with (first | (go_at_call 149; refine (CE _ h.ps (by simp)).mono ?_; rintro e w1 ⟨k, tt, n, p, a1, c1, ks, rfl, rfl, hTN, hTk⟩) | (at_builtin; refine app_row rfl _ _ rfl h hTN hTk (by simp only [st] at hlen; omega) rfl rfl ?_; intro gg cc w2 hrow hky hat; have hOB := (OB.refl W a f.len c).app (Nat.le_refl _) hat) | (go_at_call 125; refine (expect_t b m T l4 t3 _ _ hrow.ps (by assumption)).mono ?_; rintro e w3 ⟨rfl, hT3⟩; have hfew := hrow.few; have hrow := hrow.took hT3; have hky := hky.onto hT3.ky (fun _ _ e => .inl e)) | (go_at_call 48; refine (CB _ hrow.ps (by simp)).mono ?_; rintro e w4 ⟨k', tt', n', p', a1', c1', ks', rfl, rfl, hTN', hTk'⟩) | (at_builtin; refine app_row2 rfl _ _ rfl hrow hTN' hTk' (by simp only [st, List.length_cons] at hlen2 hfew; omega) rfl rfl ?_; intro gg cc w5 hrow2 hky2 hat2))
        go_ret
        exact ⟨_, _, rfl, hrow2.kl, hrow2.ps, hOB.ky hky hky2⟩
    · have wt313 : rd t3 [116, 104, 101, 110] = false := cls_nrd (c := 13) (by omega) (by decide) (by decide)
      rw [if_neg (show ¬ hc (t3 :: l4) = 13 from h13)]
      go_enter Tryz.func150, Tryz.ntmps150
      go_wp2_with (first | (go_at_call 149; refine (CE _ h.ps (by simp)).mono ?_; rintro e w1 ⟨k, tt, n, p, a1, c1, ks, rfl, rfl, hTN, hTk⟩) | (at_builtin; refine app_row rfl _ _ rfl h hTN hTk (by simp only [st] at hlen; omega) rfl rfl ?_; intro gg cc w2 hrow hky hat; have hOB := (OB.refl W a f.len c).app (Nat.le_refl _) hat) | (go_at_call 125; refine (expect_f b m T l4 t3 _ _ hrow.ps (by assumption)).mono ?_; rintro e w3 ⟨he, hb3⟩; unfold refp at he; subst he))
      exact ⟨rfl, rfl, hky.trans (.of_below hb3)⟩
end Go.Proofs.YtmejlldabdjpjaaGreat

/- How many trees a going through tells. -/
namespace Go.Proofs.YtmejlldabdjpjaaGreat
/-- Of a job with a row: it grows by no more than tokens are taken; of one with a tree: one tree. -/
def Sz (j : J) (l : List Tok) (f : F) (l' : List Tok) : Prop :=
  match j with
  | .lst a => f.len + l'.length ≤ a.len + l.length
  | .nms a => f.len + l'.length ≤ a.len + l.length
  | .ifs a => f.len + l'.length ≤ a.len + l.length
  | .asg a => f.len + l'.length ≤ a.len + l.length
  | .bk _ a => f.len + l'.length ≤ a.len + l.length
  | .tab a => f.len + l'.length ≤ a.len + l.length
  | .exl _ g => g.len = 1 → f.len = 1
  | .sufl g => g.len = 1 → f.len = 1
  | _ => f.len = 1
theorem bind_ok {x : PR} {k : F → List Tok → PR} {f : F} {l : List Tok} (h : x.bind k = .ok f l) : ∃ g m, x = .ok g m ∧ k g m = .ok f l := by
  cases x with
  | ok g m => exact ⟨g, m, rfl, h⟩
  | bad p => cases h
  | out => cases h
theorem need_ok {c : Nat} {l : List Tok} {k : List Tok → PR} {f : F} {m : List Tok} (h : need c l k = .ok f m) : hc l = c ∧ k l.tail = .ok f m := by
  unfold need at h
  split at h
  · next e => exact ⟨e, h⟩
  · cases h
theorem nam_ok {q : Int} {l : List Tok} {k : F → List Tok → PR} {f : F} {m : List Tok} (h : nam q l k = .ok f m) : hc l = 51 ∧ k (one q (ht l) 0 (ha l) .nil) l.tail = .ok f m := by
  unfold nam at h
  split at h
  · next e => exact ⟨e, h⟩
  · cases h
theorem ok_inj {f g : F} {l m : List Tok} (h : PR.ok f l = .ok g m) : f = g ∧ l = m := by cases h; exact ⟨rfl, rfl⟩
theorem one_len (k : Int) (t : List UInt8) (n p : Int) (ks : F) : (one k t n p ks).len = 1 := rfl
section
variable {rec : J → List Tok → PR} (ih : ∀ j l f l', rec j l = .ok f l' → Sz j l f l') (il : ∀ j l f l', rec j l = .ok f l' → l'.length + st j ≤ l.length)
include ih il
theorem sz_body {l m : List Tok} {k : F → List Tok → PR} {f : F} (h : bodyP rec l k = .ok f m) : ∃ b l1, b.len = 1 ∧ l1.length + 2 ≤ l.length ∧ k b l1 = .ok f m := by
  obtain ⟨h1, h⟩ := need_ok h
  obtain ⟨b, l1, h2, h⟩ := bind_ok h
  obtain ⟨h3, h⟩ := need_ok h
  have e1 := tail_len (l := l) (by rw [h1]; decide)
  have e2 := tail_len (l := l1) (by rw [h3]; decide)
  have e3 := il _ _ _ _ h2
  exact ⟨b, l1.tail, ih _ _ _ _ h2, by omega, h⟩
theorem sz_br {a f : F} {l m : List Tok} (h : brP rec a l = .ok f m) : f.len = a.len + 2 ∧ m.length + 2 ≤ l.length := by
  obtain ⟨e, l1, h1, h⟩ := bind_ok h
  obtain ⟨h2, h⟩ := need_ok h
  obtain ⟨b, l2, h3, h⟩ := bind_ok h
  obtain ⟨rfl, rfl⟩ := ok_inj h
  have e1 : e.len = 1 := ih _ _ _ _ h1
  have e2 : b.len = 1 := ih _ _ _ _ h3
  have e3 := il _ _ _ _ h1
  have e4 := il _ _ _ _ h3
  have e5 := tail_len (l := l1) (by rw [h2]; decide)
  simp only [st] at e3 e4
  exact ⟨by rw [F.len_app, F.len_app, e1, e2], by omega⟩
theorem sz_step (j : J) (l : List Tok) (f : F) (l' : List Tok) (h : stp' rec j l = .ok f l') : Sz j l f l' := by
  cases j with
  | blk c =>
    obtain ⟨g, m, _, h⟩ := bind_ok h
    obtain ⟨rfl, _⟩ := ok_inj h
    rfl
  | bk c a =>
    simp only [Sz]
    simp only [stp'] at h
    split at h
    · have := ih _ _ _ _ h
      simp only [Sz] at this
      simp at this; omega
    · next hn =>
      split at h
      · next h2 =>
        obtain ⟨g, m, h1, h⟩ := bind_ok h
        obtain ⟨rfl, rfl⟩ := ok_inj h
        have e1 := tail_len (l := l) (by rw [h2]; decide)
        unfold lastP at h1
        rw [F.len_app]
        split at h1
        · obtain ⟨rfl, rfl⟩ := ok_inj h1; simp [one_len]; omega
        · split at h1
          · obtain ⟨rfl, rfl⟩ := ok_inj h1; rw [one_len]; omega
          · obtain ⟨g2, m2, h3, h1⟩ := bind_ok h1
            obtain ⟨rfl, rfl⟩ := ok_inj h1
            have := il _ _ _ _ h3
            rw [one_len]
            simp only [st] at this
            split <;> simp <;> omega
      · split at h
        · next h2 =>
          obtain ⟨g, m, h1, h⟩ := bind_ok h
          have := ih _ _ _ _ h
          simp only [Sz] at this
          rw [F.len_app] at this
          have e1 := tail_len (l := l) (by rw [h2.2]; decide)
          unfold funP at h1
          obtain ⟨k1, h1⟩ := nam_ok h1
          obtain ⟨k2, h1⟩ := need_ok h1
          obtain ⟨ps, l1, k3, h1⟩ := bind_ok h1
          obtain ⟨k4, h1⟩ := need_ok h1
          obtain ⟨b, l2, k5, h1⟩ := bind_ok h1
          obtain ⟨k6, h1⟩ := need_ok h1
          obtain ⟨rfl, rfl⟩ := ok_inj h1
          have e2 := tail_len (l := l.tail) (by rw [k1]; decide)
          have e3 := tail_len (l := l.tail.tail) (by rw [k2]; decide)
          have e4 := tail_len (l := l1) (by rw [k4]; decide)
          have e5 := il _ _ _ _ k5
          have e6 := tail_len (l := l2) (by rw [k6]; decide)
          have e7 : l1.length ≤ l.tail.tail.tail.length := by
            unfold parP at k3
            split at k3
            · obtain ⟨rfl, rfl⟩ := ok_inj k3; exact Nat.le_refl _
            · obtain ⟨k7, k3⟩ := nam_ok k3
              have := il _ _ _ _ k3
              simp at this ⊢; omega
          rw [one_len] at this
          omega
        · split at h
          · obtain ⟨rfl, rfl⟩ := ok_inj h; exact Nat.le_refl _
          · obtain ⟨g, m, h1, h⟩ := bind_ok h
            have := ih _ _ _ _ h
            simp only [Sz] at this
            have e1 : g.len = 1 := ih _ _ _ _ h1
            have e2 := il _ _ _ _ h1
            rw [F.len_app] at this
            simp only [st] at e2
            omega
  | lst a =>
    simp only [Sz]
    obtain ⟨g, m, h1, h⟩ := bind_ok h
    have e1 : g.len = 1 := ih _ _ _ _ h1
    have e2 := il _ _ _ _ h1
    simp only [st] at e2
    split at h
    · have := ih _ _ _ _ h
      simp only [Sz] at this
      rw [F.len_app] at this
      simp at this; omega
    · obtain ⟨rfl, rfl⟩ := ok_inj h
      rw [F.len_app]; omega
  | nms a =>
    simp only [Sz]
    simp only [stp'] at h
    split at h
    · next h2 =>
      obtain ⟨k1, h⟩ := nam_ok h
      have := ih _ _ _ _ h
      simp only [Sz] at this
      rw [F.len_app, one_len] at this
      have e1 := tail_len (l := l) (by rw [h2]; decide)
      have e2 := tail_len (l := l.tail) (by rw [k1]; decide)
      omega
    · obtain ⟨rfl, rfl⟩ := ok_inj h; exact Nat.le_refl _
  | ifs a =>
    simp only [Sz]
    obtain ⟨g, m, h1, h⟩ := bind_ok h
    obtain ⟨e1, e2⟩ := sz_br ih il h1
    split at h
    · have := ih _ _ _ _ h
      simp only [Sz] at this
      simp at this; omega
    · split at h
      · next h2 =>
        obtain ⟨b, m2, h3, h⟩ := bind_ok h
        obtain ⟨k1, h⟩ := need_ok h
        obtain ⟨rfl, rfl⟩ := ok_inj h
        have e3 : b.len = 1 := ih _ _ _ _ h3
        have e4 := il _ _ _ _ h3
        have e5 := tail_len (l := m) (by rw [h2]; decide)
        rw [F.len_app]
        simp; omega
      · obtain ⟨k1, h⟩ := need_ok h
        obtain ⟨rfl, rfl⟩ := ok_inj h
        simp; omega
  | asg a =>
    simp only [Sz]
    simp only [stp', tgt] at h
    split at h
    · next h2 =>
      obtain ⟨g, m, h1, h⟩ := bind_ok h
      split at h
      · have := ih _ _ _ _ h
        simp only [Sz] at this
        have e1 : g.len = 1 := ih _ _ _ _ h1
        have e2 := il _ _ _ _ h1
        rw [F.len_app] at this
        have e3 := tail_len (l := l) (by rw [h2]; decide)
        simp only [st] at e2; omega
      · cases h
    · obtain ⟨rfl, rfl⟩ := ok_inj h; exact Nat.le_refl _
  | ex a =>
    obtain ⟨g, m, h1, h⟩ := bind_ok h
    exact ih _ _ _ _ h (ih _ _ _ _ h1)
  | exl a g =>
    intro hg
    simp only [stp'] at h
    split at h
    · obtain ⟨g2, m, h1, h⟩ := bind_ok h
      exact ih _ _ _ _ h rfl
    · obtain ⟨rfl, _⟩ := ok_inj h; exact hg
  | opd =>
    simp only [stp', tabP] at h
    split at h
    · have : Sz .suf l f l' := ih _ _ _ _ h
      exact this
    · split at h
      · obtain ⟨g, m, _, h⟩ := bind_ok h
        obtain ⟨_, h⟩ := need_ok h
        obtain ⟨rfl, _⟩ := ok_inj h; rfl
      · split at h
        · obtain ⟨g, m, _, h⟩ := bind_ok h
          obtain ⟨rfl, _⟩ := ok_inj h; rfl
        · split at h
          · obtain ⟨rfl, _⟩ := ok_inj h; rfl
          · split at h
            · obtain ⟨rfl, _⟩ := ok_inj h; rfl
            · split at h
              · obtain ⟨rfl, _⟩ := ok_inj h; rfl
              · split at h
                · obtain ⟨rfl, _⟩ := ok_inj h; rfl
                · split at h
                  · obtain ⟨rfl, _⟩ := ok_inj h; rfl
                  · cases h
  | suf =>
    obtain ⟨g, m, h1, h⟩ := bind_ok h
    refine ih _ _ _ _ h ?_
    unfold stemP at h1
    split at h1
    · obtain ⟨g2, m2, _, h1⟩ := bind_ok h1
      obtain ⟨_, h1⟩ := need_ok h1
      obtain ⟨rfl, _⟩ := ok_inj h1; rfl
    · obtain ⟨_, h1⟩ := nam_ok h1
      obtain ⟨rfl, _⟩ := ok_inj h1; rfl
  | sufl g =>
    intro hg
    simp only [stp'] at h
    split at h
    · obtain ⟨g2, m, _, h⟩ := bind_ok h
      obtain ⟨_, h⟩ := need_ok h
      exact ih _ _ _ _ h rfl
    · split at h
      · obtain ⟨_, h⟩ := nam_ok h
        exact ih _ _ _ _ h rfl
      · split at h
        · obtain ⟨g2, m, _, h⟩ := bind_ok h
          exact ih _ _ _ _ h rfl
        · obtain ⟨rfl, _⟩ := ok_inj h; exact hg
  | tab a =>
    simp only [Sz]
    simp only [stp'] at h
    split at h
    · obtain ⟨rfl, rfl⟩ := ok_inj h; exact Nat.le_refl _
    · obtain ⟨g, m, h1, h⟩ := bind_ok h
      have e1 : g.len = 1 := ih _ _ _ _ h1
      have e2 := il _ _ _ _ h1
      simp only [st] at e2
      split at h
      · have := ih _ _ _ _ h
        simp only [Sz] at this
        rw [F.len_app] at this
        simp at this; omega
      · obtain ⟨rfl, rfl⟩ := ok_inj h
        rw [F.len_app]; omega
  | fld =>
    simp only [stp'] at h
    split at h
    · obtain ⟨g2, m, _, h⟩ := bind_ok h
      obtain ⟨_, h⟩ := need_ok h
      obtain ⟨_, h⟩ := need_ok h
      obtain ⟨g3, m3, _, h⟩ := bind_ok h
      obtain ⟨rfl, _⟩ := ok_inj h; rfl
    · split at h
      · obtain ⟨g3, m3, _, h⟩ := bind_ok h
        obtain ⟨rfl, _⟩ := ok_inj h; rfl
      · obtain ⟨g3, m3, _, h⟩ := bind_ok h
        obtain ⟨rfl, _⟩ := ok_inj h; rfl
  | stat =>
    simp only [stp'] at h
    split at h
    · obtain ⟨b, l1, _, _, h⟩ := sz_body ih il h
      obtain ⟨rfl, _⟩ := ok_inj h; rfl
    · split at h
      · obtain ⟨g, m, _, h⟩ := bind_ok h
        obtain ⟨b, l1, _, _, h⟩ := sz_body ih il h
        obtain ⟨rfl, _⟩ := ok_inj h; rfl
      · split at h
        · obtain ⟨g, m, _, h⟩ := bind_ok h
          obtain ⟨rfl, _⟩ := ok_inj h; rfl
        · split at h
          · obtain ⟨_, h⟩ := nam_ok h
            split at h
            · obtain ⟨e1, m1, _, h⟩ := bind_ok h
              obtain ⟨_, h⟩ := need_ok h
              obtain ⟨e2, m2, _, h⟩ := bind_ok h
              split at h
              · obtain ⟨e3, m3, _, h⟩ := bind_ok h
                obtain ⟨b, l1, _, _, h⟩ := sz_body ih il h
                obtain ⟨rfl, _⟩ := ok_inj h; rfl
              · obtain ⟨b, l1, _, _, h⟩ := sz_body ih il h
                obtain ⟨rfl, _⟩ := ok_inj h; rfl
            · obtain ⟨e1, m1, _, h⟩ := bind_ok h
              obtain ⟨_, h⟩ := need_ok h
              obtain ⟨e2, m2, _, h⟩ := bind_ok h
              obtain ⟨b, l1, _, _, h⟩ := sz_body ih il h
              obtain ⟨rfl, _⟩ := ok_inj h; rfl
          · split at h
            · obtain ⟨_, h⟩ := nam_ok h
              obtain ⟨e1, m1, _, h⟩ := bind_ok h
              split at h
              · obtain ⟨e2, m2, _, h⟩ := bind_ok h
                obtain ⟨rfl, _⟩ := ok_inj h; rfl
              · obtain ⟨rfl, _⟩ := ok_inj h; rfl
            · split at h
              · obtain ⟨rfl, _⟩ := ok_inj h; rfl
              · obtain ⟨e1, m1, _, h⟩ := bind_ok h
                split at h
                · unfold tgt at h
                  split at h
                  · obtain ⟨e2, m2, _, h⟩ := bind_ok h
                    obtain ⟨_, h⟩ := need_ok h
                    obtain ⟨e3, m3, _, h⟩ := bind_ok h
                    obtain ⟨rfl, _⟩ := ok_inj h; rfl
                  · cases h
                · split at h
                  · obtain ⟨rfl, _⟩ := ok_inj h; rfl
                  · cases h
end
theorem sz_all : ∀ (n : Nat) (j : J) (l : List Tok) (f : F) (l' : List Tok), pr n j l = .ok f l' → Sz j l f l'
  | 0, _, _, _, _, h => by cases h
  | n + 1, j, l, f, l', h => sz_step (sz_all n) (fun _ _ _ _ => pr_len) j l f l' h
end Go.Proofs.YtmejlldabdjpjaaGreat

/- The walks of while and choice. -/
namespace Go.Proofs.YtmejlldabdjpjaaGreat
open Go.RowKit
/-- A row is stored as the kids: the world behind it, named. -/
theorem Nd.fill {b m : Nat} {T l : List Tok} {W : World} {X : Nat} {k : Int} {t : List UInt8} {n p : Int} {a a' : Option Addr} {c c' : Nat} {f f' : F} {w : World} (h : Nd b m T l W X k t n p a c f w) (hkl : KL 42 (fun g => X < g) w (.slice a' f'.len c') f') (hf : f'.len + l.length ≤ T.length) :
    ∃ wF, w.setCell ⟨X, 4, none⟩ (.slice a' f'.len c') = wF ∧ Nd b m T l W X k t n p a' c' f' wF := by
  have hlt := h.lt
  exact ⟨_, rfl, h.tk.new (by omega) hlt.2.1 _, h.res.set (by omega) _, h.box.put4 _, hkl.set (Nat.lt_irrefl _) _, hf, h.lt⟩
theorem Nd.fillC {b m : Nat} {T l : List Tok} {W : World} {X : Nat} {k : Int} {t : List UInt8} {n p : Int} {a a' : Option Addr} {c c' cnt : Nat} {f f' : F} {w : World} (h : Nd b m T l W X k t n p a c f w) (hc : f'.len = cnt) (hkl : KL 42 (fun g => X < g) w (.slice a' cnt c') f') (hf : cnt + l.length ≤ T.length) :
    ∃ wF, w.setCell ⟨X, 4, none⟩ (.slice a' cnt c') = wF ∧ Nd b m T l W X k t n p a' c' f' wF := by
  subst hc
  exact h.fill hkl hf
theorem PS.len {b m : Nat} {T l : List Tok} {W : World} (h : PS b m T l W) : l.length ≤ T.length := by
  obtain ⟨i, _, _, h7⟩ := h.plc
  omega
theorem body_len {N : Nat} {l l' : List Tok} {f : F} (h : bodyP (pr N) l .ok = .ok f l') : f.len = 1 ∧ l'.length + 2 ≤ l.length := by
  obtain ⟨b, l1, h1, h2, h3⟩ := sz_body (sz_all N) (fun _ _ _ _ => pr_len) h
  obtain ⟨rfl, rfl⟩ := ok_inj h3
  exact ⟨h1, h2⟩
set_option maxRecDepth 20000 in
set_option maxHeartbeats 8000000 in
theorem while_any (N : Nat) (H : CC N) (b m : Nat) (T l : List Tok) (t : Tok) (W : World) (h : PS b m T (t :: l) W) (h56 : cls t ≠ 56) (hr : whileP (pr N) (t :: l) ≠ .out) : Calls Tryz.prog 128 #[.pointer (some ⟨b, 0, none⟩)] W (PN b m T W (whileP (pr N) (t :: l))) := by
  have hlt := h.lt
  have hbW : W.heap.size ≠ b := by omega
  have hT := h.len
  obtain ⟨R, hR⟩ : ∃ R, whileP (pr N) (t :: l) = R := ⟨_, rfl⟩
  rw [hR] at hr ⊢
  unfold whileP at hR
  change (pr N (.ex 0) l).bind _ = R at hR
  have CE := fun W h => H.ex 0 b m T l W h
  cases he : pr N (.ex 0) l with
  | out => rw [he] at hR; exact absurd hR.symm hr
  | bad p2 =>
    rw [he] at hR CE
    simp only [PR.bind] at hR
    subst hR
    go_enter Tryz.func128, Tryz.ntmps128
    go_wp2_with (first | (go_at_call 122; refine (take_p b m T l t _ (h.alloc _) h56).mono ?_; rintro e w1 ⟨rfl, hT1⟩; have D := Nd.begin ((h.tk.alloc _).trans hT1) ((Bx.new W 42 _).ky hT1.ky hbW) (by omega) 25 [] 0 t.p) | (go_at_call 149; refine (CE _ D.tk.ps (by simp)).mono ?_; rintro e w3 ⟨he, hk⟩; unfold refp at he; subst he))
    exact ⟨rfl, rfl, D.tk.ky.trans hk⟩
  | ok g l2 =>
    have hlen := pr_len he
    rw [he] at hR CE
    simp only [PR.bind] at hR
    rw [bodyP_bind] at hR
    have CB := fun W h => body_any N H b m T l2 W h
    have hgl : g.len = 1 := sz_all _ _ _ _ _ he
    simp only [st] at hlen
    cases hb : bodyP (pr N) l2 .ok with
    | out => rw [hb] at hR; exact absurd hR.symm hr
    | bad p2 =>
      rw [hb] at hR CB
      simp only [PR.bind] at hR
      subst hR
      go_enter Tryz.func128, Tryz.ntmps128
      go_wp2_with (first | (go_at_call 122; refine (take_p b m T l t _ (h.alloc _) h56).mono ?_; rintro e w1 ⟨rfl, hT1⟩; have D := Nd.begin ((h.tk.alloc _).trans hT1) ((Bx.new W 42 _).ky hT1.ky hbW) (by omega) 25 [] 0 t.p; have hD := D.box.lt) | (go_at_call 149; refine (CE _ D.tk.ps (by simp)).mono ?_; rintro e w3 ⟨k, tt, n, p, a1, c1, ks, rfl, rfl, hTN, hTk⟩; have D3 := (D.took hTk (by omega)).alloc (.cells #[.int .i64 (k), .string ⟨(tt).toArray⟩, .int .i64 (n), .int .i64 (p), .slice a1 ks.len c1] 42); have C3 := (hTN.mono (Q := fun g => w1.heap.size < g) (fun g hg _ => Nat.lt_of_lt_of_le hD hg)).alloc (.cells #[.int .i64 (k), .string ⟨(tt).toArray⟩, .int .i64 (n), .int .i64 (p), .slice a1 ks.len c1] 42); have Q3 := Bx.new w3 42 #[.int .i64 k, .string ⟨tt.toArray⟩, .int .i64 n, .int .i64 p, .slice a1 ks.len c1]; have s3 : w3.heap.size ≠ b := (by have := hTk.ps.lt; omega)))
      have D1 := D3.drew
      have Q1 := Q3.drew
      have hDl := D1.lt
      obtain ⟨p0, p1, p2', p3, p4⟩ := Q1.five
      go_region_dies
      all_goals
        refine (CB _ D1.tk.ps (by simp)).mono ?_
        rintro e w5 ⟨he, hk⟩
        unfold refp at he
        subst he
        exact ⟨rfl, rfl, D1.tk.ky.trans hk⟩
    | ok g3 l3 =>
      obtain ⟨hl3, hl3'⟩ := body_len hb
      rw [hb] at hR CB
      simp only [PR.bind] at hR
      subst hR
      go_enter Tryz.func128, Tryz.ntmps128
      go_wp2_with (first | (go_at_call 122; refine (take_p b m T l t _ (h.alloc _) h56).mono ?_; rintro e w1 ⟨rfl, hT1⟩; have D := Nd.begin ((h.tk.alloc _).trans hT1) ((Bx.new W 42 _).ky hT1.ky hbW) (by omega) 25 [] 0 t.p; have hD := D.box.lt) | (go_at_call 149; refine (CE _ D.tk.ps (by simp)).mono ?_; rintro e w3 ⟨k, tt, n, p, a1, c1, ks, rfl, rfl, hTN, hTk⟩; have D3 := (D.took hTk (by omega)).alloc (.cells #[.int .i64 (k), .string ⟨(tt).toArray⟩, .int .i64 (n), .int .i64 (p), .slice a1 ks.len c1] 42); have C3 := (hTN.mono (Q := fun g => w1.heap.size < g) (fun g hg _ => Nat.lt_of_lt_of_le hD hg)).alloc (.cells #[.int .i64 (k), .string ⟨(tt).toArray⟩, .int .i64 (n), .int .i64 (p), .slice a1 ks.len c1] 42); have Q3 := Bx.new w3 42 #[.int .i64 k, .string ⟨tt.toArray⟩, .int .i64 n, .int .i64 p, .slice a1 ks.len c1]; have s3 : w3.heap.size ≠ b := (by have := hTk.ps.lt; omega)))
      have D1 := D3.drew
      have Q1 := Q3.drew
      have hDl := D1.lt
      obtain ⟨p0, p1, p2', p3, p4⟩ := Q1.five
      have C1 := C3.keep (w' := (w3.alloc (.cells #[.int .i64 (k), .string ⟨(tt).toArray⟩, .int .i64 (n), .int .i64 (p), .slice a1 ks.len c1] 42)).drew) fun _ _ _ => rfl
      have hX1 : w1.heap.size < (w3.alloc (.cells #[.int .i64 (k), .string ⟨(tt).toArray⟩, .int .i64 (n), .int .i64 (p), .slice a1 ks.len c1] 42)).heap.size := D1.box.lt
      go_region_with (go_at_call 127; refine (CB _ D1.tk.ps (by simp)).mono ?_; rintro e w5 ⟨k2, tt2, n2, p2, a2, c2, ks2, rfl, rfl, hTN2, hTk2⟩; have D5 := D1.took hTk2 (by omega); have K5 := Q1.ky hTk2.ky s3; have C5 := C1.ky hTk2.ky (by omega); obtain ⟨s0, s1, s2, s3', s4⟩ := K5.five; obtain ⟨-, -, -, -, v4⟩ := D5.box.fiveA; obtain ⟨-, -, -, -, g4⟩ := D5.box.frozen5A; have hx5 := D5.box.lt; have R5 := C5.row2 (Q := fun g => w1.heap.size < g) hTN2 (fun _ e _ => e) (fun g hg _ => Nat.lt_of_lt_of_le hX1 hg) hx5; obtain ⟨wF, hwF, DF⟩ := (D5.alloc _).fillC (f' := (one k tt n p ks).app (one k2 tt2 n2 p2 ks2)) (cnt := 2) rfl R5 (by simp only [List.length_cons] at hT; omega); obtain ⟨b0, b1, b2, b3, -⟩ := DF.box.five; have b4 : wF.cell? ⟨w1.heap.size, 4, none⟩ = some (.slice (some ⟨w5.heap.size, 0, none⟩) 2 2) := DF.box.c 4 _ rfl; obtain ⟨q0, q1, q2, q3, q4⟩ := DF.res.five; obtain ⟨f0, f1, f2, f3, f4⟩ := DF.res.frozen5)
      all_goals
        go_wp2
        refine bodyPost_ret (v := (.agg #[.int .i64 (25), .string ⟨#[]⟩, .int .i64 (0), .int .i64 (t.p), .slice (some ⟨w5.heap.size, 0, none⟩) 2 2])) (by simp [results, Tryz.results128, go_sem, q0, q1, q2, q3, q4]) rfl ?_
        exact DF.ret _ _ _ _ _
end Go.Proofs.YtmejlldabdjpjaaGreat
