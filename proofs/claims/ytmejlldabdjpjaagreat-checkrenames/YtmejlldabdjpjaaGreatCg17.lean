/- All contracts, out of assignOrRun's. -/
import Derived.Test.YtmejlldabdjpjaaGreatCg14
import Derived.Test.YtmejlldabdjpjaaGreatCg15
import Derived.Test.YtmejlldabdjpjaaGreatCg16
namespace Go.Proofs.YtmejlldabdjpjaaGreat
open Go.RowKit
theorem cc_zero : CC 0 := ⟨fun _ _ _ _ _ _ _ h => absurd rfl h, fun _ _ _ _ _ _ h => absurd rfl h, fun _ _ _ _ _ _ _ h => absurd rfl h, fun _ _ _ _ _ _ h => absurd rfl h, fun _ _ _ _ _ _ h => absurd rfl h, fun _ _ _ _ _ _ h => absurd rfl h, fun _ _ _ _ _ _ _ _ _ _ h => absurd rfl h, fun _ _ _ _ _ _ _ _ _ _ h => absurd rfl h⟩
/-- The next number of steps. -/
theorem cc_succ (N : Nat) (H : ∀ n, n ≤ N → CC n) (A : HA N) : CC (N + 1) :=
  ⟨fun c b m T l W h hr => block_any N H c b m T l W h hr, fun b m T l W h hr => statement_any N H A b m T l W h hr, fun a b m T l W h hr => expr_any N H a b m T l W h hr, fun b m T l W h hr => operand_any N H b m T l W h hr, fun b m T l W h hr => suf_any N H b m T l W h hr, fun b m T l W h hr => field_any N H b m T l W h hr, fun b m T l W P a c f h hr => list_any N H b m T l W P a c f h hr, fun b m T l W P a c f h hr => names_p (N + 1) b m T l W P a c f h hr⟩
theorem cc_le (A : ∀ N, (∀ n, n ≤ N → CC n) → HA N) : ∀ N n, n ≤ N → CC n
  | 0, n, h => by
    obtain rfl : n = 0 := by omega
    exact cc_zero
  | N + 1, n, h => by
    by_cases he : n = N + 1
    · subst he
      exact cc_succ N (cc_le A N) (A N (cc_le A N))
    · exact cc_le A N n (by omega)
theorem cc_all (A : ∀ N, (∀ n, n ≤ N → CC n) → HA N) (n : Nat) : CC n := cc_le A n n (Nat.le_refl _)
end Go.Proofs.YtmejlldabdjpjaaGreat

/- The walk of chunk. -/
namespace Go.Proofs.YtmejlldabdjpjaaGreat
open Go.RowKit
set_option maxRecDepth 20000 in
set_option maxHeartbeats 8000000 in
theorem chunk_any (C : ∀ n, CC n) (b m : Nat) (T l : List Tok) (W : World) (h : PS b m T l W) : Calls Tryz.prog 32 #[.pointer (some ⟨b, 0, none⟩)] W (PN b m T W (chk l)) := by
  have hlt := h.lt
  have D := h.rs
  have hr := pr_enough (8 * l.length + 4) (.blk true) l (by simp only [rk]; omega)
  have CE := fun W h => (C (8 * l.length + 4)).blk true b m T l W h
  unfold chk
  cases he : pr (8 * l.length + 4) (.blk true) l with
  | out => exact absurd he hr
  | bad p =>
    rw [he] at CE
    simp only [PR.bind]
    go_enter Tryz.func32, Tryz.ntmps32
    go_wp2_with (go_at_call 48; refine (CE _ D.tk.ps (by simp)).mono ?_; rintro e w1 ⟨he, hk⟩; unfold refp at he; subst he)
    exact ⟨rfl, rfl, D.tk.ky.trans hk⟩
  | ok g l1 =>
    obtain ⟨t2, l2, rfl⟩ := (pr_ends he h.ends).cons
    rw [he] at CE
    simp only [PR.bind]
    by_cases h56 : cls t2 = 56
    · rw [if_pos (show hc (t2 :: l2) = 56 from h56)]
      have KB : (t2.k != 6) = false := by have := cls_kind t2 56 h56 (by omega); rw [this]; rfl
      go_enter Tryz.func32, Tryz.ntmps32
      go_wp2_with (first | (go_at_call 48; refine (CE _ D.tk.ps (by simp)).mono ?_; rintro e w1 ⟨k, tt, n, p, a1, c1, ks, rfl, rfl, hTN, hTk⟩; have hz := D.res.lt; have D := (D.took hTk).alloc (.cells #[.int .i64 (k), .string ⟨(tt).toArray⟩, .int .i64 (n), .int .i64 (p), .slice a1 ks.len c1] 42); have KT := (hTN.mono (Q := fun g => W.heap.size < g) (fun g hg _ => by omega)).alloc (.cells #[.int .i64 (k), .string ⟨(tt).toArray⟩, .int .i64 (n), .int .i64 (p), .slice a1 ks.len c1] 42); have B := Bx.new w1 42 #[.int .i64 k, .string ⟨tt.toArray⟩, .int .i64 n, .int .i64 p, .slice a1 ks.len c1]) | (go_at_call 49; refine (token_any b m T l2 t2 _ D.tk.ps).mono ?_; rintro e w2 ⟨rfl, hb2⟩; have D := D.below hb2; have KT := KT.below hb2; have B := B.below hb2; obtain ⟨q0, q1, q2, q3, q4⟩ := D.res.five; obtain ⟨f0, f1, f2, f3, f4⟩ := D.res.frozen5; obtain ⟨p0, p1, p2, p3, p4⟩ := B.five))
      refine bodyPost_ret (v := (.agg #[.int .i64 (k), .string ⟨(tt).toArray⟩, .int .i64 (n), .int .i64 (p), .slice a1 ks.len c1])) (by simp [results, Tryz.results32, go_sem, q0, q1, q2, q3, q4]) rfl ?_
      exact PN.five KT D.tk (fun _ e => e) hlt.2
    · rw [if_neg (show ¬ hc (t2 :: l2) = 56 from h56)]
      have KB : (t2.k != 6) = true := by
        cases hk : t2.k != 6
        · exact absurd (cls_of_kind t2 6 (by simpa using hk) (by simp)) h56
        · rfl
      go_enter Tryz.func32, Tryz.ntmps32
      go_wp2_with (first | (go_at_call 48; refine (CE _ D.tk.ps (by simp)).mono ?_; rintro e w1 ⟨k, tt, n, p, a1, c1, ks, rfl, rfl, hTN, hTk⟩; have D := (D.took hTk).alloc (.cells #[.int .i64 (k), .string ⟨(tt).toArray⟩, .int .i64 (n), .int .i64 (p), .slice a1 ks.len c1] 42)) | (go_at_call 49; refine (token_any b m T l2 t2 _ D.tk.ps).mono ?_; rintro e w2 ⟨rfl, hb2⟩; have D := D.below hb2) | (go_at_call 51; refine (at_any b m T l2 t2 _ D.tk.ps).mono ?_; rintro e w3 ⟨rfl, hb3⟩; have D := D.below hb3) | (go_at_call 50; refine (refuse_p _ _).mono ?_; rintro e w4 ⟨he, hb4⟩; unfold refp at he; subst he))
      exact ⟨rfl, rfl, D.tk.ky.trans (.of_below hb4)⟩
end Go.Proofs.YtmejlldabdjpjaaGreat
