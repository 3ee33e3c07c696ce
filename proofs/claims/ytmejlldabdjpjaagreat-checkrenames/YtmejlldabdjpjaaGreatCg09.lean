/- The walk of local. -/
import Derived.Test.YtmejlldabdjpjaaGreatCg08
namespace Go.Proofs.YtmejlldabdjpjaaGreat
open Go.RowKit
set_option maxRecDepth 20000 in
set_option maxHeartbeats 8000000 in
theorem local_any (N : Nat) (H : CC N) (b m : Nat) (T l : List Tok) (t : Tok) (W : World) (h : PS b m T (t :: l) W) (h56 : cls t ≠ 56) (hr : locP (pr N) (t :: l) ≠ .out) : Calls Tryz.prog 131 #[.pointer (some ⟨b, 0, none⟩)] W (PN b m T W (locP (pr N) (t :: l))) := by
  have hlt := h.lt
  have hbW : W.heap.size ≠ b := by omega
  have hT := h.len
  obtain ⟨t2, l2, rfl⟩ := tail_cons h.ends h56
  unfold locP nam at hr ⊢
  simp only [List.tail_cons, show ha (t :: t2 :: l2) = t.p from rfl, show ht (t2 :: l2) = t2.t from rfl, show ha (t2 :: l2) = t2.p from rfl] at hr ⊢
  by_cases h51 : cls t2 = 51
  · rw [if_pos (show hc (t2 :: l2) = 51 from h51)] at hr ⊢
    cases he : pr N (.nms (one 6 t2.t 0 t2.p .nil)) l2 with
    | out => rw [he] at hr; exact absurd rfl hr
    | bad p2 =>
      simp only [PR.bind]
      go_enter Tryz.func131, Tryz.ntmps131
      go_wp2_with (first | (go_at_call 122; refine (take_p b m T (t2 :: l2) t _ (h.alloc _) h56).mono ?_; rintro e w1 ⟨rfl, hT1⟩; have D := Nd.begin ((h.tk.alloc _).trans hT1) ((Bx.new W 42 _).ky hT1.ky hbW) (by omega) 21 [] 0 t.p) | (go_at_call 124; refine (name_yes b m T l2 t2 _ D.tk.ps h51).mono ?_; rintro e w2 ⟨rfl, hT2⟩; have D := D.took hT2 (by simp); have hy := D.box.lt; have RW := D.name1 t2.t t2.p (by simp only [List.length_cons] at hT; omega)) | (go_at_call 126; have YtmejlldabdjpjaaGreat := names_p N b m T l2 _ _ _ _ _ RW; rw [he] at YtmejlldabdjpjaaGreat; refine (YtmejlldabdjpjaaGreat (by simp)).mono ?_; rintro e w4 ⟨he, hk⟩; unfold refp at he; subst he))
      have hDl := D.lt
      exact ⟨rfl, rfl, (D.tk.ky.alloc _).onto hk fun i hi e => e.elim id fun e => by simp [Value.ownBlock] at e; omega⟩
    | ok ns l3 =>
      have hsz := sz_all _ _ _ _ _ he
      simp only [Sz, one_len] at hsz
      obtain ⟨t5, l6, rfl⟩ := (pr_ends he ((h.ends.tail h56).tail (by omega))).cons
      rw [he] at hr
      simp only [PR.bind] at hr ⊢
      by_cases h14 : cls t5 = 14
      · have wt514 : rd t5 [61] = true := cls_rd (c := 14) (by omega) (by decide) (by decide)
        rw [if_pos (show hc (t5 :: l6) = 14 from h14)] at hr ⊢
        change ((pr N (.lst ns) l6).bind _) ≠ _ at hr
        change Calls _ _ _ _ (PN b m T W ((pr N (.lst ns) l6).bind _))
        cases he2 : pr N (.lst ns) l6 with
        | out => rw [he2] at hr; exact absurd rfl hr
        | bad p2 =>
          simp only [PR.bind]
          go_enter Tryz.func131, Tryz.ntmps131
          go_wp2_with (first | (go_at_call 122; refine (take_p b m T (t2 :: l2) t _ (h.alloc _) h56).mono ?_; rintro e w1 ⟨rfl, hT1⟩; have D := Nd.begin ((h.tk.alloc _).trans hT1) ((Bx.new W 42 _).ky hT1.ky hbW) (by omega) 21 [] 0 t.p) | (go_at_call 124; refine (name_yes b m T l2 t2 _ D.tk.ps h51).mono ?_; rintro e w2 ⟨rfl, hT2⟩; have D := D.took hT2 (by simp); have hy := D.box.lt; have RW := D.name1 t2.t t2.p (by simp only [List.length_cons] at hT; omega)) | (go_at_call 126; have YtmejlldabdjpjaaGreat := names_p N b m T l2 _ _ _ _ _ RW; rw [he] at YtmejlldabdjpjaaGreat; refine (YtmejlldabdjpjaaGreat (by simp)).mono ?_; rintro e w4 ⟨a3, c3, rfl, hkl, hps, hk⟩; obtain ⟨w5, hw5, D, B5⟩ := (D.alloc _).call hps hkl (by simp only [List.length_cons] at hT; omega) hk hy; obtain ⟨-, -, -, -, x4⟩ := B5.five; obtain ⟨-, -, -, -, y4⟩ := B5.frozen5; obtain ⟨-, -, e2, -, e4⟩ := D.box.five; obtain ⟨-, -, e6, -, -⟩ := D.box.frozen5; obtain ⟨w6, hw6, D⟩ := D.num (ns.len : Nat)) | (go_at_call 87; refine (accept_t b m T l6 t5 _ _ D.tk.ps (by assumption)).mono ?_; rintro e w7 ⟨rfl, hT7⟩; have D := D.took hT7 (by simp); obtain ⟨-, -, -, -, v4⟩ := D.box.five) | (go_at_call 123; have CL := H.lst b m T l6 _ _ _ _ _ D.row; rw [he2] at CL; refine (CL (by simp)).mono ?_; rintro e w8 ⟨he, hk8⟩; unfold refp at he; subst he))
          obtain ⟨xs, hown, hoP, _⟩ := D.kl.out
          have hDl := D.lt
          exact ⟨rfl, rfl, D.tk.ky.onto hk8 fun i hi e => e.elim id fun e => by have := hoP i e.symm; omega⟩
        | ok f l7 =>
          have hsz2 := sz_all _ _ _ _ _ he2
          simp only [Sz] at hsz2
          simp only [PR.bind]
          go_enter Tryz.func131, Tryz.ntmps131
          go_wp2_with (first | (go_at_call 122; refine (take_p b m T (t2 :: l2) t _ (h.alloc _) h56).mono ?_; rintro e w1 ⟨rfl, hT1⟩; have D := Nd.begin ((h.tk.alloc _).trans hT1) ((Bx.new W 42 _).ky hT1.ky hbW) (by omega) 21 [] 0 t.p) | (go_at_call 124; refine (name_yes b m T l2 t2 _ D.tk.ps h51).mono ?_; rintro e w2 ⟨rfl, hT2⟩; have D := D.took hT2 (by simp); have hy := D.box.lt; have RW := D.name1 t2.t t2.p (by simp only [List.length_cons] at hT; omega)) | (go_at_call 126; have YtmejlldabdjpjaaGreat := names_p N b m T l2 _ _ _ _ _ RW; rw [he] at YtmejlldabdjpjaaGreat; refine (YtmejlldabdjpjaaGreat (by simp)).mono ?_; rintro e w4 ⟨a3, c3, rfl, hkl, hps, hk⟩; obtain ⟨w5, hw5, D, B5⟩ := (D.alloc _).call hps hkl (by simp only [List.length_cons] at hT; omega) hk hy; obtain ⟨-, -, -, -, x4⟩ := B5.five; obtain ⟨-, -, -, -, y4⟩ := B5.frozen5; obtain ⟨-, -, e2, -, e4⟩ := D.box.five; obtain ⟨-, -, e6, -, -⟩ := D.box.frozen5; obtain ⟨w6, hw6, D⟩ := D.num (ns.len : Nat)) | (go_at_call 87; refine (accept_t b m T l6 t5 _ _ D.tk.ps (by assumption)).mono ?_; rintro e w7 ⟨rfl, hT7⟩; have D := D.took hT7 (by simp); obtain ⟨-, -, -, -, v4⟩ := D.box.five) | (go_at_call 123; have CL := H.lst b m T l6 _ _ _ _ _ D.row; rw [he2] at CL; refine (CL (by simp)).mono ?_; rintro e w8 ⟨a8, c8, rfl, hkl8, hps8, hk8⟩; have hfe := D.few; obtain ⟨w9, hw9, D, B9⟩ := D.grownN hps8 hkl8 (by omega) hk8; obtain ⟨-, -, -, -, x9⟩ := B9.five; obtain ⟨-, -, -, -, y9⟩ := B9.frozen5; obtain ⟨q0, q1, q2, q3, q4⟩ := D.res.five; obtain ⟨f0, f1, f2, f3, f4⟩ := D.res.frozen5; obtain ⟨z0, z1, z2, z3, z4⟩ := D.box.five))
          refine bodyPost_ret (v := (.agg #[.int .i64 (21), .string ⟨#[]⟩, .int .i64 (ns.len), .int .i64 (t.p), .slice a8 f.len c8])) (by simp [results, Tryz.results131, go_sem, q0, q1, q2, q3, q4]) rfl ?_
          exact D.ret _ _ _ _ _
      · have wt514 : rd t5 [61] = false := cls_nrd (c := 14) (by omega) (by decide) (by decide)
        rw [if_neg (show ¬ hc (t5 :: l6) = 14 from h14)]
        go_enter Tryz.func131, Tryz.ntmps131
        go_wp2_with (first | (go_at_call 122; refine (take_p b m T (t2 :: l2) t _ (h.alloc _) h56).mono ?_; rintro e w1 ⟨rfl, hT1⟩; have D := Nd.begin ((h.tk.alloc _).trans hT1) ((Bx.new W 42 _).ky hT1.ky hbW) (by omega) 21 [] 0 t.p) | (go_at_call 124; refine (name_yes b m T l2 t2 _ D.tk.ps h51).mono ?_; rintro e w2 ⟨rfl, hT2⟩; have D := D.took hT2 (by simp); have hy := D.box.lt; have RW := D.name1 t2.t t2.p (by simp only [List.length_cons] at hT; omega)) | (go_at_call 126; have YtmejlldabdjpjaaGreat := names_p N b m T l2 _ _ _ _ _ RW; rw [he] at YtmejlldabdjpjaaGreat; refine (YtmejlldabdjpjaaGreat (by simp)).mono ?_; rintro e w4 ⟨a3, c3, rfl, hkl, hps, hk⟩; obtain ⟨w5, hw5, D, B5⟩ := (D.alloc _).call hps hkl (by simp only [List.length_cons] at hT; omega) hk hy; obtain ⟨-, -, -, -, x4⟩ := B5.five; obtain ⟨-, -, -, -, y4⟩ := B5.frozen5; obtain ⟨-, -, e2, -, e4⟩ := D.box.five; obtain ⟨-, -, e6, -, -⟩ := D.box.frozen5; obtain ⟨w6, hw6, D⟩ := D.num (ns.len : Nat)) | (go_at_call 87; refine (accept_f b m T l6 t5 _ _ D.tk.ps (by assumption)).mono ?_; rintro e w7 ⟨rfl, hb7⟩; have D := D.below hb7; obtain ⟨q0, q1, q2, q3, q4⟩ := D.res.five; obtain ⟨f0, f1, f2, f3, f4⟩ := D.res.frozen5; obtain ⟨z0, z1, z2, z3, z4⟩ := D.box.five))
        refine bodyPost_ret (v := (.agg #[.int .i64 (21), .string ⟨#[]⟩, .int .i64 (ns.len), .int .i64 (t.p), .slice a3 ns.len c3])) (by simp [results, Tryz.results131, go_sem, q0, q1, q2, q3, q4]) rfl ?_
        exact D.ret _ _ _ _ _
  · rw [if_neg (show ¬ hc (t2 :: l2) = 51 from h51)]
    go_enter Tryz.func131, Tryz.ntmps131
    go_wp2_with (first | (go_at_call 122; refine (take_p b m T (t2 :: l2) t _ (h.alloc _) h56).mono ?_; rintro e w1 ⟨rfl, hT1⟩; have D := Nd.begin ((h.tk.alloc _).trans hT1) ((Bx.new W 42 _).ky hT1.ky hbW) (by omega) 21 [] 0 t.p) | (go_at_call 124; refine (name_no b m T l2 t2 _ D.tk.ps h51).mono ?_; rintro e w2 ⟨he, hb2⟩; unfold refp at he; subst he))
    exact ⟨rfl, rfl, D.tk.ky.trans (.of_below hb2)⟩
end Go.Proofs.YtmejlldabdjpjaaGreat
