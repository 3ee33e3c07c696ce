import Derived.Test.YtkjbgggghigapaaGreatCg25
namespace Go.Proofs.YtkjbgggghigapaaGreat
open Go.RowKit
def HA (N : Nat) : Prop:=∀ (b m : Nat) (T l : List Tok) (W : World),PS b m T l W → asgP (pr N) l ≠ .out → Calls Tryz.prog 103 #[.pointer (some ⟨b,0,none⟩)] W (PN b m T W (asgP (pr N) l))
set_option maxRecDepth 20000 in
set_option maxHeartbeats 8000000 in
theorem stat_while (N : Nat) (H : CC N) (b m : Nat) (T l : List Tok) (t : Tok) (W : World) (h : PS b m T (t :: l) W) (hc : cls t = 8) (hr : whileP (pr N) (t :: l) ≠ .out) : Calls Tryz.prog 68 #[.pointer (some ⟨b,0,none⟩)] W (PN b m T W (whileP (pr N) (t :: l))):=by
  have hlt:=h.lt
  have D:=h.rs
  have wt7 : rd t [100,111] = false:=cls_nrd (c:=7) (by omega) (by decide) (by decide)
  have wt8 : rd t [119,104,105,108,101] = true:=cls_rd (c:=8) (by omega) (by decide) (by decide)
  have CE:=fun W h=>while_any N H b m T l t W h (by omega)
  cases he : whileP (pr N) (t :: l) with
  | out=>exact absurd he hr
  | bad p =>
    rw [he] at CE
    go_enter Tryz.func68,Tryz.ntmps68
    go_wp2_with (first | (go_at_call 64;refine (is_v b m T l t _ _ D.tk.ps (by assumption)).mono ?_;rintro e w1 ⟨rfl,hb1⟩;have D:=D.below hb1) | (go_at_call 99;refine (CE _ D.tk.ps (by simp)).mono ?_;rintro e w3 ⟨he,hk⟩;unfold refp at he;subst he))
    exact ⟨rfl,rfl,D.tk.ky.trans hk⟩
  | ok g l3 =>
    rw [he] at CE
    go_enter Tryz.func68,Tryz.ntmps68
    go_wp2_with (first | (go_at_call 64;refine (is_v b m T l t _ _ D.tk.ps (by assumption)).mono ?_;rintro e w1 ⟨rfl,hb1⟩;have D:=D.below hb1) | (go_at_call 99;refine (CE _ D.tk.ps (by simp)).mono ?_;rintro e w3 ⟨k,tt,n,p,a1,c1,ks,rfl,rfl,hTN,hTk⟩;have hz:=D.res.lt;have D3:=D.took hTk;obtain ⟨q0,q1,q2,q3,q4⟩:=D3.res.five;obtain ⟨f0,f1,f2,f3,f4⟩:=D3.res.frozen5))
    refine bodyPost_ret (v:=(.agg #[.int .i64 (k),.string ⟨(tt).toArray⟩,.int .i64 (n),.int .i64 (p),.slice a1 ks.len c1])) (by simp [results,Tryz.results68,go_sem,q0,q1,q2,q3,q4]) rfl ?_
    exact PN.five (hTN.mono (Q:=fun g=>W.heap.size < g) fun g hg _=>by omega) D3.tk (fun _ e=>e) hlt.2
set_option maxRecDepth 20000 in
set_option maxHeartbeats 8000000 in
theorem stat_if (N : Nat) (H : ∀ n,n ≤ N → CC n) (b m : Nat) (T l : List Tok) (t : Tok) (W : World) (h : PS b m T (t :: l) W) (hc : cls t = 9) (hr : ifP (pr N) (t :: l) ≠ .out) : Calls Tryz.prog 68 #[.pointer (some ⟨b,0,none⟩)] W (PN b m T W (ifP (pr N) (t :: l))):=by
  have hlt:=h.lt
  have D:=h.rs
  have wt7 : rd t [100,111] = false:=cls_nrd (c:=7) (by omega) (by decide) (by decide)
  have wt8 : rd t [119,104,105,108,101] = false:=cls_nrd (c:=8) (by omega) (by decide) (by decide)
  have wt9 : rd t [105,102] = true:=cls_rd (c:=9) (by omega) (by decide) (by decide)
  have CE:=fun W h=>choice_any N H b m T l t W h (by omega)
  cases he : ifP (pr N) (t :: l) with
  | out=>exact absurd he hr
  | bad p =>
    rw [he] at CE
    go_enter Tryz.func68,Tryz.ntmps68
    go_wp2_with (first | (go_at_call 64;refine (is_v b m T l t _ _ D.tk.ps (by assumption)).mono ?_;rintro e w1 ⟨rfl,hb1⟩;have D:=D.below hb1) | (go_at_call 100;refine (CE _ D.tk.ps (by simp)).mono ?_;rintro e w3 ⟨he,hk⟩;unfold refp at he;subst he))
    exact ⟨rfl,rfl,D.tk.ky.trans hk⟩
  | ok g l3 =>
    rw [he] at CE
    go_enter Tryz.func68,Tryz.ntmps68
    go_wp2_with (first | (go_at_call 64;refine (is_v b m T l t _ _ D.tk.ps (by assumption)).mono ?_;rintro e w1 ⟨rfl,hb1⟩;have D:=D.below hb1) | (go_at_call 100;refine (CE _ D.tk.ps (by simp)).mono ?_;rintro e w3 ⟨k,tt,n,p,a1,c1,ks,rfl,rfl,hTN,hTk⟩;have hz:=D.res.lt;have D3:=D.took hTk;obtain ⟨q0,q1,q2,q3,q4⟩:=D3.res.five;obtain ⟨f0,f1,f2,f3,f4⟩:=D3.res.frozen5))
    refine bodyPost_ret (v:=(.agg #[.int .i64 (k),.string ⟨(tt).toArray⟩,.int .i64 (n),.int .i64 (p),.slice a1 ks.len c1])) (by simp [results,Tryz.results68,go_sem,q0,q1,q2,q3,q4]) rfl ?_
    exact PN.five (hTN.mono (Q:=fun g=>W.heap.size < g) fun g hg _=>by omega) D3.tk (fun _ e=>e) hlt.2
set_option maxRecDepth 20000 in
set_option maxHeartbeats 8000000 in
theorem stat_for (N : Nat) (H : CC N) (b m : Nat) (T l : List Tok) (t : Tok) (W : World) (h : PS b m T (t :: l) W) (hc : cls t = 10) (hr : forP (pr N) (t :: l) ≠ .out) : Calls Tryz.prog 68 #[.pointer (some ⟨b,0,none⟩)] W (PN b m T W (forP (pr N) (t :: l))):=by
  have hlt:=h.lt
  have D:=h.rs
  have wt7 : rd t [100,111] = false:=cls_nrd (c:=7) (by omega) (by decide) (by decide)
  have wt8 : rd t [119,104,105,108,101] = false:=cls_nrd (c:=8) (by omega) (by decide) (by decide)
  have wt9 : rd t [105,102] = false:=cls_nrd (c:=9) (by omega) (by decide) (by decide)
  have wt10 : rd t [102,111,114] = true:=cls_rd (c:=10) (by omega) (by decide) (by decide)
  have CE:=fun W h=>loop_any N H b m T l t W h (by omega)
  cases he : forP (pr N) (t :: l) with
  | out=>exact absurd he hr
  | bad p =>
    rw [he] at CE
    go_enter Tryz.func68,Tryz.ntmps68
    go_wp2_with (first | (go_at_call 64;refine (is_v b m T l t _ _ D.tk.ps (by assumption)).mono ?_;rintro e w1 ⟨rfl,hb1⟩;have D:=D.below hb1) | (go_at_call 101;refine (CE _ D.tk.ps (by simp)).mono ?_;rintro e w3 ⟨he,hk⟩;unfold refp at he;subst he))
    exact ⟨rfl,rfl,D.tk.ky.trans hk⟩
  | ok g l3 =>
    rw [he] at CE
    go_enter Tryz.func68,Tryz.ntmps68
    go_wp2_with (first | (go_at_call 64;refine (is_v b m T l t _ _ D.tk.ps (by assumption)).mono ?_;rintro e w1 ⟨rfl,hb1⟩;have D:=D.below hb1) | (go_at_call 101;refine (CE _ D.tk.ps (by simp)).mono ?_;rintro e w3 ⟨k,tt,n,p,a1,c1,ks,rfl,rfl,hTN,hTk⟩;have hz:=D.res.lt;have D3:=D.took hTk;obtain ⟨q0,q1,q2,q3,q4⟩:=D3.res.five;obtain ⟨f0,f1,f2,f3,f4⟩:=D3.res.frozen5))
    refine bodyPost_ret (v:=(.agg #[.int .i64 (k),.string ⟨(tt).toArray⟩,.int .i64 (n),.int .i64 (p),.slice a1 ks.len c1])) (by simp [results,Tryz.results68,go_sem,q0,q1,q2,q3,q4]) rfl ?_
    exact PN.five (hTN.mono (Q:=fun g=>W.heap.size < g) fun g hg _=>by omega) D3.tk (fun _ e=>e) hlt.2
set_option maxRecDepth 20000 in
set_option maxHeartbeats 8000000 in
theorem stat_local (N : Nat) (H : CC N) (b m : Nat) (T l : List Tok) (t : Tok) (W : World) (h : PS b m T (t :: l) W) (hc : cls t = 11) (hr : locP (pr N) (t :: l) ≠ .out) : Calls Tryz.prog 68 #[.pointer (some ⟨b,0,none⟩)] W (PN b m T W (locP (pr N) (t :: l))):=by
  have hlt:=h.lt
  have D:=h.rs
  have wt7 : rd t [100,111] = false:=cls_nrd (c:=7) (by omega) (by decide) (by decide)
  have wt8 : rd t [119,104,105,108,101] = false:=cls_nrd (c:=8) (by omega) (by decide) (by decide)
  have wt9 : rd t [105,102] = false:=cls_nrd (c:=9) (by omega) (by decide) (by decide)
  have wt10 : rd t [102,111,114] = false:=cls_nrd (c:=10) (by omega) (by decide) (by decide)
  have wt11 : rd t [108,111,99,97,108] = true:=cls_rd (c:=11) (by omega) (by decide) (by decide)
  have CE:=fun W h=>local_any N H b m T l t W h (by omega)
  cases he : locP (pr N) (t :: l) with
  | out=>exact absurd he hr
  | bad p =>
    rw [he] at CE
    go_enter Tryz.func68,Tryz.ntmps68
    go_wp2_with (first | (go_at_call 64;refine (is_v b m T l t _ _ D.tk.ps (by assumption)).mono ?_;rintro e w1 ⟨rfl,hb1⟩;have D:=D.below hb1) | (go_at_call 102;refine (CE _ D.tk.ps (by simp)).mono ?_;rintro e w3 ⟨he,hk⟩;unfold refp at he;subst he))
    exact ⟨rfl,rfl,D.tk.ky.trans hk⟩
  | ok g l3 =>
    rw [he] at CE
    go_enter Tryz.func68,Tryz.ntmps68
    go_wp2_with (first | (go_at_call 64;refine (is_v b m T l t _ _ D.tk.ps (by assumption)).mono ?_;rintro e w1 ⟨rfl,hb1⟩;have D:=D.below hb1) | (go_at_call 102;refine (CE _ D.tk.ps (by simp)).mono ?_;rintro e w3 ⟨k,tt,n,p,a1,c1,ks,rfl,rfl,hTN,hTk⟩;have hz:=D.res.lt;have D3:=D.took hTk;obtain ⟨q0,q1,q2,q3,q4⟩:=D3.res.five;obtain ⟨f0,f1,f2,f3,f4⟩:=D3.res.frozen5))
    refine bodyPost_ret (v:=(.agg #[.int .i64 (k),.string ⟨(tt).toArray⟩,.int .i64 (n),.int .i64 (p),.slice a1 ks.len c1])) (by simp [results,Tryz.results68,go_sem,q0,q1,q2,q3,q4]) rfl ?_
    exact PN.five (hTN.mono (Q:=fun g=>W.heap.size < g) fun g hg _=>by omega) D3.tk (fun _ e=>e) hlt.2
set_option maxRecDepth 20000 in
set_option maxHeartbeats 8000000 in
theorem stat_asg (N : Nat) (H : HA N) (b m : Nat) (T l : List Tok) (t : Tok) (W : World) (h : PS b m T (t :: l) W) (c : Nat) (hc : cls t = c) (hn : c ≠ 7 ∧ c ≠ 8 ∧ c ≠ 9 ∧ c ≠ 10 ∧ c ≠ 11 ∧ c ≠ 12) (hr : asgP (pr N) (t :: l) ≠ .out) : Calls Tryz.prog 68 #[.pointer (some ⟨b,0,none⟩)] W (PN b m T W (asgP (pr N) (t :: l))):=by
  have hlt:=h.lt
  have D:=h.rs
  have wt7 : rd t [100,111] = false:=cls_nrd (c:=7) (by omega) (by decide) (by decide)
  have wt8 : rd t [119,104,105,108,101] = false:=cls_nrd (c:=8) (by omega) (by decide) (by decide)
  have wt9 : rd t [105,102] = false:=cls_nrd (c:=9) (by omega) (by decide) (by decide)
  have wt10 : rd t [102,111,114] = false:=cls_nrd (c:=10) (by omega) (by decide) (by decide)
  have wt11 : rd t [108,111,99,97,108] = false:=cls_nrd (c:=11) (by omega) (by decide) (by decide)
  have wt12 : rd t [98,114,101,97,107] = false:=cls_nrd (c:=12) (by omega) (by decide) (by decide)
  have CE:=fun W h=>H b m T (t :: l) W h
  cases he : asgP (pr N) (t :: l) with
  | out=>exact absurd he hr
  | bad p =>
    rw [he] at CE
    go_enter Tryz.func68,Tryz.ntmps68
    go_wp2_with (first | (go_at_call 64;refine (is_v b m T l t _ _ D.tk.ps (by assumption)).mono ?_;rintro e w1 ⟨rfl,hb1⟩;have D:=D.below hb1) | (go_at_call 103;refine (CE _ D.tk.ps (by simp)).mono ?_;rintro e w3 ⟨he,hk⟩;unfold refp at he;subst he))
    exact ⟨rfl,rfl,D.tk.ky.trans hk⟩
  | ok g l3 =>
    rw [he] at CE
    go_enter Tryz.func68,Tryz.ntmps68
    go_wp2_with (first | (go_at_call 64;refine (is_v b m T l t _ _ D.tk.ps (by assumption)).mono ?_;rintro e w1 ⟨rfl,hb1⟩;have D:=D.below hb1) | (go_at_call 103;refine (CE _ D.tk.ps (by simp)).mono ?_;rintro e w3 ⟨k,tt,n,p,a1,c1,ks,rfl,rfl,hTN,hTk⟩;have hz:=D.res.lt;have D3:=D.took hTk;obtain ⟨q0,q1,q2,q3,q4⟩:=D3.res.five;obtain ⟨f0,f1,f2,f3,f4⟩:=D3.res.frozen5))
    refine bodyPost_ret (v:=(.agg #[.int .i64 (k),.string ⟨(tt).toArray⟩,.int .i64 (n),.int .i64 (p),.slice a1 ks.len c1])) (by simp [results,Tryz.results68,go_sem,q0,q1,q2,q3,q4]) rfl ?_
    exact PN.five (hTN.mono (Q:=fun g=>W.heap.size < g) fun g hg _=>by omega) D3.tk (fun _ e=>e) hlt.2
set_option maxRecDepth 20000 in
set_option maxHeartbeats 8000000 in
theorem stat_break (b m : Nat) (T l : List Tok) (t : Tok) (W : World) (h : PS b m T (t :: l) W) (hc : cls t = 12) : Calls Tryz.prog 68 #[.pointer (some ⟨b,0,none⟩)] W (PN b m T W (.ok (one 29 [] 0 t.p .nil) l)):=by
  have hlt:=h.lt
  have D:=h.rs
  have wt7 : rd t [100,111] = false:=cls_nrd (c:=7) (by omega) (by decide) (by decide)
  have wt8 : rd t [119,104,105,108,101] = false:=cls_nrd (c:=8) (by omega) (by decide) (by decide)
  have wt9 : rd t [105,102] = false:=cls_nrd (c:=9) (by omega) (by decide) (by decide)
  have wt10 : rd t [102,111,114] = false:=cls_nrd (c:=10) (by omega) (by decide) (by decide)
  have wt11 : rd t [108,111,99,97,108] = false:=cls_nrd (c:=11) (by omega) (by decide) (by decide)
  have wt12 : rd t [98,114,101,97,107] = true:=cls_rd (c:=12) (by omega) (by decide) (by decide)
  go_enter Tryz.func68,Tryz.ntmps68
  go_wp2_with (first | (go_at_call 64;refine (is_v b m T l t _ _ D.tk.ps (by assumption)).mono ?_;rintro e w1 ⟨rfl,hb1⟩;have D:=D.below hb1) | (go_at_call 93;refine (take_p b m T l t _ D.tk.ps (by omega)).mono ?_;rintro e w3 ⟨rfl,hT3⟩;have D3:=D.took hT3;obtain ⟨q0,q1,q2,q3,q4⟩:=D3.res.five;obtain ⟨f0,f1,f2,f3,f4⟩:=D3.res.frozen5))
  refine bodyPost_ret (v:=(.agg #[.int .i64 (29),.string ⟨#[]⟩,.int .i64 (0),.int .i64 (t.p),.slice none 0 0])) (by simp [results,Tryz.results68,go_sem,q0,q1,q2,q3,q4]) rfl ?_
  exact PN.five (ks:=.nil) (TN.leaf _ _ (fun g=>W.heap.size < g) _ _ _ _) D3.tk (fun _ e=>e) hlt.2
set_option maxRecDepth 20000 in
set_option maxHeartbeats 8000000 in
theorem stat_do (N : Nat) (H : CC N) (b m : Nat) (T l : List Tok) (t : Tok) (W : World) (h : PS b m T (t :: l) W) (hc : cls t = 7) (hr : bodyP (pr N) (t :: l) .ok ≠ .out) : Calls Tryz.prog 68 #[.pointer (some ⟨b,0,none⟩)] W (PN b m T W ((bodyP (pr N) (t :: l) .ok).bind fun f l1=>.ok (one 28 [] 0 t.p f) l1)):=by
  have hlt:=h.lt
  have D:=h.rs
  have wt7 : rd t [100,111] = true:=cls_rd (c:=7) (by omega) (by decide) (by decide)
  have CE:=fun W h=>body_any N H b m T (t :: l) W h
  cases he : bodyP (pr N) (t :: l) .ok with
  | out=>exact absurd he hr
  | bad p =>
    rw [he] at CE
    go_enter Tryz.func68,Tryz.ntmps68
    go_wp2_with (first | (go_at_call 64;refine (is_v b m T l t _ _ D.tk.ps (by assumption)).mono ?_;rintro e w1 ⟨rfl,hb1⟩;have D:=D.below hb1) | (go_at_call 45;refine (at_any b m T l t _ D.tk.ps).mono ?_;rintro e w2 ⟨rfl,hb2⟩;have D:=D.below hb2) | (go_at_call 98;refine (CE _ D.tk.ps (by simp)).mono ?_;rintro e w3 ⟨he,hk⟩;unfold refp at he;subst he))
    exact ⟨rfl,rfl,D.tk.ky.trans hk⟩
  | ok g l3 =>
    rw [he] at CE
    go_enter Tryz.func68,Tryz.ntmps68
    go_wp2_with (first | (go_at_call 64;refine (is_v b m T l t _ _ D.tk.ps (by assumption)).mono ?_;rintro e w1 ⟨rfl,hb1⟩;have D:=D.below hb1) | (go_at_call 45;refine (at_any b m T l t _ D.tk.ps).mono ?_;rintro e w2 ⟨rfl,hb2⟩;have D:=D.below hb2) | (go_at_call 98;refine (CE _ D.tk.ps (by simp)).mono ?_;rintro e w3 ⟨k,tt,n,p,a1,c1,ks,rfl,rfl,hTN,hTk⟩;have hz:=D.res.lt;have D3:=D.took hTk;obtain ⟨q0,q1,q2,q3,q4⟩:=D3.res.fiveA;obtain ⟨f0,f1,f2,f3,f4⟩:=D3.res.frozen5A))
    have hz3:=D3.res.lt
    refine bodyPost_ret (v:=(.agg #[.int .i64 (28),.string ⟨#[]⟩,.int .i64 (0),.int .i64 (t.p),.slice (some ⟨w3.heap.size,0,none⟩) 1 1])) (by simp [results,Tryz.results68,go_sem,q0,q1,q2,q3,q4]) rfl ?_
    exact PN.five (TN.made (cur:=#[.int .i64 k,.string ⟨tt.toArray⟩,.int .i64 n,.int .i64 p,.slice a1 ks.len c1]) (c:=1) (Q:=fun g=>W.heap.size < g) (hTN.kf.mono fun g hg _=>by omega) hz3 rfl (by unfold maxLen;omega) 28 [] 0 t.p) (D3.tk.alloc _) (fun _ e=>e) hlt.2
theorem statement_any (N : Nat) (H : ∀ n,n ≤ N → CC n) (HA : HA N) (b m : Nat) (T l : List Tok) (W : World) (h : PS b m T l W) (hr : pr (N + 1) .stat l ≠ .out) : Calls Tryz.prog 68 #[.pointer (some ⟨b,0,none⟩)] W (PN b m T W (pr (N + 1) .stat l)):=by
  obtain ⟨t,l1,rfl⟩:=h.cons
  have HN:=H N (Nat.le_refl _)
  rw [pr_succ] at hr ⊢
  simp only [stp'] at hr ⊢
  obtain ⟨c,hc'⟩ : ∃ c,cls t = c:=⟨_,rfl⟩
  have hh : hc (t :: l1) = c:=hc'
  rw [hh] at hr ⊢
  by_cases h7 : c = 7
  · rw [if_pos h7,bodyP_bind] at hr ⊢
    exact stat_do N HN b m T l1 t W h (hc'.trans h7) (bind_out hr)
  rw [if_neg h7] at hr ⊢
  by_cases h8 : c = 8
  · rw [if_pos h8] at hr ⊢
    exact stat_while N HN b m T l1 t W h (hc'.trans h8) hr
  rw [if_neg h8] at hr ⊢
  by_cases h9 : c = 9
  · rw [if_pos h9] at hr ⊢
    exact stat_if N H b m T l1 t W h (hc'.trans h9) hr
  rw [if_neg h9] at hr ⊢
  by_cases h10 : c = 10
  · rw [if_pos h10] at hr ⊢
    exact stat_for N HN b m T l1 t W h (hc'.trans h10) hr
  rw [if_neg h10] at hr ⊢
  by_cases h11 : c = 11
  · rw [if_pos h11] at hr ⊢
    exact stat_local N HN b m T l1 t W h (hc'.trans h11) hr
  rw [if_neg h11] at hr ⊢
  by_cases h12 : c = 12
  · rw [if_pos h12]
    exact stat_break b m T l1 t W h (hc'.trans h12)
  rw [if_neg h12] at hr ⊢
  exact stat_asg N HA b m T l1 t W h c hc' (by omega) hr
end Go.Proofs.YtkjbgggghigapaaGreat
