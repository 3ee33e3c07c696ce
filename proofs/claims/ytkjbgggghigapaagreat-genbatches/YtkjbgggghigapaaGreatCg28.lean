import Derived.Test.YtkjbgggghigapaaGreatCg20
namespace Go.Proofs.YtkjbgggghigapaaGreat
open Go.RowKit
theorem Od.next {b m : Nat} {T l : List Tok} {W : World} {X : Nat} {t : Tok} {w : World} {i : Nat} (h : Od b m T (t :: l) W X t w) (h56 : cls t ≠ 56) (hi : w.cell? ⟨b,1,none⟩ = some (.int .i64 i)) : Od b m T l W X t (w.setCell ⟨b,1,none⟩ (.int .i64 ((i : Int) + 1))):=by
  have hlt:=h.lt
  exact ⟨⟨h.tk.ps.next h56 hi,h.tk.ky.setP _⟩,h.res.set (by omega) _,h.box.set (by omega) _,h.lt⟩
theorem kne {t : Tok} {c : Nat} (j : Nat) (hc : cls t = c) (hj : j = 1 ∨ j = 3 ∨ j = 4 ∨ j = 6) (h : c ≠ 50 + j) : (t.k == (j : Int)) = false:=by
  cases he : t.k == (j : Int)
  · rfl
  · have : t.k = j:=by simpa using he
    exact absurd (hc.symm.trans (cls_of_kind t j this hj)) h
theorem keq {t : Tok} {c : Nat} (j : Nat) (hc : cls t = c) (h : c = 50 + j) (h0 : 1 ≤ j) : (t.k == (j : Int)) = true:=by
  have:=cls_kind t c hc (by omega)
  rw [this,h]
  simp;omega
set_option maxRecDepth 20000 in
set_option maxHeartbeats 4000000 in
theorem opd_name (N : Nat) (H : CC N) (b m : Nat) (T l : List Tok) (t : Tok) (W : World) (h : PS b m T (t :: l) W) (hc : cls t = 51) (hr : pr N .suf (t :: l) ≠ .out) : Calls Tryz.prog 140 #[.pointer (some ⟨b,0,none⟩)] W (PN b m T W (pr N .suf (t :: l))):=by
  have hlt:=h.lt
  have h56 : cls t ≠ 56:=by omega
  have k1 : (t.k == 1) = true:=keq 1 hc rfl (by omega)
  have k3 : (t.k == 3) = false:=kne 3 hc (by simp) (by omega)
  have k4 : (t.k == 4) = false:=kne 4 hc (by simp) (by omega)
  have wt17 : rd t [40] = false:=cls_nrd (c:=17) (by omega) (by decide) (by decide)
  have wt22 : rd t [123] = false:=cls_nrd (c:=22) (by omega) (by decide) (by decide)
  have wt24 : rd t [110,111,116] = false:=cls_nrd (c:=24) (by omega) (by decide) (by decide)
  have wt25 : rd t [35] = false:=cls_nrd (c:=25) (by omega) (by decide) (by decide)
  have wt26 : rd t [45] = false:=cls_nrd (c:=26) (by omega) (by decide) (by decide)
  have wt27 : rd t [110,105,108] = false:=cls_nrd (c:=27) (by omega) (by decide) (by decide)
  have wt28 : rd t [116,114,117,101] = false:=cls_nrd (c:=28) (by omega) (by decide) (by decide)
  have wt29 : rd t [102,97,108,115,101] = false:=cls_nrd (c:=29) (by omega) (by decide) (by decide)
  have CE:=fun W h=>H.suf b m T (t :: l) W h
  clear hc
  have CI:=fun w (w' : List UInt8) (v : Bool) h hv=>is_v b m T l t w w' h (v:=v) hv
  cases he : pr N .suf (t :: l) with
  | out=>exact absurd he hr
  | bad p =>
    rw [he] at CE
    go_enter Tryz.func140,Tryz.ntmps140
    go_wp2_with (first | (go_at_call 43;refine (token_any b m T l t _ (h.alloc _)).mono ?_;rintro e w1 ⟨rfl,hb1⟩;have O:=h.od rfl hb1) | (go_at_call 64;refine (CI _ _ _ O.tk.ps (by assumption)).mono ?_;rintro e w2 ⟨rfl,hb2⟩;have O:=O.below hb2;obtain ⟨o0,o1,o2,o3⟩:=O.box.four) | (go_at_call 127;refine (CE _ O.tk.ps (by simp)).mono ?_;rintro e w3 ⟨he,hk⟩;unfold refp at he;subst he))
    exact ⟨rfl,rfl,O.tk.ky.trans hk⟩
  | ok g l3 =>
    rw [he] at CE
    go_enter Tryz.func140,Tryz.ntmps140
    go_wp2_with (first | (go_at_call 43;refine (token_any b m T l t _ (h.alloc _)).mono ?_;rintro e w1 ⟨rfl,hb1⟩;have O:=h.od rfl hb1) | (go_at_call 64;refine (CI _ _ _ O.tk.ps (by assumption)).mono ?_;rintro e w2 ⟨rfl,hb2⟩;have O:=O.below hb2;obtain ⟨o0,o1,o2,o3⟩:=O.box.four) | (go_at_call 127;refine (CE _ O.tk.ps (by simp)).mono ?_;rintro e w3 ⟨k,tt,n,p,a1,c1,ks,rfl,rfl,hTN,hTk⟩;have O3:=O.took hTk;obtain ⟨q0,q1,q2,q3,q4⟩:=O3.res.five;obtain ⟨f0,f1,f2,f3,f4⟩:=O3.res.frozen5))
    refine bodyPost_ret (v:=(.agg #[.int .i64 (k),.string ⟨(tt).toArray⟩,.int .i64 (n),.int .i64 (p),.slice a1 ks.len c1])) (by simp [results,Tryz.results140,go_sem,q0,q1,q2,q3,q4]) rfl ?_
    exact PN.five (hTN.mono (Q:=fun g=>W.heap.size < g) fun g hg _=>by (have:=O.box.lt;have:=O.lt;omega)) O3.tk (fun _ e=>e) hlt.2
set_option maxRecDepth 20000 in
set_option maxHeartbeats 4000000 in
theorem opd_par (N : Nat) (H : CC N) (b m : Nat) (T l : List Tok) (t : Tok) (W : World) (h : PS b m T (t :: l) W) (hc : cls t = 17) (hr : pr N .suf (t :: l) ≠ .out) : Calls Tryz.prog 140 #[.pointer (some ⟨b,0,none⟩)] W (PN b m T W (pr N .suf (t :: l))):=by
  have hlt:=h.lt
  have h56 : cls t ≠ 56:=by omega
  have k1 : (t.k == 1) = false:=kne 1 hc (by simp) (by omega)
  have k3 : (t.k == 3) = false:=kne 3 hc (by simp) (by omega)
  have k4 : (t.k == 4) = false:=kne 4 hc (by simp) (by omega)
  have wt22 : rd t [123] = false:=cls_nrd (c:=22) (by omega) (by decide) (by decide)
  have wt24 : rd t [110,111,116] = false:=cls_nrd (c:=24) (by omega) (by decide) (by decide)
  have wt25 : rd t [35] = false:=cls_nrd (c:=25) (by omega) (by decide) (by decide)
  have wt26 : rd t [45] = false:=cls_nrd (c:=26) (by omega) (by decide) (by decide)
  have wt27 : rd t [110,105,108] = false:=cls_nrd (c:=27) (by omega) (by decide) (by decide)
  have wt28 : rd t [116,114,117,101] = false:=cls_nrd (c:=28) (by omega) (by decide) (by decide)
  have wt29 : rd t [102,97,108,115,101] = false:=cls_nrd (c:=29) (by omega) (by decide) (by decide)
  have wt17 : rd t [40] = true:=cls_rd (c:=17) (by omega) (by decide) (by decide)
  have CE:=fun W h=>H.suf b m T (t :: l) W h
  clear hc
  have CI:=fun w (w' : List UInt8) (v : Bool) h hv=>is_v b m T l t w w' h (v:=v) hv
  cases he : pr N .suf (t :: l) with
  | out=>exact absurd he hr
  | bad p =>
    rw [he] at CE
    go_enter Tryz.func140,Tryz.ntmps140
    go_wp2_with (first | (go_at_call 43;refine (token_any b m T l t _ (h.alloc _)).mono ?_;rintro e w1 ⟨rfl,hb1⟩;have O:=h.od rfl hb1) | (go_at_call 64;refine (CI _ _ _ O.tk.ps (by assumption)).mono ?_;rintro e w2 ⟨rfl,hb2⟩;have O:=O.below hb2;obtain ⟨o0,o1,o2,o3⟩:=O.box.four) | (go_at_call 127;refine (CE _ O.tk.ps (by simp)).mono ?_;rintro e w3 ⟨he,hk⟩;unfold refp at he;subst he))
    exact ⟨rfl,rfl,O.tk.ky.trans hk⟩
  | ok g l3 =>
    rw [he] at CE
    go_enter Tryz.func140,Tryz.ntmps140
    go_wp2_with (first | (go_at_call 43;refine (token_any b m T l t _ (h.alloc _)).mono ?_;rintro e w1 ⟨rfl,hb1⟩;have O:=h.od rfl hb1) | (go_at_call 64;refine (CI _ _ _ O.tk.ps (by assumption)).mono ?_;rintro e w2 ⟨rfl,hb2⟩;have O:=O.below hb2;obtain ⟨o0,o1,o2,o3⟩:=O.box.four) | (go_at_call 127;refine (CE _ O.tk.ps (by simp)).mono ?_;rintro e w3 ⟨k,tt,n,p,a1,c1,ks,rfl,rfl,hTN,hTk⟩;have O3:=O.took hTk;obtain ⟨q0,q1,q2,q3,q4⟩:=O3.res.five;obtain ⟨f0,f1,f2,f3,f4⟩:=O3.res.frozen5))
    refine bodyPost_ret (v:=(.agg #[.int .i64 (k),.string ⟨(tt).toArray⟩,.int .i64 (n),.int .i64 (p),.slice a1 ks.len c1])) (by simp [results,Tryz.results140,go_sem,q0,q1,q2,q3,q4]) rfl ?_
    exact PN.five (hTN.mono (Q:=fun g=>W.heap.size < g) fun g hg _=>by (have:=O.box.lt;have:=O.lt;omega)) O3.tk (fun _ e=>e) hlt.2
set_option maxRecDepth 20000 in
set_option maxHeartbeats 4000000 in
theorem opd_tab (N : Nat) (H : ∀ n,n ≤ N → CC n) (b m : Nat) (T l : List Tok) (t : Tok) (W : World) (h : PS b m T (t :: l) W) (hc : cls t = 22) (hr : tabP (pr N) (t :: l) ≠ .out) : Calls Tryz.prog 140 #[.pointer (some ⟨b,0,none⟩)] W (PN b m T W (tabP (pr N) (t :: l))):=by
  have hlt:=h.lt
  have h56 : cls t ≠ 56:=by omega
  have k1 : (t.k == 1) = false:=kne 1 hc (by simp) (by omega)
  have k3 : (t.k == 3) = false:=kne 3 hc (by simp) (by omega)
  have k4 : (t.k == 4) = false:=kne 4 hc (by simp) (by omega)
  have wt17 : rd t [40] = false:=cls_nrd (c:=17) (by omega) (by decide) (by decide)
  have wt24 : rd t [110,111,116] = false:=cls_nrd (c:=24) (by omega) (by decide) (by decide)
  have wt25 : rd t [35] = false:=cls_nrd (c:=25) (by omega) (by decide) (by decide)
  have wt26 : rd t [45] = false:=cls_nrd (c:=26) (by omega) (by decide) (by decide)
  have wt27 : rd t [110,105,108] = false:=cls_nrd (c:=27) (by omega) (by decide) (by decide)
  have wt28 : rd t [116,114,117,101] = false:=cls_nrd (c:=28) (by omega) (by decide) (by decide)
  have wt29 : rd t [102,97,108,115,101] = false:=cls_nrd (c:=29) (by omega) (by decide) (by decide)
  have wt22 : rd t [123] = true:=cls_rd (c:=22) (by omega) (by decide) (by decide)
  have CE:=fun W h=>table_any N H b m T l t W h h56
  clear hc
  have CI:=fun w (w' : List UInt8) (v : Bool) h hv=>is_v b m T l t w w' h (v:=v) hv
  cases he : tabP (pr N) (t :: l) with
  | out=>exact absurd he hr
  | bad p =>
    rw [he] at CE
    go_enter Tryz.func140,Tryz.ntmps140
    go_wp2_with (first | (go_at_call 43;refine (token_any b m T l t _ (h.alloc _)).mono ?_;rintro e w1 ⟨rfl,hb1⟩;have O:=h.od rfl hb1) | (go_at_call 64;refine (CI _ _ _ O.tk.ps (by assumption)).mono ?_;rintro e w2 ⟨rfl,hb2⟩;have O:=O.below hb2;obtain ⟨o0,o1,o2,o3⟩:=O.box.four) | (go_at_call 158;refine (CE _ O.tk.ps (by simp)).mono ?_;rintro e w3 ⟨he,hk⟩;unfold refp at he;subst he))
    exact ⟨rfl,rfl,O.tk.ky.trans hk⟩
  | ok g l3 =>
    rw [he] at CE
    go_enter Tryz.func140,Tryz.ntmps140
    go_wp2_with (first | (go_at_call 43;refine (token_any b m T l t _ (h.alloc _)).mono ?_;rintro e w1 ⟨rfl,hb1⟩;have O:=h.od rfl hb1) | (go_at_call 64;refine (CI _ _ _ O.tk.ps (by assumption)).mono ?_;rintro e w2 ⟨rfl,hb2⟩;have O:=O.below hb2;obtain ⟨o0,o1,o2,o3⟩:=O.box.four) | (go_at_call 158;refine (CE _ O.tk.ps (by simp)).mono ?_;rintro e w3 ⟨k,tt,n,p,a1,c1,ks,rfl,rfl,hTN,hTk⟩;have O3:=O.took hTk;obtain ⟨q0,q1,q2,q3,q4⟩:=O3.res.five;obtain ⟨f0,f1,f2,f3,f4⟩:=O3.res.frozen5))
    refine bodyPost_ret (v:=(.agg #[.int .i64 (k),.string ⟨(tt).toArray⟩,.int .i64 (n),.int .i64 (p),.slice a1 ks.len c1])) (by simp [results,Tryz.results140,go_sem,q0,q1,q2,q3,q4]) rfl ?_
    exact PN.five (hTN.mono (Q:=fun g=>W.heap.size < g) fun g hg _=>by (have:=O.box.lt;have:=O.lt;omega)) O3.tk (fun _ e=>e) hlt.2
set_option maxRecDepth 20000 in
set_option maxHeartbeats 4000000 in
theorem opd_num (b m : Nat) (T l : List Tok) (t : Tok) (W : World) (h : PS b m T (t :: l) W) (hc : cls t = 53) : Calls Tryz.prog 140 #[.pointer (some ⟨b,0,none⟩)] W (PN b m T W (.ok (one 4 [] t.v t.p .nil) l)):=by
  have hlt:=h.lt
  have h56 : cls t ≠ 56:=by omega
  have k1 : (t.k == 1) = false:=kne 1 hc (by simp) (by omega)
  have k3 : (t.k == 3) = true:=keq 3 hc rfl (by omega)
  have k4 : (t.k == 4) = false:=kne 4 hc (by simp) (by omega)
  have wt17 : rd t [40] = false:=cls_nrd (c:=17) (by omega) (by decide) (by decide)
  have wt22 : rd t [123] = false:=cls_nrd (c:=22) (by omega) (by decide) (by decide)
  have wt24 : rd t [110,111,116] = false:=cls_nrd (c:=24) (by omega) (by decide) (by decide)
  have wt25 : rd t [35] = false:=cls_nrd (c:=25) (by omega) (by decide) (by decide)
  have wt26 : rd t [45] = false:=cls_nrd (c:=26) (by omega) (by decide) (by decide)
  have wt27 : rd t [110,105,108] = false:=cls_nrd (c:=27) (by omega) (by decide) (by decide)
  have wt28 : rd t [116,114,117,101] = false:=cls_nrd (c:=28) (by omega) (by decide) (by decide)
  have wt29 : rd t [102,97,108,115,101] = false:=cls_nrd (c:=29) (by omega) (by decide) (by decide)
  clear hc
  have CI:=fun w (w' : List UInt8) (v : Bool) h hv=>is_v b m T l t w w' h (v:=v) hv
  go_enter Tryz.func140,Tryz.ntmps140
  go_wp2_with (first | (go_at_call 43;refine (token_any b m T l t _ (h.alloc _)).mono ?_;rintro e w1 ⟨rfl,hb1⟩;have O:=h.od rfl hb1) | (go_at_call 64;refine (CI _ _ _ O.tk.ps (by assumption)).mono ?_;rintro e w2 ⟨rfl,hb2⟩;have O:=O.below hb2;obtain ⟨o0,o1,o2,o3⟩:=O.box.four))
  have O1:=O.drew
  go_region_with (go_at_call 93;refine (take_p b m T l t _ O1.tk.ps h56).mono ?_;rintro e w3 ⟨rfl,hT3⟩;have O3:=O1.took hT3;obtain ⟨s0,s1,s2,s3⟩:=O3.box.four;obtain ⟨q0,q1,q2,q3,q4⟩:=O3.res.five;obtain ⟨f0,f1,f2,f3,f4⟩:=O3.res.frozen5)
  all_goals
    go_wp2
    refine bodyPost_ret (v:=(.agg #[.int .i64 (4),.string ⟨#[]⟩,.int .i64 (t.v),.int .i64 (t.p),.slice none 0 0])) (by simp [results,Tryz.results140,go_sem,q0,q1,q2,q3,q4]) rfl ?_
    exact PN.five (ks:=.nil) (TN.leaf _ _ (fun g=>W.heap.size < g) _ _ _ _) O3.tk (fun _ e=>e) hlt.2
set_option maxRecDepth 20000 in
set_option maxHeartbeats 4000000 in
theorem opd_str (b m : Nat) (T l : List Tok) (t : Tok) (W : World) (h : PS b m T (t :: l) W) (hc : cls t = 54) : Calls Tryz.prog 140 #[.pointer (some ⟨b,0,none⟩)] W (PN b m T W (.ok (one 5 t.t 0 t.p .nil) l)):=by
  have hlt:=h.lt
  have h56 : cls t ≠ 56:=by omega
  have k1 : (t.k == 1) = false:=kne 1 hc (by simp) (by omega)
  have k3 : (t.k == 3) = false:=kne 3 hc (by simp) (by omega)
  have k4 : (t.k == 4) = true:=keq 4 hc rfl (by omega)
  have wt17 : rd t [40] = false:=cls_nrd (c:=17) (by omega) (by decide) (by decide)
  have wt22 : rd t [123] = false:=cls_nrd (c:=22) (by omega) (by decide) (by decide)
  have wt24 : rd t [110,111,116] = false:=cls_nrd (c:=24) (by omega) (by decide) (by decide)
  have wt25 : rd t [35] = false:=cls_nrd (c:=25) (by omega) (by decide) (by decide)
  have wt26 : rd t [45] = false:=cls_nrd (c:=26) (by omega) (by decide) (by decide)
  have wt27 : rd t [110,105,108] = false:=cls_nrd (c:=27) (by omega) (by decide) (by decide)
  have wt28 : rd t [116,114,117,101] = false:=cls_nrd (c:=28) (by omega) (by decide) (by decide)
  have wt29 : rd t [102,97,108,115,101] = false:=cls_nrd (c:=29) (by omega) (by decide) (by decide)
  clear hc
  have CI:=fun w (w' : List UInt8) (v : Bool) h hv=>is_v b m T l t w w' h (v:=v) hv
  go_enter Tryz.func140,Tryz.ntmps140
  go_wp2_with (first | (go_at_call 43;refine (token_any b m T l t _ (h.alloc _)).mono ?_;rintro e w1 ⟨rfl,hb1⟩;have O:=h.od rfl hb1) | (go_at_call 64;refine (CI _ _ _ O.tk.ps (by assumption)).mono ?_;rintro e w2 ⟨rfl,hb2⟩;have O:=O.below hb2;obtain ⟨o0,o1,o2,o3⟩:=O.box.four))
  have O1:=O.drew
  go_region_with (go_at_call 93;refine (take_p b m T l t _ O1.tk.ps h56).mono ?_;rintro e w3 ⟨rfl,hT3⟩;have O3:=O1.took hT3;obtain ⟨s0,s1,s2,s3⟩:=O3.box.four;obtain ⟨q0,q1,q2,q3,q4⟩:=O3.res.five;obtain ⟨f0,f1,f2,f3,f4⟩:=O3.res.frozen5)
  all_goals
    go_wp2
    refine bodyPost_ret (v:=(.agg #[.int .i64 (5),.string ⟨(t.t).toArray⟩,.int .i64 (0),.int .i64 (t.p),.slice none 0 0])) (by simp [results,Tryz.results140,go_sem,q0,q1,q2,q3,q4]) rfl ?_
    exact PN.five (ks:=.nil) (TN.leaf _ _ (fun g=>W.heap.size < g) _ _ _ _) O3.tk (fun _ e=>e) hlt.2
set_option maxRecDepth 20000 in
set_option maxHeartbeats 4000000 in
theorem opd_nil (b m : Nat) (T l : List Tok) (t : Tok) (W : World) (h : PS b m T (t :: l) W) (hc : cls t = 27) : Calls Tryz.prog 140 #[.pointer (some ⟨b,0,none⟩)] W (PN b m T W (.ok (one 1 [] 0 t.p .nil) l)):=by
  have hlt:=h.lt
  have h56 : cls t ≠ 56:=by omega
  have k1 : (t.k == 1) = false:=kne 1 hc (by simp) (by omega)
  have k3 : (t.k == 3) = false:=kne 3 hc (by simp) (by omega)
  have k4 : (t.k == 4) = false:=kne 4 hc (by simp) (by omega)
  have wt17 : rd t [40] = false:=cls_nrd (c:=17) (by omega) (by decide) (by decide)
  have wt22 : rd t [123] = false:=cls_nrd (c:=22) (by omega) (by decide) (by decide)
  have wt24 : rd t [110,111,116] = false:=cls_nrd (c:=24) (by omega) (by decide) (by decide)
  have wt25 : rd t [35] = false:=cls_nrd (c:=25) (by omega) (by decide) (by decide)
  have wt26 : rd t [45] = false:=cls_nrd (c:=26) (by omega) (by decide) (by decide)
  have wt28 : rd t [116,114,117,101] = false:=cls_nrd (c:=28) (by omega) (by decide) (by decide)
  have wt29 : rd t [102,97,108,115,101] = false:=cls_nrd (c:=29) (by omega) (by decide) (by decide)
  have wt27 : rd t [110,105,108] = true:=cls_rd (c:=27) (by omega) (by decide) (by decide)
  clear hc
  have CI:=fun w (w' : List UInt8) (v : Bool) h hv=>is_v b m T l t w w' h (v:=v) hv
  go_enter Tryz.func140,Tryz.ntmps140
  go_wp2_with (first | (go_at_call 43;refine (token_any b m T l t _ (h.alloc _)).mono ?_;rintro e w1 ⟨rfl,hb1⟩;have O:=h.od rfl hb1) | (go_at_call 64;refine (CI _ _ _ O.tk.ps (by assumption)).mono ?_;rintro e w2 ⟨rfl,hb2⟩;have O:=O.below hb2;obtain ⟨o0,o1,o2,o3⟩:=O.box.four) | (go_at_call 93;refine (take_p b m T l t _ O.tk.ps h56).mono ?_;rintro e w3 ⟨rfl,hT3⟩;have O3:=O.took hT3;obtain ⟨q0,q1,q2,q3,q4⟩:=O3.res.five;obtain ⟨f0,f1,f2,f3,f4⟩:=O3.res.frozen5))
  refine bodyPost_ret (v:=(.agg #[.int .i64 (1),.string ⟨#[]⟩,.int .i64 (0),.int .i64 (t.p),.slice none 0 0])) (by simp [results,Tryz.results140,go_sem,q0,q1,q2,q3,q4]) rfl ?_
  exact PN.five (ks:=.nil) (TN.leaf _ _ (fun g=>W.heap.size < g) _ _ _ _) O3.tk (fun _ e=>e) hlt.2
set_option maxRecDepth 20000 in
set_option maxHeartbeats 4000000 in
theorem opd_true (b m : Nat) (T l : List Tok) (t : Tok) (W : World) (h : PS b m T (t :: l) W) (hc : cls t = 28) : Calls Tryz.prog 140 #[.pointer (some ⟨b,0,none⟩)] W (PN b m T W (.ok (one 2 [] 0 t.p .nil) l)):=by
  have hlt:=h.lt
  have h56 : cls t ≠ 56:=by omega
  have k1 : (t.k == 1) = false:=kne 1 hc (by simp) (by omega)
  have k3 : (t.k == 3) = false:=kne 3 hc (by simp) (by omega)
  have k4 : (t.k == 4) = false:=kne 4 hc (by simp) (by omega)
  have wt17 : rd t [40] = false:=cls_nrd (c:=17) (by omega) (by decide) (by decide)
  have wt22 : rd t [123] = false:=cls_nrd (c:=22) (by omega) (by decide) (by decide)
  have wt24 : rd t [110,111,116] = false:=cls_nrd (c:=24) (by omega) (by decide) (by decide)
  have wt25 : rd t [35] = false:=cls_nrd (c:=25) (by omega) (by decide) (by decide)
  have wt26 : rd t [45] = false:=cls_nrd (c:=26) (by omega) (by decide) (by decide)
  have wt27 : rd t [110,105,108] = false:=cls_nrd (c:=27) (by omega) (by decide) (by decide)
  have wt29 : rd t [102,97,108,115,101] = false:=cls_nrd (c:=29) (by omega) (by decide) (by decide)
  have wt28 : rd t [116,114,117,101] = true:=cls_rd (c:=28) (by omega) (by decide) (by decide)
  clear hc
  have CI:=fun w (w' : List UInt8) (v : Bool) h hv=>is_v b m T l t w w' h (v:=v) hv
  go_enter Tryz.func140,Tryz.ntmps140
  go_wp2_with (first | (go_at_call 43;refine (token_any b m T l t _ (h.alloc _)).mono ?_;rintro e w1 ⟨rfl,hb1⟩;have O:=h.od rfl hb1) | (go_at_call 64;refine (CI _ _ _ O.tk.ps (by assumption)).mono ?_;rintro e w2 ⟨rfl,hb2⟩;have O:=O.below hb2;obtain ⟨o0,o1,o2,o3⟩:=O.box.four) | (go_at_call 93;refine (take_p b m T l t _ O.tk.ps h56).mono ?_;rintro e w3 ⟨rfl,hT3⟩;have O3:=O.took hT3;obtain ⟨q0,q1,q2,q3,q4⟩:=O3.res.five;obtain ⟨f0,f1,f2,f3,f4⟩:=O3.res.frozen5))
  refine bodyPost_ret (v:=(.agg #[.int .i64 (2),.string ⟨#[]⟩,.int .i64 (0),.int .i64 (t.p),.slice none 0 0])) (by simp [results,Tryz.results140,go_sem,q0,q1,q2,q3,q4]) rfl ?_
  exact PN.five (ks:=.nil) (TN.leaf _ _ (fun g=>W.heap.size < g) _ _ _ _) O3.tk (fun _ e=>e) hlt.2
set_option maxRecDepth 20000 in
set_option maxHeartbeats 4000000 in
theorem opd_false (b m : Nat) (T l : List Tok) (t : Tok) (W : World) (h : PS b m T (t :: l) W) (hc : cls t = 29) : Calls Tryz.prog 140 #[.pointer (some ⟨b,0,none⟩)] W (PN b m T W (.ok (one 3 [] 0 t.p .nil) l)):=by
  have hlt:=h.lt
  have h56 : cls t ≠ 56:=by omega
  have k1 : (t.k == 1) = false:=kne 1 hc (by simp) (by omega)
  have k3 : (t.k == 3) = false:=kne 3 hc (by simp) (by omega)
  have k4 : (t.k == 4) = false:=kne 4 hc (by simp) (by omega)
  have wt17 : rd t [40] = false:=cls_nrd (c:=17) (by omega) (by decide) (by decide)
  have wt22 : rd t [123] = false:=cls_nrd (c:=22) (by omega) (by decide) (by decide)
  have wt24 : rd t [110,111,116] = false:=cls_nrd (c:=24) (by omega) (by decide) (by decide)
  have wt25 : rd t [35] = false:=cls_nrd (c:=25) (by omega) (by decide) (by decide)
  have wt26 : rd t [45] = false:=cls_nrd (c:=26) (by omega) (by decide) (by decide)
  have wt27 : rd t [110,105,108] = false:=cls_nrd (c:=27) (by omega) (by decide) (by decide)
  have wt28 : rd t [116,114,117,101] = false:=cls_nrd (c:=28) (by omega) (by decide) (by decide)
  have wt29 : rd t [102,97,108,115,101] = true:=cls_rd (c:=29) (by omega) (by decide) (by decide)
  clear hc
  have CI:=fun w (w' : List UInt8) (v : Bool) h hv=>is_v b m T l t w w' h (v:=v) hv
  go_enter Tryz.func140,Tryz.ntmps140
  go_wp2_with (first | (go_at_call 43;refine (token_any b m T l t _ (h.alloc _)).mono ?_;rintro e w1 ⟨rfl,hb1⟩;have O:=h.od rfl hb1) | (go_at_call 64;refine (CI _ _ _ O.tk.ps (by assumption)).mono ?_;rintro e w2 ⟨rfl,hb2⟩;have O:=O.below hb2;obtain ⟨o0,o1,o2,o3⟩:=O.box.four) | (go_at_call 93;refine (take_p b m T l t _ O.tk.ps h56).mono ?_;rintro e w3 ⟨rfl,hT3⟩;have O3:=O.took hT3;obtain ⟨q0,q1,q2,q3,q4⟩:=O3.res.five;obtain ⟨f0,f1,f2,f3,f4⟩:=O3.res.frozen5))
  refine bodyPost_ret (v:=(.agg #[.int .i64 (3),.string ⟨#[]⟩,.int .i64 (0),.int .i64 (t.p),.slice none 0 0])) (by simp [results,Tryz.results140,go_sem,q0,q1,q2,q3,q4]) rfl ?_
  exact PN.five (ks:=.nil) (TN.leaf _ _ (fun g=>W.heap.size < g) _ _ _ _) O3.tk (fun _ e=>e) hlt.2
set_option maxRecDepth 20000 in
set_option maxHeartbeats 4000000 in
theorem opd_not (N : Nat) (H : CC N) (b m : Nat) (T l : List Tok) (t : Tok) (W : World) (h : PS b m T (t :: l) W) (hc : cls t = 24) (hr : pr N .opd l ≠ .out) : Calls Tryz.prog 140 #[.pointer (some ⟨b,0,none⟩)] W (PN b m T W ((pr N .opd l).bind fun f l1=>.ok (one 10 t.t 0 t.p f) l1)):=by
  have hlt:=h.lt
  have h56 : cls t ≠ 56:=by omega
  have k1 : (t.k == 1) = false:=kne 1 hc (by simp) (by omega)
  have k3 : (t.k == 3) = false:=kne 3 hc (by simp) (by omega)
  have k4 : (t.k == 4) = false:=kne 4 hc (by simp) (by omega)
  have wt17 : rd t [40] = false:=cls_nrd (c:=17) (by omega) (by decide) (by decide)
  have wt22 : rd t [123] = false:=cls_nrd (c:=22) (by omega) (by decide) (by decide)
  have wt25 : rd t [35] = false:=cls_nrd (c:=25) (by omega) (by decide) (by decide)
  have wt26 : rd t [45] = false:=cls_nrd (c:=26) (by omega) (by decide) (by decide)
  have wt27 : rd t [110,105,108] = false:=cls_nrd (c:=27) (by omega) (by decide) (by decide)
  have wt28 : rd t [116,114,117,101] = false:=cls_nrd (c:=28) (by omega) (by decide) (by decide)
  have wt29 : rd t [102,97,108,115,101] = false:=cls_nrd (c:=29) (by omega) (by decide) (by decide)
  have wt24 : rd t [110,111,116] = true:=cls_rd (c:=24) (by omega) (by decide) (by decide)
  have CE:=fun W h=>H.opd b m T l W h
  clear hc
  have CI:=fun w (w' : List UInt8) (v : Bool) h hv=>is_v b m T l t w w' h (v:=v) hv
  cases he : pr N .opd l with
  | out=>exact absurd he hr
  | bad p =>
    rw [he] at CE
    go_enter Tryz.func140,Tryz.ntmps140
    go_wp2_with (first | (go_at_call 43;refine (token_any b m T l t _ (h.alloc _)).mono ?_;rintro e w1 ⟨rfl,hb1⟩;have O:=h.od rfl hb1) | (go_at_call 64;refine (CI _ _ _ O.tk.ps (by assumption)).mono ?_;rintro e w2 ⟨rfl,hb2⟩;have O:=O.below hb2;obtain ⟨o0,o1,o2,o3⟩:=O.box.four;obtain ⟨g0,cap0,i0,r1,r2,r3,r4,-⟩:=O.tk.ps.reads;have r5:=O.tk.ps.fz;have hn:=O.next h56 r2))
    have O1:=hn.drew
    obtain ⟨o0,o1,o2,o3⟩:=O1.box.four
    go_region_dies
    all_goals
      refine (CE _ O1.tk.ps (by simp)).mono ?_
      rintro e w3 ⟨he,hk⟩
      unfold refp at he
      subst he
      exact ⟨rfl,rfl,O1.tk.ky.trans hk⟩
  | ok g l3 =>
    rw [he] at CE
    go_enter Tryz.func140,Tryz.ntmps140
    go_wp2_with (first | (go_at_call 43;refine (token_any b m T l t _ (h.alloc _)).mono ?_;rintro e w1 ⟨rfl,hb1⟩;have O:=h.od rfl hb1) | (go_at_call 64;refine (CI _ _ _ O.tk.ps (by assumption)).mono ?_;rintro e w2 ⟨rfl,hb2⟩;have O:=O.below hb2;obtain ⟨o0,o1,o2,o3⟩:=O.box.four;obtain ⟨g0,cap0,i0,r1,r2,r3,r4,-⟩:=O.tk.ps.reads;have r5:=O.tk.ps.fz;have hn:=O.next h56 r2))
    have O1:=hn.drew
    obtain ⟨o0,o1,o2,o3⟩:=O1.box.four
    go_region_with (go_at_call 140;refine (CE _ O1.tk.ps (by simp)).mono ?_;rintro e w3 ⟨k,tt,n,p,a1,c1,ks,rfl,rfl,hTN,hTk⟩;have O3:=O1.took hTk;obtain ⟨s0,s1,s2,s3⟩:=O3.box.four;obtain ⟨u0,u1,u2,u3⟩:=(O3.alloc (.cells #[.int .i64 (k),.string ⟨(tt).toArray⟩,.int .i64 (n),.int .i64 (p),.slice a1 ks.len c1] 54)).box.four;obtain ⟨q0,q1,q2,q3,q4⟩:=O3.res.fiveA;obtain ⟨f0,f1,f2,f3,f4⟩:=O3.res.frozen5A)
    all_goals
      go_wp2
      have hx:=O1.box.lt
      have hy:=O1.lt
      have hz:=O3.box.lt
      refine bodyPost_ret (v:=(.agg #[.int .i64 (10),.string ⟨(t.t).toArray⟩,.int .i64 (0),.int .i64 (t.p),.slice (some ⟨w3.heap.size,0,none⟩) 1 1])) (by simp [results,Tryz.results140,go_sem,q0,q1,q2,q3,q4]) rfl ?_
      exact PN.five (TN.made (cur:=#[.int .i64 k,.string ⟨tt.toArray⟩,.int .i64 n,.int .i64 p,.slice a1 ks.len c1]) (c:=1) (Q:=fun g=>W.heap.size < g) (hTN.kf.mono fun g hg _=>by omega) (by omega) rfl (by unfold maxLen;omega) 10 t.t 0 t.p) (O3.tk.alloc _) (fun _ e=>e) hlt.2
set_option maxRecDepth 20000 in
set_option maxHeartbeats 4000000 in
theorem opd_len (N : Nat) (H : CC N) (b m : Nat) (T l : List Tok) (t : Tok) (W : World) (h : PS b m T (t :: l) W) (hc : cls t = 25) (hr : pr N .opd l ≠ .out) : Calls Tryz.prog 140 #[.pointer (some ⟨b,0,none⟩)] W (PN b m T W ((pr N .opd l).bind fun f l1=>.ok (one 10 t.t 0 t.p f) l1)):=by
  have hlt:=h.lt
  have h56 : cls t ≠ 56:=by omega
  have k1 : (t.k == 1) = false:=kne 1 hc (by simp) (by omega)
  have k3 : (t.k == 3) = false:=kne 3 hc (by simp) (by omega)
  have k4 : (t.k == 4) = false:=kne 4 hc (by simp) (by omega)
  have wt17 : rd t [40] = false:=cls_nrd (c:=17) (by omega) (by decide) (by decide)
  have wt22 : rd t [123] = false:=cls_nrd (c:=22) (by omega) (by decide) (by decide)
  have wt24 : rd t [110,111,116] = false:=cls_nrd (c:=24) (by omega) (by decide) (by decide)
  have wt26 : rd t [45] = false:=cls_nrd (c:=26) (by omega) (by decide) (by decide)
  have wt27 : rd t [110,105,108] = false:=cls_nrd (c:=27) (by omega) (by decide) (by decide)
  have wt28 : rd t [116,114,117,101] = false:=cls_nrd (c:=28) (by omega) (by decide) (by decide)
  have wt29 : rd t [102,97,108,115,101] = false:=cls_nrd (c:=29) (by omega) (by decide) (by decide)
  have wt25 : rd t [35] = true:=cls_rd (c:=25) (by omega) (by decide) (by decide)
  have CE:=fun W h=>H.opd b m T l W h
  clear hc
  have CI:=fun w (w' : List UInt8) (v : Bool) h hv=>is_v b m T l t w w' h (v:=v) hv
  cases he : pr N .opd l with
  | out=>exact absurd he hr
  | bad p =>
    rw [he] at CE
    go_enter Tryz.func140,Tryz.ntmps140
    go_wp2_with (first | (go_at_call 43;refine (token_any b m T l t _ (h.alloc _)).mono ?_;rintro e w1 ⟨rfl,hb1⟩;have O:=h.od rfl hb1) | (go_at_call 64;refine (CI _ _ _ O.tk.ps (by assumption)).mono ?_;rintro e w2 ⟨rfl,hb2⟩;have O:=O.below hb2;obtain ⟨o0,o1,o2,o3⟩:=O.box.four;obtain ⟨g0,cap0,i0,r1,r2,r3,r4,-⟩:=O.tk.ps.reads;have r5:=O.tk.ps.fz;have hn:=O.next h56 r2))
    have O1:=hn.drew
    obtain ⟨o0,o1,o2,o3⟩:=O1.box.four
    go_region_dies
    all_goals
      refine (CE _ O1.tk.ps (by simp)).mono ?_
      rintro e w3 ⟨he,hk⟩
      unfold refp at he
      subst he
      exact ⟨rfl,rfl,O1.tk.ky.trans hk⟩
  | ok g l3 =>
    rw [he] at CE
    go_enter Tryz.func140,Tryz.ntmps140
    go_wp2_with (first | (go_at_call 43;refine (token_any b m T l t _ (h.alloc _)).mono ?_;rintro e w1 ⟨rfl,hb1⟩;have O:=h.od rfl hb1) | (go_at_call 64;refine (CI _ _ _ O.tk.ps (by assumption)).mono ?_;rintro e w2 ⟨rfl,hb2⟩;have O:=O.below hb2;obtain ⟨o0,o1,o2,o3⟩:=O.box.four;obtain ⟨g0,cap0,i0,r1,r2,r3,r4,-⟩:=O.tk.ps.reads;have r5:=O.tk.ps.fz;have hn:=O.next h56 r2))
    have O1:=hn.drew
    obtain ⟨o0,o1,o2,o3⟩:=O1.box.four
    go_region_with (go_at_call 140;refine (CE _ O1.tk.ps (by simp)).mono ?_;rintro e w3 ⟨k,tt,n,p,a1,c1,ks,rfl,rfl,hTN,hTk⟩;have O3:=O1.took hTk;obtain ⟨s0,s1,s2,s3⟩:=O3.box.four;obtain ⟨u0,u1,u2,u3⟩:=(O3.alloc (.cells #[.int .i64 (k),.string ⟨(tt).toArray⟩,.int .i64 (n),.int .i64 (p),.slice a1 ks.len c1] 54)).box.four;obtain ⟨q0,q1,q2,q3,q4⟩:=O3.res.fiveA;obtain ⟨f0,f1,f2,f3,f4⟩:=O3.res.frozen5A)
    all_goals
      go_wp2
      have hx:=O1.box.lt
      have hy:=O1.lt
      have hz:=O3.box.lt
      refine bodyPost_ret (v:=(.agg #[.int .i64 (10),.string ⟨(t.t).toArray⟩,.int .i64 (0),.int .i64 (t.p),.slice (some ⟨w3.heap.size,0,none⟩) 1 1])) (by simp [results,Tryz.results140,go_sem,q0,q1,q2,q3,q4]) rfl ?_
      exact PN.five (TN.made (cur:=#[.int .i64 k,.string ⟨tt.toArray⟩,.int .i64 n,.int .i64 p,.slice a1 ks.len c1]) (c:=1) (Q:=fun g=>W.heap.size < g) (hTN.kf.mono fun g hg _=>by omega) (by omega) rfl (by unfold maxLen;omega) 10 t.t 0 t.p) (O3.tk.alloc _) (fun _ e=>e) hlt.2
set_option maxRecDepth 20000 in
set_option maxHeartbeats 4000000 in
theorem opd_neg (N : Nat) (H : CC N) (b m : Nat) (T l : List Tok) (t : Tok) (W : World) (h : PS b m T (t :: l) W) (hc : cls t = 26) (hr : pr N .opd l ≠ .out) : Calls Tryz.prog 140 #[.pointer (some ⟨b,0,none⟩)] W (PN b m T W ((pr N .opd l).bind fun f l1=>.ok (one 10 t.t 0 t.p f) l1)):=by
  have hlt:=h.lt
  have h56 : cls t ≠ 56:=by omega
  have k1 : (t.k == 1) = false:=kne 1 hc (by simp) (by omega)
  have k3 : (t.k == 3) = false:=kne 3 hc (by simp) (by omega)
  have k4 : (t.k == 4) = false:=kne 4 hc (by simp) (by omega)
  have wt17 : rd t [40] = false:=cls_nrd (c:=17) (by omega) (by decide) (by decide)
  have wt22 : rd t [123] = false:=cls_nrd (c:=22) (by omega) (by decide) (by decide)
  have wt24 : rd t [110,111,116] = false:=cls_nrd (c:=24) (by omega) (by decide) (by decide)
  have wt25 : rd t [35] = false:=cls_nrd (c:=25) (by omega) (by decide) (by decide)
  have wt27 : rd t [110,105,108] = false:=cls_nrd (c:=27) (by omega) (by decide) (by decide)
  have wt28 : rd t [116,114,117,101] = false:=cls_nrd (c:=28) (by omega) (by decide) (by decide)
  have wt29 : rd t [102,97,108,115,101] = false:=cls_nrd (c:=29) (by omega) (by decide) (by decide)
  have wt26 : rd t [45] = true:=cls_rd (c:=26) (by omega) (by decide) (by decide)
  have CE:=fun W h=>H.opd b m T l W h
  clear hc
  have CI:=fun w (w' : List UInt8) (v : Bool) h hv=>is_v b m T l t w w' h (v:=v) hv
  cases he : pr N .opd l with
  | out=>exact absurd he hr
  | bad p =>
    rw [he] at CE
    go_enter Tryz.func140,Tryz.ntmps140
    go_wp2_with (first | (go_at_call 43;refine (token_any b m T l t _ (h.alloc _)).mono ?_;rintro e w1 ⟨rfl,hb1⟩;have O:=h.od rfl hb1) | (go_at_call 64;refine (CI _ _ _ O.tk.ps (by assumption)).mono ?_;rintro e w2 ⟨rfl,hb2⟩;have O:=O.below hb2;obtain ⟨o0,o1,o2,o3⟩:=O.box.four;obtain ⟨g0,cap0,i0,r1,r2,r3,r4,-⟩:=O.tk.ps.reads;have r5:=O.tk.ps.fz;have hn:=O.next h56 r2))
    have O1:=hn.drew
    obtain ⟨o0,o1,o2,o3⟩:=O1.box.four
    go_region_dies
    all_goals
      refine (CE _ O1.tk.ps (by simp)).mono ?_
      rintro e w3 ⟨he,hk⟩
      unfold refp at he
      subst he
      exact ⟨rfl,rfl,O1.tk.ky.trans hk⟩
  | ok g l3 =>
    rw [he] at CE
    go_enter Tryz.func140,Tryz.ntmps140
    go_wp2_with (first | (go_at_call 43;refine (token_any b m T l t _ (h.alloc _)).mono ?_;rintro e w1 ⟨rfl,hb1⟩;have O:=h.od rfl hb1) | (go_at_call 64;refine (CI _ _ _ O.tk.ps (by assumption)).mono ?_;rintro e w2 ⟨rfl,hb2⟩;have O:=O.below hb2;obtain ⟨o0,o1,o2,o3⟩:=O.box.four;obtain ⟨g0,cap0,i0,r1,r2,r3,r4,-⟩:=O.tk.ps.reads;have r5:=O.tk.ps.fz;have hn:=O.next h56 r2))
    have O1:=hn.drew
    obtain ⟨o0,o1,o2,o3⟩:=O1.box.four
    go_region_with (go_at_call 140;refine (CE _ O1.tk.ps (by simp)).mono ?_;rintro e w3 ⟨k,tt,n,p,a1,c1,ks,rfl,rfl,hTN,hTk⟩;have O3:=O1.took hTk;obtain ⟨s0,s1,s2,s3⟩:=O3.box.four;obtain ⟨u0,u1,u2,u3⟩:=(O3.alloc (.cells #[.int .i64 (k),.string ⟨(tt).toArray⟩,.int .i64 (n),.int .i64 (p),.slice a1 ks.len c1] 54)).box.four;obtain ⟨q0,q1,q2,q3,q4⟩:=O3.res.fiveA;obtain ⟨f0,f1,f2,f3,f4⟩:=O3.res.frozen5A)
    all_goals
      go_wp2
      have hx:=O1.box.lt
      have hy:=O1.lt
      have hz:=O3.box.lt
      refine bodyPost_ret (v:=(.agg #[.int .i64 (10),.string ⟨(t.t).toArray⟩,.int .i64 (0),.int .i64 (t.p),.slice (some ⟨w3.heap.size,0,none⟩) 1 1])) (by simp [results,Tryz.results140,go_sem,q0,q1,q2,q3,q4]) rfl ?_
      exact PN.five (TN.made (cur:=#[.int .i64 k,.string ⟨tt.toArray⟩,.int .i64 n,.int .i64 p,.slice a1 ks.len c1]) (c:=1) (Q:=fun g=>W.heap.size < g) (hTN.kf.mono fun g hg _=>by omega) (by omega) rfl (by unfold maxLen;omega) 10 t.t 0 t.p) (O3.tk.alloc _) (fun _ e=>e) hlt.2
set_option maxRecDepth 20000 in
set_option maxHeartbeats 4000000 in
theorem opd_bad (b m : Nat) (T l : List Tok) (t : Tok) (W : World) (h : PS b m T (t :: l) W) (c : Nat) (hc : cls t = c) (hn : c ≠ 51 ∧ c ≠ 17 ∧ c ≠ 22 ∧ c ≠ 24 ∧ c ≠ 25 ∧ c ≠ 26 ∧ c ≠ 53 ∧ c ≠ 54 ∧ c ≠ 27 ∧ c ≠ 28 ∧ c ≠ 29) : Calls Tryz.prog 140 #[.pointer (some ⟨b,0,none⟩)] W (PN b m T W (.bad t.p)):=by
  have k1 : (t.k == 1) = false:=kne 1 hc (by simp) (by omega)
  have k3 : (t.k == 3) = false:=kne 3 hc (by simp) (by omega)
  have k4 : (t.k == 4) = false:=kne 4 hc (by simp) (by omega)
  have wt17 : rd t [40] = false:=cls_nrd (c:=17) (by omega) (by decide) (by decide)
  have wt22 : rd t [123] = false:=cls_nrd (c:=22) (by omega) (by decide) (by decide)
  have wt24 : rd t [110,111,116] = false:=cls_nrd (c:=24) (by omega) (by decide) (by decide)
  have wt25 : rd t [35] = false:=cls_nrd (c:=25) (by omega) (by decide) (by decide)
  have wt26 : rd t [45] = false:=cls_nrd (c:=26) (by omega) (by decide) (by decide)
  have wt27 : rd t [110,105,108] = false:=cls_nrd (c:=27) (by omega) (by decide) (by decide)
  have wt28 : rd t [116,114,117,101] = false:=cls_nrd (c:=28) (by omega) (by decide) (by decide)
  have wt29 : rd t [102,97,108,115,101] = false:=cls_nrd (c:=29) (by omega) (by decide) (by decide)
  have CI:=fun w (w' : List UInt8) (v : Bool) h hv=>is_v b m T l t w w' h (v:=v) hv
  clear hn hc
  go_enter Tryz.func140,Tryz.ntmps140
  go_wp2_with (first | (go_at_call 43;refine (token_any b m T l t _ (h.alloc _)).mono ?_;rintro e w1 ⟨rfl,hb1⟩;have O:=h.od rfl hb1) | (go_at_call 64;refine (CI _ _ _ O.tk.ps (by assumption)).mono ?_;rintro e w2 ⟨rfl,hb2⟩;have O:=O.below hb2;obtain ⟨o0,o1,o2,o3⟩:=O.box.four) | (go_at_call 44;refine (refuse_p _ _).mono ?_;rintro e w3 ⟨he,hb3⟩;unfold refp at he;subst he))
  exact ⟨rfl,rfl,O.tk.ky.trans (.of_below hb3)⟩
theorem operand_any (N : Nat) (H : ∀ n,n ≤ N → CC n) (b m : Nat) (T l : List Tok) (W : World) (h : PS b m T l W) (hr : pr (N + 1) .opd l ≠ .out) : Calls Tryz.prog 140 #[.pointer (some ⟨b,0,none⟩)] W (PN b m T W (pr (N + 1) .opd l)):=by
  obtain ⟨t,l1,rfl⟩:=h.cons
  rw [pr_succ] at hr ⊢
  simp only [stp',show hc (t :: l1) = cls t from rfl,show ha (t :: l1) = t.p from rfl,show ht (t :: l1) = t.t from rfl,show hv (t :: l1) = t.v from rfl,List.tail_cons] at hr ⊢
  obtain ⟨c,hc'⟩ : ∃ c,cls t = c:=⟨_,rfl⟩
  rw [hc'] at hr ⊢
  by_cases h1 : c = 51 ∨ c = 17
  · rw [if_pos h1] at hr ⊢
    rcases h1 with rfl | rfl
    · exact opd_name N (H N (Nat.le_refl _)) b m T l1 t W h hc' hr
    · exact opd_par N (H N (Nat.le_refl _)) b m T l1 t W h hc' hr
  rw [if_neg h1] at hr ⊢
  by_cases h2 : c = 22
  · rw [if_pos h2] at hr ⊢
    exact opd_tab N H b m T l1 t W h (hc'.trans h2) hr
  rw [if_neg h2] at hr ⊢
  by_cases h3 : c = 24 ∨ c = 25 ∨ c = 26
  · rw [if_pos h3] at hr ⊢
    rcases h3 with rfl | rfl | rfl
    · exact opd_not N (H N (Nat.le_refl _)) b m T l1 t W h hc' (bind_out hr)
    · exact opd_len N (H N (Nat.le_refl _)) b m T l1 t W h hc' (bind_out hr)
    · exact opd_neg N (H N (Nat.le_refl _)) b m T l1 t W h hc' (bind_out hr)
  rw [if_neg h3] at hr ⊢
  by_cases h4 : c = 53
  · rw [if_pos h4];exact opd_num b m T l1 t W h (hc'.trans h4)
  rw [if_neg h4]
  by_cases h5 : c = 54
  · rw [if_pos h5];exact opd_str b m T l1 t W h (hc'.trans h5)
  rw [if_neg h5]
  by_cases h6 : c = 27
  · rw [if_pos h6];exact opd_nil b m T l1 t W h (hc'.trans h6)
  rw [if_neg h6]
  by_cases h7 : c = 28
  · rw [if_pos h7];exact opd_true b m T l1 t W h (hc'.trans h7)
  rw [if_neg h7]
  by_cases h8 : c = 29
  · rw [if_pos h8];exact opd_false b m T l1 t W h (hc'.trans h8)
  rw [if_neg h8]
  exact opd_bad b m T l1 t W h c hc' (by omega)
end Go.Proofs.YtkjbgggghigapaaGreat
