/- The walk of fixed: the document's first example of the walk. -/
import Derived.Test.YtoomlihccniooaaGreatCg48
import Derived.Deep.RegionHeld3
namespace Go.Proofs.YtoomlihccniooaaGreat.Q
open Go.RowKit

abbrev kS (s : ByteArray) : V := (3, 0, s)
def vS0 : H.St := nS (H.newSt 400000) 3 1
def vT0 : TS := newT 3 1 (H.takeId (H.takeSt (H.newSt 400000) 4) ((3 : Nat) : Int)) (H.takeId (H.takeSt (H.takeSt (H.newSt 400000) 4) ((3 : Nat) : Int)) (3 * ((1 : Nat) : Int)))
def bnx (q : TS × H.St) (k v : V) : TS × H.St := ((tset q.1 q.2 k v).1, (tset q.1 q.2 k v).2.1)
def vq1 := bnx (vT0, vS0) (kn 1) (kS ⟨#[97]⟩)
def vq2 := bnx vq1 (kn 3) (kS ⟨#[99]⟩)
def vq3 := bnx vq2 (kS ⟨#[120]⟩) (kn 1)
theorem vq_next : wnx vq3.1.p (kn 1) = (kn 3, kS ⟨#[99]⟩, 0) ∧ wnx vq3.1.p (kn 3) = (kS ⟨#[120]⟩, kn 1, 0) ∧ wnx vq3.1.p (kS ⟨#[121]⟩) = (nil, nil, 9) ∧ (wl vq3.1.p).length = 3 := ⟨by kernel_rfl, by kernel_rfl, by kernel_rfl, by kernel_rfl⟩
/-- A table that was made behind the world w, its parts those of q. -/
structure Fb (P : Nat → Prop) (w : World) (T S hb c : Nat) (p : Pa) (s : H.St) (W : World) : Prop where
  tt : ∃ A b a t, t.p = p ∧ TT P W T A b a S hb c t s
  lo : ∀ g, g < w.heap.size → P g
  bel : Below w.heap.size w W
theorem Fb.below {P : Nat → Prop} {w W W' : World} {T S hb c : Nat} {p : Pa} {s : H.St} (h : Fb P w T S hb c p s W) (k : Below W.heap.size W W') : Fb P w T S hb c p s W' := by
  obtain ⟨A, b, a, t, e, ht⟩ := h.tt
  exact ⟨⟨A, b, a, t, e, ht.below k⟩, h.lo, bthen h.bel h.bel.size k⟩
theorem Fb.news {P : Nat → Prop} {w W W' : World} {T S hb c : Nat} {p : Pa} {s : H.St} (h : Fb P w T S hb c p s W) (k : Below W.heap.size W W') : Fb (fun g => P g ∨ (W.heap.size ≤ g ∧ g < W'.heap.size)) w T S hb c p s W' := by
  obtain ⟨A, b, a, t, e, ht⟩ := h.tt
  exact ⟨⟨A, b, a, t, e, ht.news k⟩, fun g q => .inl (h.lo g q), bthen h.bel h.bel.size k⟩
theorem Fb.next {P : Nat → Prop} {w W : World} {T S hb c : Nat} {p : Pa} {s : H.St} (h : Fb P w T S hb c p s W) (hc : c ≤ 700000) (k : V) (hr : Rng k) :
    Calls Tryz.prog 22 #[tp T, vv k] W fun e w' => e = .returned (.tuple #[vv (wnx p k).1, vv (wnx p k).2.1, .int .i64 (wnx p k).2.2]) ∧ Fb P w T S hb (c + 1) p s w' ∧ Keep P W w' := by
  obtain ⟨A, b, a, t, e, ht⟩ := h.tt
  refine (next_any ht hc k hr).mono ?_
  rintro e' w' ⟨rfl, h', kk⟩
  exact ⟨by rw [e], ⟨⟨A, b, a, { t with pr := t.pr + (if fm k = true ∧ k.1 ≠ 0 then prd t.p k else 0 : Nat) }, e, h'⟩, h.lo, h.bel.trans (kk.below h.bel.size (fun g hg => h.lo g hg))⟩, kk⟩
theorem Fb.list {P : Nat → Prop} {w W : World} {T S hb c : Nat} {p : Pa} {s : H.St} (h : Fb P w T S hb c p s W) :
    Calls Tryz.prog 25 #[tp T] W fun e w' => ∃ v, e = .returned v ∧ w'.ownsRow W.heap.size 104 6 v (wl p).length (cPs (wl p)) ∧ Below W.heap.size W w' := by
  obtain ⟨A, b, a, t, e, ht⟩ := h.tt
  have q := list_any ht.tm ht.ti
  rw [e] at q
  exact q
theorem set_fb {w W : World} {T A b a S hb c : Nat} {q : TS × H.St} (ht : TT (fun g => g < w.heap.size) W T A b a S hb c q.1 q.2) (hb' : Below w.heap.size w W) (hc : c ≤ 700000) (k v : V) (hr : Rng k) :
    Calls Tryz.prog 7 #[tp T, vv k, vv v] W fun e w' => (∃ x : Int, e = .returned (.int .i64 x)) ∧ (∃ A b a, TT (fun g => g < w.heap.size) w' T A b a S hb (c + 7) (bnx q k v).1 (bnx q k v).2) ∧ Below w.heap.size w w' := by
  refine (tset_any ht hc k v hr).mono ?_
  rintro e w' ⟨rfl, h', kk⟩
  exact ⟨⟨_, rfl⟩, h', hb'.trans (kk.below hb'.size (fun g hg => hg))⟩
theorem begin_fb (w : World) : Calls Tryz.prog 21 #[cw 3 1 (.slice none 0 0)] w fun e w' => ∃ T A b a S hb RT, e = .returned (.tuple #[tp T, tp RT, .bool true]) ∧ TT (fun g => g < w.heap.size) w' T A b a S hb 3 vT0 vS0 ∧ Below w.heap.size w w' := by
  refine (begin_any 3 1 (.slice none 0 0) w).mono ?_
  rintro e w' ⟨T, A, b, a, S, hb, RT, t, s, rfl, tt, bw, st, et, es, ok, e1, e2⟩
  have z3 : sz 3 = 3 := by kernel_rfl
  have z1 : sz 1 = 1 := by kernel_rfl
  have hn : t.p.n = 3 := by have := ok.ex; rw [z3] at this; omega
  have hz : t.p.z = 1 := by
    obtain ⟨m, hm, _, hz⟩ := ok.hy
    have hm0 : m = 1 := by rw [z1] at hm; omega
    subst hm0
    have : C.up2 ((1 : Nat) : Int) = 1 := by kernel_rfl
    rw [this] at hz; omega
  have e3 : t = vT0 := by
    rw [et, hn, hz, e1, e2, hn, hz]; rfl
  have e4 : s = vS0 := by rw [es, z3, z1]; rfl
  rw [e3, e4] at tt
  exact ⟨T, A, b, a, S, hb, RT, rfl, tt, bw⟩
theorem rng_S (s : ByteArray) : Rng (kS s) := by constructor <;> simp
theorem rng_1 (n : Int) (h0 : 0 ≤ n) (h1 : n ≤ 1000) : Rng (kn n) := by constructor <;> simp <;> omega
theorem rowLen {W : World} {base e size : Nat} {v : Value} {k : Nat} {xs : List Value} (h : W.ownsRow base e size v k xs) : ∃ a c, v = .slice a k c := by
  rcases h.2 with ⟨rfl, rfl⟩ | ⟨g, cap, cur, rfl, _⟩
  · exact ⟨_, _, rfl⟩
  · exact ⟨_, _, rfl⟩
set_option maxRecDepth 20000 in
set_option maxHeartbeats 4000000 in
theorem fixed_any (w : World) : Calls Tryz.prog 20 #[] w fun e w' => e = .returned (.bool true) ∧ Below w.heap.size w w' := by
  have C1 := begin_fb w
  have HI : Hid (∀ (n : Int) W, Calls Tryz.prog 27 #[.int .i64 n] W fun e w' => e = .returned (.agg #[.int .i64 2, .int .i64 n, .string ⟨#[]⟩]) ∧ Below W.heap.size W w') := fun n W => mkI n W
  have HS : Hid (∀ (s : ByteArray) W, Calls Tryz.prog 51 #[.string s] W fun e w' => e = .returned (.agg #[.int .i64 3, .int .i64 0, .string s]) ∧ Below W.heap.size W w') := fun s W => mkS s W
  have HT : Hid (∀ {W : World} {T A b a S hb c : Nat} {q : TS × H.St} (_ : TT (fun g => g < w.heap.size) W T A b a S hb c q.1 q.2) (_ : Below w.heap.size w W) (_ : c ≤ 700000) (k v : V) (_ : Rng k), Calls Tryz.prog 7 #[.pointer (some ⟨T, 0, none⟩), .agg #[.int .i64 k.1, .int .i64 k.2.1, .string k.2.2], .agg #[.int .i64 v.1, .int .i64 v.2.1, .string v.2.2]] W fun e w' => (∃ x : Int, e = .returned (.int .i64 x)) ∧ (∃ A b a, TT (fun g => g < w.heap.size) w' T A b a S hb (c + 7) (bnx q k v).1 (bnx q k v).2) ∧ Below w.heap.size w w') := fun ht hb' hc k v hr => set_fb ht hb' hc k v hr
  obtain ⟨n1, n3, ny, hlen⟩ := vq_next
  unfold cw tp at C1
  go_enter Tryz.func20, Tryz.ntmps20
  go_wp2_with fail
  refine C1.mono ?_; rintro e W1 ⟨T, A, b, a, S, hb, RT, rfl, tt1, k1⟩
  have H1 : Hid (TT (fun g => g < w.heap.size) W1 T A b a S hb 3 vT0 vS0 ∧ Below w.heap.size w W1) := ⟨tt1, k1⟩
  have C2 := HI.out 1 W1
  clear C1 tt1 k1
  go_wp2_with fail
  refine C2.mono ?_; rintro e W2 ⟨rfl, k2⟩
  have C3 := HS.out ⟨#[97]⟩ W2
  have H2 : Hid (TT (fun g => g < w.heap.size) W2 T A b a S hb 3 vT0 vS0 ∧ Below w.heap.size w W2) := ⟨H1.out.1.below k2, bthen H1.out.2 H1.out.2.size k2⟩
  clear C2 k2 H1
  go_wp2_with fail
  refine C3.mono ?_; rintro e W3 ⟨rfl, k3⟩
  have C4 := HT.out (q := (vT0, vS0)) (H2.out.1.below k3) (bthen H2.out.2 H2.out.2.size k3) (by omega) (kn 1) (kS ⟨#[97]⟩) (rng_1 1 (by omega) (by omega))
  clear C3 k3 H2
  go_wp2_with fail
  refine C4.mono ?_; rintro e W4 ⟨⟨x4, rfl⟩, ⟨A, b, a, tt4⟩, k4⟩
  have H4 : Hid (TT (fun g => g < w.heap.size) W4 T A b a S hb 10 vq1.1 vq1.2 ∧ Below w.heap.size w W4) := ⟨tt4, k4⟩
  have C5 := HI.out 3 W4
  clear C4 tt4 k4
  go_wp2_with fail
  refine C5.mono ?_; rintro e W5 ⟨rfl, k5⟩
  have C6 := HS.out ⟨#[99]⟩ W5
  have H5 : Hid (TT (fun g => g < w.heap.size) W5 T A b a S hb 10 vq1.1 vq1.2 ∧ Below w.heap.size w W5) := ⟨H4.out.1.below k5, bthen H4.out.2 H4.out.2.size k5⟩
  clear C5 k5 H4
  go_wp2_with fail
  refine C6.mono ?_; rintro e W6 ⟨rfl, k6⟩
  have C7 := HT.out (q := vq1) (H5.out.1.below k6) (bthen H5.out.2 H5.out.2.size k6) (by omega) (kn 3) (kS ⟨#[99]⟩) (rng_1 3 (by omega) (by omega))
  clear C6 k6 H5
  go_wp2_with fail
  refine C7.mono ?_; rintro e W7 ⟨⟨x7, rfl⟩, ⟨A, b, a, tt7⟩, k7⟩
  have H7 : Hid (TT (fun g => g < w.heap.size) W7 T A b a S hb 17 vq2.1 vq2.2 ∧ Below w.heap.size w W7) := ⟨tt7, k7⟩
  have C8 := HS.out ⟨#[120]⟩ W7
  clear C7 tt7 k7
  go_wp2_with fail
  refine C8.mono ?_; rintro e W8 ⟨rfl, k8⟩
  have C9 := HI.out 1 W8
  have H8 : Hid (TT (fun g => g < w.heap.size) W8 T A b a S hb 17 vq2.1 vq2.2 ∧ Below w.heap.size w W8) := ⟨H7.out.1.below k8, bthen H7.out.2 H7.out.2.size k8⟩
  clear C8 k8 H7
  go_wp2_with fail
  refine C9.mono ?_; rintro e W9 ⟨rfl, k9⟩
  have Ca := HT.out (q := vq2) (H8.out.1.below k9) (bthen H8.out.2 H8.out.2.size k9) (by omega) (kS ⟨#[120]⟩) (kn 1) (rng_S _)
  clear C9 k9 H8
  go_wp2_with fail
  refine Ca.mono ?_; rintro e Wa ⟨⟨xa, rfl⟩, ⟨A, b, a, tta⟩, ka⟩
  have Ha : Fb (fun g => g < w.heap.size) w T S hb 24 vq3.1.p vq3.2 Wa := ⟨⟨A, b, a, vq3.1, rfl, tta⟩, fun g q => q, ka⟩
  have Cb := HI.out 1 Wa
  have HFa : Hid _ := Ha
  clear Ca tta ka Ha
  generalize vq3.1.p = p at *
  generalize vq3.2 = s at *
  go_wp2_with fail
  refine Cb.mono ?_; rintro e Wb ⟨rfl, kb⟩
  have Cc := (HFa.out.below kb).next (by omega) (kn 1) (rng_1 1 (by omega) (by omega))
  rw [n1] at Cc
  unfold vv vl tp at Cc
  clear Cb kb
  go_wp2_with fail
  refine Cc.mono ?_; rintro e Wc ⟨rfl, fc, _⟩
  have b4 := Box2.made Wc ((kn 3, kS ⟨#[99]⟩) : V × V)
  have kn4 := b2 Wc (.cells #[.int .i64 2, .int .i64 3, .string ⟨#[]⟩] 31) (.cells #[.int .i64 3, .int .i64 0, .string ⟨#[99]⟩] 31)
  have fd := fc.news kn4
  have sz4 : ((Wc.alloc (.cells #[.int .i64 2, .int .i64 3, .string ⟨#[]⟩] 31)).alloc (.cells #[.int .i64 3, .int .i64 0, .string ⟨#[99]⟩] 31)).heap.size = Wc.heap.size + 2 := by simp
  obtain ⟨Wd, hWd⟩ : ∃ Wd, (Wc.alloc (.cells #[.int .i64 2, .int .i64 3, .string ⟨#[]⟩] 31)).alloc (.cells #[.int .i64 3, .int .i64 0, .string ⟨#[99]⟩] 31) = Wd := ⟨_, rfl⟩
  have b4' : Box2 Wd Wc.heap.size ((kn 3, kS ⟨#[99]⟩) : V × V) := by rw [← hWd]; exact b4
  rw [hWd] at fd sz4
  have HP1 : Hid ((fun g => g < w.heap.size ∨ (Wc.heap.size ≤ g ∧ g < Wd.heap.size)) Wc.heap.size ∧ (fun g => g < w.heap.size ∨ (Wc.heap.size ≤ g ∧ g < Wd.heap.size)) (Wc.heap.size + 1)) := ⟨.inr ⟨by omega, by omega⟩, .inr ⟨by omega, by omega⟩⟩
  have HFd : Hid (Fb (fun g => g < w.heap.size ∨ (Wc.heap.size ≤ g ∧ g < Wd.heap.size)) w T S hb 25 p s Wd ∧ Box2 Wd Wc.heap.size ((kn 3, kS ⟨#[99]⟩) : V × V)) := ⟨fd, b4'⟩
  have Cd := HI.out 3 Wd
  clear Cc fc b4 kn4 fd sz4 b4' HFa
  generalize (fun g => g < w.heap.size ∨ (Wc.heap.size ≤ g ∧ g < Wd.heap.size)) = P1 at *
  go_wp2_with fail
  refine Cd.mono ?_; rintro e We ⟨rfl, ke⟩
  have Ce := (HFd.out.1.below ke).next (by omega) (kn 3) (rng_1 3 (by omega) (by omega))
  rw [n3] at Ce
  unfold vv vl tp at Ce
  have HBe : Hid (Box2 We Wc.heap.size ((kn 3, kS ⟨#[99]⟩) : V × V)) := HFd.out.2.kept (Ks := P1) (Keep.of ke) HP1.out.1 HP1.out.2
  clear Cd ke HFd
  go_wp2_with fail
  refine Ce.mono ?_; rintro e Wf ⟨rfl, ff, kf⟩
  have hb4 := HBe.out.kept kf HP1.out.1 HP1.out.2
  have b7 := Box2.made Wf ((kS ⟨#[120]⟩, kn 1) : V × V)
  have kn7 := b2 Wf (.cells #[.int .i64 3, .int .i64 0, .string ⟨#[120]⟩] 31) (.cells #[.int .i64 2, .int .i64 1, .string ⟨#[]⟩] 31)
  have fg := ff.news kn7
  have hb4g := hb4.kept (Ks := P1) (Keep.of kn7) HP1.out.1 HP1.out.2
  have sz7 : ((Wf.alloc (.cells #[.int .i64 3, .int .i64 0, .string ⟨#[120]⟩] 31)).alloc (.cells #[.int .i64 2, .int .i64 1, .string ⟨#[]⟩] 31)).heap.size = Wf.heap.size + 2 := by simp
  obtain ⟨Wg, hWg⟩ : ∃ Wg, (Wf.alloc (.cells #[.int .i64 3, .int .i64 0, .string ⟨#[120]⟩] 31)).alloc (.cells #[.int .i64 2, .int .i64 1, .string ⟨#[]⟩] 31) = Wg := ⟨_, rfl⟩
  have b7' : Box2 Wg Wf.heap.size ((kS ⟨#[120]⟩, kn 1) : V × V) := by rw [← hWg]; exact b7
  rw [hWg] at fg sz7 hb4g
  have HP2 : Hid ((fun g => P1 g ∨ (Wf.heap.size ≤ g ∧ g < Wg.heap.size)) Wf.heap.size ∧ (fun g => P1 g ∨ (Wf.heap.size ≤ g ∧ g < Wg.heap.size)) (Wf.heap.size + 1) ∧ (fun g => P1 g ∨ (Wf.heap.size ≤ g ∧ g < Wg.heap.size)) Wc.heap.size ∧ (fun g => P1 g ∨ (Wf.heap.size ≤ g ∧ g < Wg.heap.size)) (Wc.heap.size + 1)) := ⟨.inr ⟨by omega, by omega⟩, .inr ⟨by omega, by omega⟩, .inl HP1.out.1, .inl HP1.out.2⟩
  have HFg : Hid (Fb (fun g => P1 g ∨ (Wf.heap.size ≤ g ∧ g < Wg.heap.size)) w T S hb 26 p s Wg ∧ Box2 Wg Wc.heap.size ((kn 3, kS ⟨#[99]⟩) : V × V) ∧ Box2 Wg Wf.heap.size ((kS ⟨#[120]⟩, kn 1) : V × V)) := ⟨fg, hb4g, b7'⟩
  have Cg := HS.out ⟨#[121]⟩ Wg
  clear Ce ff kf hb4 b7 kn7 fg hb4g sz7 b7' HBe
  generalize (fun g => P1 g ∨ (Wf.heap.size ≤ g ∧ g < Wg.heap.size)) = P2 at *
  have HWg : Hid ((Wf.alloc (.cells #[.int .i64 3, .int .i64 0, .string ⟨#[120]⟩] 31)).alloc (.cells #[.int .i64 2, .int .i64 1, .string ⟨#[]⟩] 31) = Wg) := hWg
  clear hWg
  go_wp2_with fail
  rw [HWg.out]
  clear HWg
  generalize Wc.heap.size = B4 at *
  generalize Wf.heap.size = B7 at *
  refine Cg.mono ?_; rintro e Wh ⟨rfl, kh⟩
  have Ch := (HFg.out.1.below kh).next (by omega) (kS ⟨#[121]⟩) (rng_S _)
  rw [ny] at Ch
  unfold vv vl tp at Ch
  have HBh : Hid (Box2 Wh B4 ((kn 3, kS ⟨#[99]⟩) : V × V) ∧ Box2 Wh B7 ((kS ⟨#[120]⟩, kn 1) : V × V)) := ⟨HFg.out.2.1.kept (Ks := P2) (Keep.of kh) HP2.out.2.2.1 HP2.out.2.2.2, HFg.out.2.2.kept (Ks := P2) (Keep.of kh) HP2.out.1 HP2.out.2.1⟩
  clear Cg kh HFg
  go_wp2_with fail
  refine Ch.mono ?_; rintro e Wi ⟨rfl, fi, ki⟩
  have kni := b2 Wi (.cells #[.int .i64 nil.1, .int .i64 nil.2.1, .string nil.2.2] 31) (.cells #[.int .i64 nil.1, .int .i64 nil.2.1, .string nil.2.2] 31)
  have HFi : Hid (∀ W', Below ((Wi.alloc (.cells #[.int .i64 nil.1, .int .i64 nil.2.1, .string nil.2.2] 31)).alloc (.cells #[.int .i64 nil.1, .int .i64 nil.2.1, .string nil.2.2] 31)).heap.size ((Wi.alloc (.cells #[.int .i64 nil.1, .int .i64 nil.2.1, .string nil.2.2] 31)).alloc (.cells #[.int .i64 nil.1, .int .i64 nil.2.1, .string nil.2.2] 31)) W' → Fb P2 w T S hb 27 p s W' ∧ Box2 W' B4 ((kn 3, kS ⟨#[99]⟩) : V × V) ∧ Box2 W' B7 ((kS ⟨#[120]⟩, kn 1) : V × V)) := fun W' q => by
    have kk : Below Wi.heap.size Wi W' := bthen kni kni.size q
    exact ⟨fi.below kk, (HBh.out.1.kept ki HP2.out.2.2.1 HP2.out.2.2.2).kept (Ks := P2) (Keep.of kk) HP2.out.2.2.1 HP2.out.2.2.2, (HBh.out.2.kept ki HP2.out.1 HP2.out.2.1).kept (Ks := P2) (Keep.of kk) HP2.out.1 HP2.out.2.1⟩
  have Ci := callsIn_wide.1 (next_none ((Wi.alloc (.cells #[.int .i64 nil.1, .int .i64 nil.2.1, .string nil.2.2] 31)).alloc (.cells #[.int .i64 nil.1, .int .i64 nil.2.1, .string nil.2.2] 31)))
  unfold vv vl at Ci
  unfold nil at Ci HFi kni ⊢
  clear Ch fi ki HBh kni
  go_wp2_with fail
  refine Ci.mono ?_; rintro e Wj ⟨rfl, kj⟩
  obtain ⟨fj, bj4, bj7⟩ := HFi.out Wj kj
  have knj := b2 Wj (.cells #[.int .i64 0, .int .i64 0, .string ⟨#[]⟩] 31) (.cells #[.int .i64 0, .int .i64 0, .string ⟨#[]⟩] 31)
  have bj13 := Box2.made Wj ((nil, nil) : V × V)
  obtain ⟨Wk, hWk⟩ : ∃ Wk, (Wj.alloc (.cells #[.int .i64 0, .int .i64 0, .string ⟨#[]⟩] 31)).alloc (.cells #[.int .i64 0, .int .i64 0, .string ⟨#[]⟩] 31) = Wk := ⟨_, rfl⟩
  have bk13 : Box2 Wk Wj.heap.size ((nil, nil) : V × V) := by rw [← hWk]; exact bj13
  rw [hWk] at knj
  have HSS : Hid (∀ W', Below Wk.heap.size Wk W' → Fb P2 w T S hb 27 p s W' ∧ W'.cell? ⟨B4, 0, none⟩ = some (.int .i64 2) ∧ W'.cell? ⟨B4, 1, none⟩ = some (.int .i64 3) ∧ W'.cell? ⟨B4, 2, none⟩ = some (.string ⟨#[]⟩) ∧ W'.cell? ⟨B4 + 1, 0, none⟩ = some (.int .i64 3) ∧ W'.cell? ⟨B4 + 1, 1, none⟩ = some (.int .i64 0) ∧ W'.cell? ⟨B4 + 1, 2, none⟩ = some (.string ⟨#[99]⟩) ∧
      W'.cell? ⟨B7, 0, none⟩ = some (.int .i64 3) ∧ W'.cell? ⟨B7, 1, none⟩ = some (.int .i64 0) ∧ W'.cell? ⟨B7, 2, none⟩ = some (.string ⟨#[120]⟩) ∧ W'.cell? ⟨B7 + 1, 0, none⟩ = some (.int .i64 2) ∧ W'.cell? ⟨B7 + 1, 1, none⟩ = some (.int .i64 1) ∧ W'.cell? ⟨B7 + 1, 2, none⟩ = some (.string ⟨#[]⟩) ∧
      W'.cell? ⟨Wj.heap.size, 0, none⟩ = some (.int .i64 0) ∧ W'.cell? ⟨Wj.heap.size, 1, none⟩ = some (.int .i64 0) ∧ W'.cell? ⟨Wj.heap.size, 2, none⟩ = some (.string ⟨#[]⟩)) := fun W' q => by
    have kk : Below Wj.heap.size Wj W' := bthen knj knj.size q
    have c4 := bj4.kept (Ks := fun _ => True) (Keep.of kk) trivial trivial
    have c7 := bj7.kept (Ks := fun _ => True) (Keep.of kk) trivial trivial
    have c13 := bk13.kept (Ks := fun _ => True) (Keep.of q) trivial trivial
    exact ⟨fj.below kk, c4.k0, c4.k1, c4.k2, c4.v0, c4.v1, c4.v2, c7.k0, c7.k1, c7.k2, c7.v0, c7.v1, c7.v2, c13.k0, c13.k1, c13.k2⟩
  have HL : Hid (∀ W', Below Wk.heap.size Wk W' → Calls Tryz.prog 25 #[.pointer (some ⟨T, 0, none⟩)] W' fun e w' => (∃ ad cp, e = .returned (.slice ad 3 cp)) ∧ Below W'.heap.size W' w') := fun W' q => ((HSS.out W' q).1.list).mono fun e w' ⟨v, e1, e2, e3⟩ => by
    rw [hlen] at e2
    obtain ⟨ad, cp, rfl⟩ := rowLen e2
    exact ⟨⟨ad, cp, e1⟩, e3⟩
  have HLn : Hid (∀ W', Calls Tryz.prog 25 #[.pointer none] W' fun e w' => (∃ ad cp, e = .returned (.slice ad 0 cp)) ∧ Below W'.heap.size W' w') := fun W' => (callsIn_wide.1 (list_none W')).mono fun e w' ⟨v, e1, e2, e3⟩ => by
    obtain ⟨ad, cp, rfl⟩ := rowLen e2
    exact ⟨⟨ad, cp, e1⟩, e3⟩
  have HB : Hid (∀ W', Below Wk.heap.size Wk W' → Below w.heap.size w W') := fun W' q => (HSS.out W' q).1.bel
  have q1 : ∀ W', (binOp .eql 31 (vl 2 3 ⟨#[]⟩) (vl 2 3 ⟨#[]⟩)).run Tryz.prog W' = .ok (.bool true) W' := fun W' => by rw [eql32]; simp
  have q2 : ∀ W', (binOp .eql 31 (vl 3 0 ⟨#[99]⟩) (vl 3 0 ⟨#[99]⟩)).run Tryz.prog W' = .ok (.bool true) W' := fun W' => by rw [eql32]; simp
  have q3 : ∀ W', (binOp .eql 31 (vl 3 0 ⟨#[120]⟩) (vl 3 0 ⟨#[120]⟩)).run Tryz.prog W' = .ok (.bool true) W' := fun W' => by rw [eql32]; simp
  have q4 : ∀ W', (binOp .eql 31 (vl 2 1 ⟨#[]⟩) (vl 2 1 ⟨#[]⟩)).run Tryz.prog W' = .ok (.bool true) W' := fun W' => by rw [eql32]; simp
  have q5 : ∀ W', (binOp .eql 31 (vl 0 0 ⟨#[]⟩) (vl 0 0 ⟨#[]⟩)).run Tryz.prog W' = .ok (.bool true) W' := fun W' => by rw [eql32]; simp
  unfold vl at q1 q2 q3 q4 q5
  have HK0 : Hid (Below Wk.heap.size Wk Wk.drew) := bdrew1 Wk
  have HWk : Hid ((Wj.alloc (.cells #[.int .i64 0, .int .i64 0, .string ⟨#[]⟩] 31)).alloc (.cells #[.int .i64 0, .int .i64 0, .string ⟨#[]⟩] 31) = Wk) := hWk
  clear Ci kj fj bj4 bj7 knj bj13 bk13 HFi hWk n1 n3 ny hlen
  go_upto_region 11 with fail
  rw [HWk.out]
  clear HWk
  generalize Wj.heap.size = B13 at *
  go_cut [0] from 63 to 112 (fun x wx => x = .bool true ∧ Hid (Below w.heap.size w wx))
  case first =>
    go_region_held3 (fun w' => w'.cell? ⟨B4, 0, none⟩ = some (.int .i64 2) ∧ w'.cell? ⟨B4, 1, none⟩ = some (.int .i64 3) ∧ w'.cell? ⟨B4, 2, none⟩ = some (.string ⟨#[]⟩) ∧ w'.cell? ⟨B4 + 1, 0, none⟩ = some (.int .i64 3) ∧ w'.cell? ⟨B4 + 1, 1, none⟩ = some (.int .i64 0) ∧ w'.cell? ⟨B4 + 1, 2, none⟩ = some (.string ⟨#[99]⟩) ∧ w'.cell? ⟨B7, 0, none⟩ = some (.int .i64 3) ∧ w'.cell? ⟨B7, 1, none⟩ = some (.int .i64 0) ∧ w'.cell? ⟨B7, 2, none⟩ = some (.string ⟨#[120]⟩) ∧ w'.cell? ⟨B7 + 1, 0, none⟩ = some (.int .i64 2) ∧ w'.cell? ⟨B7 + 1, 1, none⟩ = some (.int .i64 1) ∧ w'.cell? ⟨B7 + 1, 2, none⟩ = some (.string ⟨#[]⟩) ∧ w'.cell? ⟨B13, 0, none⟩ = some (.int .i64 0) ∧ w'.cell? ⟨B13, 1, none⟩ = some (.int .i64 0) ∧ w'.cell? ⟨B13, 2, none⟩ = some (.string ⟨#[]⟩)) (exact (HSS.out _ (by first | exact HK6.out | exact HK5.out | exact HK4.out | exact HK3.out | exact HK2.out | exact HK1.out | exact HK0.out)).2) (first
      | (go_at_call_of 27 (Value.int .i64 3); refine (HI.out 3 _).mono ?_; rintro e w1 ⟨rfl, b1⟩; have HK1 : Hid (Below Wk.heap.size Wk w1) := bthen HK0.out HK0.out.size b1; clear b1)
      | (go_at_call_of 51 (Value.string ⟨#[99]⟩); refine (HS.out _ _).mono ?_; rintro e w2 ⟨rfl, b2⟩; have HK2 : Hid (Below Wk.heap.size Wk w2) := bthen HK1.out HK1.out.size b2; clear b2)
      | (go_at_call_of 51 (Value.string ⟨#[120]⟩); refine (HS.out _ _).mono ?_; rintro e w3 ⟨rfl, b3⟩; have HK3 : Hid (Below Wk.heap.size Wk w3) := bthen HK2.out HK2.out.size b3; clear b3)
      | (go_at_call_of 27 (Value.int .i64 1); refine (HI.out 1 _).mono ?_; rintro e w4 ⟨rfl, b4⟩; have HK4 : Hid (Below Wk.heap.size Wk w4) := bthen HK3.out HK3.out.size b4; clear b4)
      | (go_at_call_of 25 (Value.pointer (some ⟨T, 0, none⟩)); refine (HL.out _ HK4.out).mono ?_; rintro e w5 ⟨⟨ad5, cp5, rfl⟩, b5⟩; have HK5 : Hid (Below Wk.heap.size Wk w5) := bthen HK4.out HK4.out.size b5; clear b5)
      | (go_at_call_of 25 (Value.pointer none); refine (HLn.out _).mono ?_; rintro e w6 ⟨⟨ad6, cp6, rfl⟩, b6⟩; have HK6 : Hid (Below Wk.heap.size Wk w6) := bthen HK5.out HK5.out.size b6; clear b6))
    all_goals
      go_wp2_with fail
      go_meet
      exact ⟨rfl, HB.out _ HK6.out⟩
  case rest =>
    obtain ⟨rfl, HX5⟩ := hcut
    go_wp2_with fail
    go_ret
    exact ⟨rfl, HX5.out⟩
end Go.Proofs.YtoomlihccniooaaGreat.Q
