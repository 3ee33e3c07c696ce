/- All contracts of the parser's functions; Parse of any text. -/
import Derived.Test.YtmejlldabdjpjaaGreatCg17
import Derived.Test.YtmejlldabdjpjaaGreatCg21
import Derived.Test.YtmejlldabdjpjaaGreatCg20
import Derived.Test.YtmejlldabdjpjaaGreatCg27
import Derived.Test.YtmejlldabdjpjaaGreatCg28
import Derived.Test.YtmejlldabdjpjaaGreatCg29
import Derived.Test.YtmejlldabdjpjaaGreatCg22
namespace Go.Proofs.YtmejlldabdjpjaaGreat
open Go.RowKit
theorem cc_every (n : Nat) : CC n := cc_all (fun N H b m T l W h hr => assign_any N H b m T l W h hr) n
theorem hc_every : HC := fun b m T l W h => chunk_any cc_every b m T l W h
/-- Parse of any text. -/
theorem parse_any (s : ByteArray) (w : World) (hs : s.size ≤ 9223372036854775807) :
    Calls Tryz.prog 15 #[.string s] w fun e W' => ∃ k t n p a c ks, e = .returned (.tuple #[(.agg #[.int .i64 (k), .string ⟨(t).toArray⟩, .int .i64 (n), .int .i64 (p), .slice a ks.len c]), .agg #[.int .i64 (prT s.data.toList).2.1, .int .i64 (prT s.data.toList).2.2]]) ∧ (prT s.data.toList).1 = one k t n p ks ∧ TN 42 W' (fun g => w.heap.size ≤ g) k t n p (.slice a ks.len c) ks ∧ Below w.heap.size w W' := Parse_any hc_every s w hs
end Go.Proofs.YtmejlldabdjpjaaGreat

/- The walk of node; every node's contract. -/
namespace Go.Proofs.YtmejlldabdjpjaaGreat
open Go.RowKit

set_option maxRecDepth 20000 in
set_option maxHeartbeats 8000000 in
theorem node_any' {N : Nat} {nd : Ndc} (H : ∀ k t n p ks s, Gd (ks.siz + 1) s (nd k t n p ks s)) (CE : CN 24 N nd) : CN 24 (N + 1) (ckS nd) := by
  intro No b s W k t n p a c ks h hr hs hw hcc hL hp0 hp
  obtain ⟨har, ht, hwk⟩ := F.wfC_one hw
  have hlen := ks.len_siz
  by_cases hb : s.bad = true
  · have hv : ckS nd k t n p ks s = s := by unfold ckS; rw [if_pos hb]
    rw [hv]
    have HBD : Hid (s.bad = true) := hb
    clear hv hb
    have B := h.cy #[.int .i64 k, .string ⟨t.toArray⟩, .int .i64 n, .int .i64 p, .slice a ks.len c]
    obtain ⟨X, hX⟩ : ∃ X, W.heap.size = X := ⟨_, rfl⟩
    obtain ⟨W1, hW1⟩ : ∃ W1, W.alloc (.cells #[.int .i64 (k), .string ⟨(t).toArray⟩, .int .i64 (n), .int .i64 (p), .slice a ks.len c] 42) = W1 := ⟨_, rfl⟩
    rw [hX, hW1] at B
    have rv1 := B.rv hr
    obtain ⟨p0, p1, p2, p3, p4⟩ := B.bx.five
    obtain ⟨x1, hx1⟩ := B.ck
    have CF := failed_any hx1
    rw [HBD.out] at CF
    clear hx1
    have HE : Hid (CP No b W s (.returned (.tuple #[])) W1) := B.out
    clear h hr rv1 hw B
    go_enter Tryz.func24, Tryz.ntmps24
    go_wp2_with fail
    refine CF.mono ?_
    rintro e v0 ⟨rfl, hw0⟩
    rw [hw0]
    go_wp2
    go_end0
    exact HE.out

  have HBD : Hid (s.bad = false) := Bool.eq_false_iff.2 hb
  by_cases h4 : k = 4
  · subst h4
    have hv : ckS nd 4 t n p ks s = con (2, n, []) p s := by unfold ckS; rw [if_neg hb]; simp only [Int.reduceEq, if_false, if_true]
    rw [hv]
    clear hv hb
    have B := h.cy #[.int .i64 4, .string ⟨t.toArray⟩, .int .i64 n, .int .i64 p, .slice a ks.len c]
    obtain ⟨X, hX⟩ : ∃ X, W.heap.size = X := ⟨_, rfl⟩
    obtain ⟨W1, hW1⟩ : ∃ W1, W.alloc (.cells #[.int .i64 (4), .string ⟨(t).toArray⟩, .int .i64 (n), .int .i64 (p), .slice a ks.len c] 42) = W1 := ⟨_, rfl⟩
    rw [hX, hW1] at B
    have rv1 := B.rv hr
    obtain ⟨p0, p1, p2, p3, p4⟩ := B.bx.five
    obtain ⟨x1, hx1⟩ := B.ck
    have CF := failed_any hx1
    rw [HBD.out] at CF
    clear hx1
    have C := constant_any (fun g => No g ∨ g = X) b s W1 4 t n p (.slice a ks.len c) (2, n, []) B.ck (by omega)
    simp only at C
    clear h hr rv1 hw har
    go_enter Tryz.func24, Tryz.ntmps24
    go_wp2_with fail
    refine CF.mono ?_
    rintro e v0 ⟨rfl, hw0⟩
    rw [hw0]
    have HB : Hid _ := B
    clear B
    go_wp2_with fail
    refine C.mono ?_
    rintro e v2 hq
    have D2 := HB.out.step hq
    obtain ⟨rfl, -⟩ := hq
    have HE := D2.out
    clear D2
    go_wp2
    go_end0
    exact HE
  by_cases h5 : k = 5
  · subst h5
    have hv : ckS nd 5 t n p ks s = con (3, 0, t) p s := by unfold ckS; rw [if_neg hb]; simp only [Int.reduceEq, if_false, if_true]
    rw [hv]
    clear hv hb
    have B := h.cy #[.int .i64 5, .string ⟨t.toArray⟩, .int .i64 n, .int .i64 p, .slice a ks.len c]
    obtain ⟨X, hX⟩ : ∃ X, W.heap.size = X := ⟨_, rfl⟩
    obtain ⟨W1, hW1⟩ : ∃ W1, W.alloc (.cells #[.int .i64 (5), .string ⟨(t).toArray⟩, .int .i64 (n), .int .i64 (p), .slice a ks.len c] 42) = W1 := ⟨_, rfl⟩
    rw [hX, hW1] at B
    have rv1 := B.rv hr
    obtain ⟨p0, p1, p2, p3, p4⟩ := B.bx.five
    obtain ⟨x1, hx1⟩ := B.ck
    have CF := failed_any hx1
    rw [HBD.out] at CF
    clear hx1
    have C := constant_any (fun g => No g ∨ g = X) b s W1 5 t n p (.slice a ks.len c) (3, 0, t) B.ck (by omega)
    simp only at C
    clear h hr rv1 hw har
    go_enter Tryz.func24, Tryz.ntmps24
    go_wp2_with fail
    refine CF.mono ?_
    rintro e v0 ⟨rfl, hw0⟩
    rw [hw0]
    have HB : Hid _ := B
    clear B
    go_wp2_with fail
    refine C.mono ?_
    rintro e v2 hq
    have D2 := HB.out.step hq
    obtain ⟨rfl, -⟩ := hq
    have HE := D2.out
    clear D2
    go_wp2
    go_end0
    exact HE
  by_cases h6 : k = 6
  · subst h6
    have hv : ckS nd 6 t n p ks s = nmC t p s := by unfold ckS; rw [if_neg hb]; simp only [Int.reduceEq, if_false, if_true]
    rw [hv]
    clear hv hb
    have B := h.cy #[.int .i64 6, .string ⟨t.toArray⟩, .int .i64 n, .int .i64 p, .slice a ks.len c]
    obtain ⟨X, hX⟩ : ∃ X, W.heap.size = X := ⟨_, rfl⟩
    obtain ⟨W1, hW1⟩ : ∃ W1, W.alloc (.cells #[.int .i64 (6), .string ⟨(t).toArray⟩, .int .i64 (n), .int .i64 (p), .slice a ks.len c] 42) = W1 := ⟨_, rfl⟩
    rw [hX, hW1] at B
    have rv1 := B.rv hr
    obtain ⟨p0, p1, p2, p3, p4⟩ := B.bx.five
    obtain ⟨x1, hx1⟩ := B.ck
    have CF := failed_any hx1
    rw [HBD.out] at CF
    clear hx1
    have C := name_any (fun g => No g ∨ g = X) b s W1 6 t n p (.slice a ks.len c) B.ck (by omega) ht
    clear h hr rv1 hw har
    go_enter Tryz.func24, Tryz.ntmps24
    go_wp2_with fail
    refine CF.mono ?_
    rintro e v0 ⟨rfl, hw0⟩
    rw [hw0]
    have HB : Hid _ := B
    clear B
    go_wp2_with fail
    refine C.mono ?_
    rintro e v2 hq
    have D2 := HB.out.step hq
    obtain ⟨rfl, -⟩ := hq
    have HE := D2.out
    clear D2
    go_wp2
    go_end0
    exact HE
  by_cases h7 : k = 7
  · subst h7
    have hv : ckS nd 7 t n p ks s = ckI nd p ks s := by unfold ckS; rw [if_neg hb]; simp only [Int.reduceEq, if_false, if_true]
    rw [hv]
    clear hv hb
    have hn : 2 ≤ ks.len := by simpa [arC] using har
    have B := h.cy #[.int .i64 7, .string ⟨t.toArray⟩, .int .i64 n, .int .i64 p, .slice a ks.len c]
    obtain ⟨X, hX⟩ : ∃ X, W.heap.size = X := ⟨_, rfl⟩
    obtain ⟨W1, hW1⟩ : ∃ W1, W.alloc (.cells #[.int .i64 (7), .string ⟨(t).toArray⟩, .int .i64 (n), .int .i64 (p), .slice a ks.len c] 42) = W1 := ⟨_, rfl⟩
    rw [hX, hW1] at B
    have rv1 := B.rv hr
    obtain ⟨p0, p1, p2, p3, p4⟩ := B.bx.five
    obtain ⟨x1, hx1⟩ := B.ck
    have CF := failed_any hx1
    rw [HBD.out] at CF
    clear hx1
    have C := index_any H CE (fun g => No g ∨ g = X) b s W1 t n p a c ks B.ck rv1 hs hwk hcc hn hL hp0 hp
    clear h hr rv1 hw har
    go_enter Tryz.func24, Tryz.ntmps24
    go_wp2_with fail
    refine CF.mono ?_
    rintro e v0 ⟨rfl, hw0⟩
    rw [hw0]
    have HB : Hid _ := B
    clear B
    go_wp2_with fail
    refine C.mono ?_
    rintro e v2 hq
    have D2 := HB.out.step hq
    obtain ⟨rfl, -⟩ := hq
    have HE := D2.out
    clear D2
    go_wp2
    go_end0
    exact HE
  by_cases h8 : k = 8
  · subst h8
    have hv : ckS nd 8 t n p ks s = ckN nd ks (lim p ((ks.len : Int) - 1) 50 s) := by unfold ckS; rw [if_neg hb]; simp only [Int.reduceEq, if_false, if_true]
    rw [hv]
    clear hv hb
    have B := h.cy #[.int .i64 8, .string ⟨t.toArray⟩, .int .i64 n, .int .i64 p, .slice a ks.len c]
    obtain ⟨X, hX⟩ : ∃ X, W.heap.size = X := ⟨_, rfl⟩
    obtain ⟨W1, hW1⟩ : ∃ W1, W.alloc (.cells #[.int .i64 (8), .string ⟨(t).toArray⟩, .int .i64 (n), .int .i64 (p), .slice a ks.len c] 42) = W1 := ⟨_, rfl⟩
    rw [hX, hW1] at B
    have rv1 := B.rv hr
    obtain ⟨p0, p1, p2, p3, p4⟩ := B.bx.five
    obtain ⟨x1, hx1⟩ := B.ck
    have CF := failed_any hx1
    rw [HBD.out] at CF
    clear hx1
    have C1 := limit_any B.ck 8 t n p (.slice a ks.len c) ((ks.len : Int) - 1) 50
    have g1 := gd_lim p ((ks.len : Int) - 1) 50 s
    generalize lim p ((ks.len : Int) - 1) 50 s = s1 at *
    have w1 := g1.wt
    have l1 := g1.lp
    have C2 : Hid (∀ w, Ck (fun g => No g ∨ g = X) b s1 w → Rv w (fun g => No g ∨ g = X) a ks → Calls Tryz.prog 39 #[.pointer (some ⟨b, 0, none⟩), .slice a ks.len c] w (CP (fun g => No g ∨ g = X) b w (ckN nd ks s1))) := fun w hc hv => nodes_any H CE (fun g => No g ∨ g = X) b s1 w a c ks hc hv (by omega) hwk (by omega) (by omega) (by omega)
    have wl : IntKind.i64.wrap ((ks.len : Int) - 1) = (ks.len : Int) - 1 := by rw [IntKind.wrap_i64]; omega
    have HR : Hid (Rv W No a ks) := hr
    clear h hr rv1 hw g1 w1 l1 har
    go_enter Tryz.func24, Tryz.ntmps24
    go_wp2_with fail
    refine CF.mono ?_
    rintro e v0 ⟨rfl, hw0⟩
    rw [hw0]
    have HB : Hid _ := B
    clear B
    go_wp2_with fail
    refine C1.mono ?_
    rintro e v2 hq
    have D2 := HB.out.step hq
    obtain ⟨rfl, -⟩ := hq
    obtain ⟨q0, q1, q2, q3, q4⟩ := D2.bx.five
    have K2 := C2.out v2 D2.ck (D2.rv HR.out)
    clear C1 C2
    have HD2 : Hid _ := D2
    clear D2
    go_wp2_with fail
    refine K2.mono ?_
    rintro e v3 hq
    have D3 := HD2.out.step hq
    obtain ⟨rfl, -⟩ := hq
    have HE := D3.out
    clear D3
    go_wp2
    go_end0
    exact HE
  by_cases h12 : k = 12
  · subst h12
    have hv : ckS nd 12 t n p ks s = ckN nd ks (lim p (ks.len : Int) 200 s) := by unfold ckS; rw [if_neg hb]; simp only [Int.reduceEq, if_false, if_true]
    rw [hv]
    clear hv hb
    have B := h.cy #[.int .i64 12, .string ⟨t.toArray⟩, .int .i64 n, .int .i64 p, .slice a ks.len c]
    obtain ⟨X, hX⟩ : ∃ X, W.heap.size = X := ⟨_, rfl⟩
    obtain ⟨W1, hW1⟩ : ∃ W1, W.alloc (.cells #[.int .i64 (12), .string ⟨(t).toArray⟩, .int .i64 (n), .int .i64 (p), .slice a ks.len c] 42) = W1 := ⟨_, rfl⟩
    rw [hX, hW1] at B
    have rv1 := B.rv hr
    obtain ⟨p0, p1, p2, p3, p4⟩ := B.bx.five
    obtain ⟨x1, hx1⟩ := B.ck
    have CF := failed_any hx1
    rw [HBD.out] at CF
    clear hx1
    have C1 := limit_any B.ck 12 t n p (.slice a ks.len c) (ks.len : Int) 200
    have g1 := gd_lim p (ks.len : Int) 200 s
    generalize lim p (ks.len : Int) 200 s = s1 at *
    have w1 := g1.wt
    have l1 := g1.lp
    have C2 : Hid (∀ w, Ck (fun g => No g ∨ g = X) b s1 w → Rv w (fun g => No g ∨ g = X) a ks → Calls Tryz.prog 39 #[.pointer (some ⟨b, 0, none⟩), .slice a ks.len c] w (CP (fun g => No g ∨ g = X) b w (ckN nd ks s1))) := fun w hc hv => nodes_any H CE (fun g => No g ∨ g = X) b s1 w a c ks hc hv (by omega) hwk (by omega) (by omega) (by omega)
    have wl : IntKind.i64.wrap ((ks.len : Int) - 1) = (ks.len : Int) - 1 := by rw [IntKind.wrap_i64]; omega
    have HR : Hid (Rv W No a ks) := hr
    clear h hr rv1 hw g1 w1 l1 har
    go_enter Tryz.func24, Tryz.ntmps24
    go_wp2_with fail
    refine CF.mono ?_
    rintro e v0 ⟨rfl, hw0⟩
    rw [hw0]
    have HB : Hid _ := B
    clear B
    go_wp2_with fail
    refine C1.mono ?_
    rintro e v2 hq
    have D2 := HB.out.step hq
    obtain ⟨rfl, -⟩ := hq
    obtain ⟨q0, q1, q2, q3, q4⟩ := D2.bx.five
    have K2 := C2.out v2 D2.ck (D2.rv HR.out)
    clear C1 C2
    have HD2 : Hid _ := D2
    clear D2
    go_wp2_with fail
    refine K2.mono ?_
    rintro e v3 hq
    have D3 := HD2.out.step hq
    obtain ⟨rfl, -⟩ := hq
    have HE := D3.out
    clear D3
    go_wp2
    go_end0
    exact HE
  have hv : ckS nd k t n p ks s = ckX nd k t n p ks s := by unfold ckS; rw [if_neg hb, if_neg h4, if_neg h5, if_neg h6, if_neg h7, if_neg h8, if_neg h12]
  rw [hv]
  clear hv hb
  have e4 : (k == 4) = false := by simpa using h4
  have e5 : (k == 5) = false := by simpa using h5
  have e6 : (k == 6) = false := by simpa using h6
  have e7 : (k == 7) = false := by simpa using h7
  have e8 : (k == 8) = false := by simpa using h8
  have e12 : (k == 12) = false := by simpa using h12
  have B := h.cy #[.int .i64 k, .string ⟨t.toArray⟩, .int .i64 n, .int .i64 p, .slice a ks.len c]
  obtain ⟨X, hX⟩ : ∃ X, W.heap.size = X := ⟨_, rfl⟩
  obtain ⟨W1, hW1⟩ : ∃ W1, W.alloc (.cells #[.int .i64 (k), .string ⟨(t).toArray⟩, .int .i64 (n), .int .i64 (p), .slice a ks.len c] 42) = W1 := ⟨_, rfl⟩
  rw [hX, hW1] at B
  have rv1 := B.rv hr
  obtain ⟨p0, p1, p2, p3, p4⟩ := B.bx.five
  obtain ⟨x1, hx1⟩ := B.ck
  have CF := failed_any hx1
  rw [HBD.out] at CF
  clear hx1
  have C := statement_any' H CE (fun g => No g ∨ g = X) b s W1 k t n p a c ks B.ck rv1 hs hw hcc hL hp0 hp
  clear h hr rv1 hw har
  go_enter Tryz.func24, Tryz.ntmps24
  go_wp2_with fail
  refine CF.mono ?_
  rintro e v0 ⟨rfl, hw0⟩
  rw [hw0]
  have HB : Hid _ := B
  clear B
  go_wp2_with fail
  refine C.mono ?_
  rintro e v2 hq
  have D2 := HB.out.step hq
  obtain ⟨rfl, -⟩ := hq
  have HE := D2.out
  clear D2
  go_wp2
  go_end0
  exact HE

theorem nodes_all : ∀ N, CN 24 N (ck N)
  | 0 => fun _ _ _ _ _ _ _ _ _ _ _ _ _ hs => absurd hs (Nat.not_lt_zero _)
  | N + 1 => node_any' (gd_ck N) (nodes_all N)
end Go.Proofs.YtmejlldabdjpjaaGreat

/- The walk of Check. -/
namespace Go.Proofs.YtmejlldabdjpjaaGreat
open Go.RowKit

/-- What Check is to leave. -/
def ChP (w : World) (r : (List Fn × List Tx) × Int × Int) (e : Ending) (w' : World) : Prop := ∃ vF vG, e = .returned (.tuple #[.agg #[vF, vG], .agg #[.int .i64 r.2.1, .int .i64 r.2.2]]) ∧ Rp w' vF vG r.1.1 r.1.2 ∧ Below w.heap.size w w'
theorem bset {B : Nat} {a w : World} (h : Below B a w) {b o : Nat} (hb : B ≤ b) (u : Value) : Below B a (w.setCell ⟨b, o, none⟩ u) :=
  ⟨h.os, h.tape, h.output, by rw [size_set]; exact h.size, fun g hg => (Below.heap_setCell w _ u g (by show g ≠ b; omega)).trans (h.block g hg)⟩
theorem Rv.monoL {P Q : Nat → Prop} {w : World} {a : Option Addr} {r : F} (h : Rv w P a r) (hb : ∀ g, P g → g < w.heap.size → Q g) : Rv w Q a r := by
  obtain ⟨xs, hk, hx⟩ := h.ex
  exact ⟨xs, hk.mono hb, fun hne => by obtain ⟨g, o, e, hP, hg, r⟩ := hx hne; exact ⟨g, o, e, hb g hP hg, hg, r⟩⟩
theorem TN.cap {w : World} {P : Nat → Prop} {k : Int} {t : Tx} {n p : Int} {a : Option Addr} {c : Nat} {ks : F} (h : TN 42 w P k t n p (.slice a ks.len c) ks) : ks.len ≤ c ∧ c ≤ maxLen := by
  obtain ⟨_, xs, own, _⟩ := h.out
  rcases own.2 with ⟨e, e2⟩ | ⟨g, cap, cur, e, _, _, h4, h5, _⟩
  · injection e with _ e3 e4
    subst e4
    exact ⟨by omega, Nat.zero_le _⟩
  · injection e with _ _ e4
    subst e4
    exact ⟨h4, h5⟩

set_option maxRecDepth 20000 in
set_option maxHeartbeats 8000000 in
theorem Check_any (s : ByteArray) (w : World) (hs : s.size ≤ 9223372036854775807) : Calls Tryz.prog 9 #[.string s] w (ChP w (chT s.data.toList)) := by
  have P := parse_any s ((w.alloc (.cells #[.slice none 0 0, .slice none 0 0] 25)).alloc (.cells #[.int .i64 0, .int .i64 0] 28)) hs
  have hz := prT_siz s.data.toList
  have hok := prT_okT s.data.toList
  have hzero := prT_zero s.data.toList
  unfold chT
  generalize prT s.data.toList = r at *
  obtain ⟨f, cd, ct⟩ := r
  simp only at P hz hok hzero ⊢
  have R0 := (Bx.new w 25 #[.slice none 0 0, .slice none 0 0]).alloc (.cells #[.int .i64 0, .int .i64 0] 28)
  have F0 := Bx.new (w.alloc (.cells #[.slice none 0 0, .slice none 0 0] 25)) 28 #[.int .i64 0, .int .i64 0]
  have e1 : (w.alloc (.cells #[.slice none 0 0, .slice none 0 0] 25)).heap.size = w.heap.size + 1 := by simp
  have e2 : ((w.alloc (.cells #[.slice none 0 0, .slice none 0 0] 25)).alloc (.cells #[.int .i64 0, .int .i64 0] 28)).heap.size = w.heap.size + 2 := by simp
  have B0 := b2 w (.cells #[.slice none 0 0, .slice none 0 0] 25) (.cells #[.int .i64 0, .int .i64 0] 28)
  rw [e1] at F0
  obtain ⟨R, hR⟩ : ∃ R, w.heap.size = R := ⟨_, rfl⟩
  obtain ⟨V0, hV0⟩ : ∃ V0, (w.alloc (.cells #[.slice none 0 0, .slice none 0 0] 25)).alloc (.cells #[.int .i64 0, .int .i64 0] 28) = V0 := ⟨_, rfl⟩
  rw [hV0] at P R0 F0 e2 B0
  rw [hR] at R0 F0 e2
  by_cases hc : cd = 0
  · subst hc
    have hct : ct = 0 := hzero f ct rfl
    subst hct
    obtain ⟨p, ks, hfe, hokT⟩ := hok rfl
    subst hfe
    rw [if_pos rfl]
    have hwf := F.okT_wfC _ hokT
    have hsz : ks.siz ≤ 60010 := by simp only [one, F.siz] at hz; omega
    have hn := neq27 0 0 0 0
    simp only [and_self, decide_true, Bool.not_true] at hn
    have hch : chF (one 20 [] 0 p ks) = if 100 < ks.hgt + 1 then (([], []), 6, p) else outC (ck (ks.siz + 1) 20 [] 0 p ks (s0 p)) := rfl
    have HH : Hid (Bx R 25 #[.slice none 0 0, .slice none 0 0] V0 ∧ Bx (R + 1) 28 #[.int .i64 0, .int .i64 0] V0 ∧ Below R w V0 ∧ V0.heap.size = R + 2) := ⟨R0, F0, hR ▸ B0, e2⟩
    have HP : Hid (∀ v1 : World, ∀ (a : Option Addr) (c : Nat), TN 42 v1 (fun g => V0.heap.size ≤ g) 20 [] 0 p (.slice a ks.len c) ks → Below V0.heap.size V0 v1 → ∀ v2, (v1.alloc (.cells #[.int .i64 (20), .string ⟨#[]⟩, .int .i64 (0), .int .i64 (p), .slice a ks.len c] 42)).alloc (.cells #[.int .i64 0, .int .i64 0] 28) = v2 → Bx R 25 #[.slice none 0 0, .slice none 0 0] v2 ∧ Bx (R + 1) 28 #[.int .i64 0, .int .i64 0] v2 ∧ Below R w v2 ∧ Bx v1.heap.size 42 #[.int .i64 20, .string ⟨#[]⟩, .int .i64 0, .int .i64 p, .slice a ks.len c] v2 ∧ Bx (v1.heap.size + 1) 28 #[.int .i64 0, .int .i64 0] v2 ∧ TN 42 v2 (fun g => V0.heap.size ≤ g) 20 [] 0 p (.slice a ks.len c) ks ∧ R + 2 ≤ v1.heap.size ∧ v2.heap.size = v1.heap.size + 2) := fun v1 a c hT hB v2 hv2 => by
      have B1 := b2 v1 (.cells #[.int .i64 (20), .string ⟨#[]⟩, .int .i64 (0), .int .i64 (p), .slice a ks.len c] 42) (.cells #[.int .i64 0, .int .i64 0] 28)
      have T1 := (Bx.new v1 42 #[.int .i64 20, .string ⟨#[]⟩, .int .i64 0, .int .i64 p, .slice a ks.len c]).alloc (.cells #[.int .i64 0, .int .i64 0] 28)
      have T2 := (Bx.new (v1.alloc (.cells #[.int .i64 (20), .string ⟨#[]⟩, .int .i64 (0), .int .i64 (p), .slice a ks.len c] 42)) 28 #[.int .i64 0, .int .i64 0])
      have e3 : (v1.alloc (.cells #[.int .i64 (20), .string ⟨#[]⟩, .int .i64 (0), .int .i64 (p), .slice a ks.len c] 42)).heap.size = v1.heap.size + 1 := by simp
      have e4 : ((v1.alloc (.cells #[.int .i64 (20), .string ⟨#[]⟩, .int .i64 (0), .int .i64 (p), .slice a ks.len c] 42)).alloc (.cells #[.int .i64 0, .int .i64 0] 28)).heap.size = v1.heap.size + 2 := by simp
      rw [e3] at T2
      have BB : Below R w v1 := bthen HH.out.2.2.1 (by have := HH.out.2.2.2; omega) hB
      have hq : R + 2 ≤ v1.heap.size := by have := hB.size; have := HH.out.2.2.2; omega
      rw [hv2] at B1 T1 T2 e4
      exact ⟨(HH.out.1.below hB).below B1, (HH.out.2.1.below hB).below B1, bthen BB (by omega) B1, T1, T2, hT.keep fun g hg hl => B1.block g hl, hq, e4⟩
    by_cases hh : 100 < ks.hgt + 1
    · rw [hch, if_pos hh]
      have hh' : (100 : Int) < ((ks.hgt + 1 : Nat) : Int) := by omega
      have hh2 : (100 : Int) < (ks.hgt : Int) + 1 := by omega
      clear hok hokT hzero hz R0 F0 B0 hwf hch
      go_enter Tryz.func9, Tryz.ntmps9
      go_wp2_with fail
      refine P.mono ?_
      rintro e v1 ⟨k', t', n', p', a, c, ks', rfl, hf, hT, hB⟩
      simp only [one, F.cons.injEq] at hf
      obtain ⟨rfl, rfl, rfl, rfl, rfl, -⟩ := hf
      obtain ⟨v2, hv2⟩ : ∃ v2, (v1.alloc (.cells #[.int .i64 (20), .string ⟨#[]⟩, .int .i64 (0), .int .i64 (p), .slice a ks.len c] 42)).alloc (.cells #[.int .i64 0, .int .i64 0] 28) = v2 := ⟨_, rfl⟩
      obtain ⟨R2, F2, BB2, T1, T2, hT2, hq, hq2⟩ := HP.out v1 a c hT hB v2 hv2
      have HV2 : Hid ((v1.alloc (.cells #[.int .i64 (20), .string ⟨#[]⟩, .int .i64 (0), .int .i64 (p), .slice a ks.len c] 42)).alloc (.cells #[.int .i64 0, .int .i64 0] 28) = v2) := hv2
      clear hv2
      have CHt := height_any ks.siz ks (Nat.le_refl _) (by omega) v2 _ 20 [] 0 p a c hT2.rw0
      obtain ⟨y0, y1, y2, y3, y4⟩ := T1.five
      have x0 := T2.c 0 _ rfl
      have x1 := T2.c 1 _ rfl
      have HZ : Hid (Bx R 25 #[.slice none 0 0, .slice none 0 0] v2 ∧ Bx (R + 1) 28 #[.int .i64 0, .int .i64 0] v2 ∧ Below R w v2 ∧ Bx v1.heap.size 42 #[.int .i64 20, .string ⟨#[]⟩, .int .i64 0, .int .i64 p, .slice a ks.len c] v2 ∧ R + 2 ≤ v1.heap.size ∧ v2.heap.size = v1.heap.size + 2) := ⟨R2, F2, BB2, T1, hq, hq2⟩
      clear R2 F2 BB2 T1 T2 hT2 hT hB hq hq2 HP HH
      go_wp2_with fail
      rw [HV2.out]
      refine CHt.mono ?_
      rintro e v3 ⟨rfl, hB3⟩
      have HZ : Hid (Bx R 25 #[.slice none 0 0, .slice none 0 0] v3 ∧ Bx (R + 1) 28 #[.int .i64 0, .int .i64 0] v3 ∧ Below R w v3 ∧ Bx v1.heap.size 42 #[.int .i64 20, .string ⟨#[]⟩, .int .i64 0, .int .i64 p, .slice a ks.len c] v3) := ⟨HZ.out.1.below hB3, HZ.out.2.1.below hB3, bthen HZ.out.2.2.1 (by have := HZ.out.2.2.2.2; omega) hB3, HZ.out.2.2.2.1.below hB3⟩
      obtain ⟨y0, y1, y2, y3, y4⟩ := HZ.out.2.2.2.five
      have r0 := HZ.out.1.c 0 _ rfl
      have r1 := HZ.out.1.c 1 _ rfl
      have rf0 := HZ.out.1.f 0
      have rf1 := HZ.out.1.f 1
      have q0 := HZ.out.2.1.c 0 _ rfl
      have q1 := HZ.out.2.1.c 1 _ rfl
      have qf0 := HZ.out.2.1.f 0
      have qf1 := HZ.out.2.1.f 1
      have hne1 : ¬ R + 1 = R := by omega
      have hne2 : ¬ R = R + 1 := by omega
      clear CHt hB3
      go_wp2_with fail
      go_region
      all_goals
        go_wp2
        have D1 := ((((HZ.out.1.put (j := 0) (.slice none 0 0)).put (j := 1) (.slice none 0 0)).set (b := R + 1) (o := 0) (by omega) (.int .i64 6)).set (b := R + 1) (o := 1) (by omega) (.int .i64 p))
        have D2 := ((((HZ.out.2.1.set (b := R) (o := 0) (by omega) (.slice none 0 0)).set (b := R) (o := 1) (by omega) (.slice none 0 0)).put (j := 0) (.int .i64 6)).put (j := 1) (.int .i64 p))
        have D3 := (bset (bset (bset (bset HZ.out.2.2.1 (b := R) (o := 0) (by omega) (.slice none 0 0)) (b := R) (o := 1) (by omega) (.slice none 0 0)) (b := R + 1) (o := 0) (by omega) (.int .i64 6)) (b := R + 1) (o := 1) (by omega) (.int .i64 p))
        have D1 := D1.drew
        have D2 := D2.drew
        have D3 := D3.drew
        generalize World.drew _ = V3 at D1 D2 D3 ⊢
        have z0 := D1.c 0 _ rfl
        have z1 := D1.c 1 _ rfl
        have z2 := D2.c 0 _ rfl
        have z3 := D2.c 1 _ rfl

        exact bodyPost_ret (v := .tuple #[.agg #[.slice none 0 0, .slice none 0 0], .agg #[.int .i64 6, .int .i64 p]]) (by simp [results, Tryz.results9, go_sem, z0, z1, z2, z3]) rfl ⟨_, _, rfl, Rp.nil _, hR ▸ D3⟩
    · rw [hch, if_neg hh]
      have hh' : ¬ (100 : Int) < ((ks.hgt + 1 : Nat) : Int) := by omega
      have hh2 : ¬ (100 : Int) < (ks.hgt : Int) + 1 := by omega
      have hw0 : (s0 p).wt = 1 := rfl
      have HN : Hid (∀ (N : Nat → Prop) b W a c, Ck N b (s0 p) W → Rv W N a ks → (ks.len ≤ c ∧ c ≤ maxLen) → Calls Tryz.prog 24 #[.pointer (some ⟨b, 0, none⟩), (.agg #[.int .i64 (20), .string ⟨#[]⟩, .int .i64 (0), .int .i64 (p), .slice a ks.len c])] W (CP N b W (ck (ks.siz + 1) 20 [] 0 p ks (s0 p)))) := fun N b W a c hc hv hcc => nodes_all (ks.siz + 1) N b (s0 p) W 20 [] 0 p a c ks hc hv (by omega) hwf hcc (by rw [hw0]; omega) (Int.le_refl 0) (by show (0 : Int) + ((ks.siz : Nat) : Int) + 1 ≤ 1000000; omega)
      generalize ck (ks.siz + 1) 20 [] 0 p ks (s0 p) = s1 at *
      have hmm := @run_makeMap Tryz.prog
      clear hok hokT hzero hz R0 F0 B0 hwf hch hw0
      go_enter Tryz.func9, Tryz.ntmps9
      go_wp2_with fail
      refine P.mono ?_
      rintro e v1 ⟨k', t', n', p', a, c, ks', rfl, hf, hT, hB⟩
      simp only [one, F.cons.injEq] at hf
      obtain ⟨rfl, rfl, rfl, rfl, rfl, -⟩ := hf
      obtain ⟨v2, hv2⟩ : ∃ v2, (v1.alloc (.cells #[.int .i64 (20), .string ⟨#[]⟩, .int .i64 (0), .int .i64 (p), .slice a ks.len c] 42)).alloc (.cells #[.int .i64 0, .int .i64 0] 28) = v2 := ⟨_, rfl⟩
      obtain ⟨R2, F2, BB2, T1, T2, hT2, hq, hq2⟩ := HP.out v1 a c hT hB v2 hv2
      have HV2 : Hid ((v1.alloc (.cells #[.int .i64 (20), .string ⟨#[]⟩, .int .i64 (0), .int .i64 (p), .slice a ks.len c] 42)).alloc (.cells #[.int .i64 0, .int .i64 0] 28) = v2) := hv2
      clear hv2
      have CHt := height_any ks.siz ks (Nat.le_refl _) (by omega) v2 _ 20 [] 0 p a c hT2.rw0
      obtain ⟨y0, y1, y2, y3, y4⟩ := T1.five
      have x0 := T2.c 0 _ rfl
      have x1 := T2.c 1 _ rfl
      have HZ : Hid (Bx R 25 #[.slice none 0 0, .slice none 0 0] v2 ∧ Bx (R + 1) 28 #[.int .i64 0, .int .i64 0] v2 ∧ Below R w v2 ∧ Bx v1.heap.size 42 #[.int .i64 20, .string ⟨#[]⟩, .int .i64 0, .int .i64 p, .slice a ks.len c] v2 ∧ R + 2 ≤ v1.heap.size ∧ v2.heap.size = v1.heap.size + 2) := ⟨R2, F2, BB2, T1, hq, hq2⟩
      have HT : Hid (TN 42 v2 (fun g => V0.heap.size ≤ g) 20 [] 0 p (.slice a ks.len c) ks) := hT2
      clear R2 F2 BB2 T1 T2 hT2 hT hB hq hq2 HP HH
      go_wp2_with fail
      rw [HV2.out]
      refine CHt.mono ?_
      rintro e v3 ⟨rfl, hB3⟩
      have hv3 : v2.heap.size ≤ v3.heap.size := hB3.size
      have HZ3 : Hid (Bx R 25 #[.slice none 0 0, .slice none 0 0] v3 ∧ Bx (R + 1) 28 #[.int .i64 0, .int .i64 0] v3 ∧ Below R w v3 ∧ Bx v1.heap.size 42 #[.int .i64 20, .string ⟨#[]⟩, .int .i64 0, .int .i64 p, .slice a ks.len c] v3 ∧ R + 2 ≤ v1.heap.size ∧ v1.heap.size + 2 ≤ v3.heap.size ∧ TN 42 v3 (fun g => V0.heap.size ≤ g) 20 [] 0 p (.slice a ks.len c) ks) := ⟨HZ.out.1.below hB3, HZ.out.2.1.below hB3, bthen HZ.out.2.2.1 (by have := HZ.out.2.2.2.2; omega) hB3, HZ.out.2.2.2.1.below hB3, HZ.out.2.2.2.2.1, by have := HZ.out.2.2.2.2.2; omega, HT.out.keep fun g hg hl => hB3.block g hl⟩
      obtain ⟨y0, y1, y2, y3, y4⟩ := HZ3.out.2.2.2.1.five
      have hlt : v1.heap.size < v3.heap.size := by have := HZ3.out.2.2.2.2.2.1; omega
      have y3A : ∀ o, (v3.alloc o).cell? ⟨v1.heap.size, 3, none⟩ = some (.int .i64 p) := fun o => (HZ3.out.2.2.2.1.alloc o).c 3 _ rfl
      have y3B : ∀ o o', ((v3.alloc o).alloc o').cell? ⟨v1.heap.size, 3, none⟩ = some (.int .i64 p) := fun o o' => ((HZ3.out.2.2.2.1.alloc o).alloc o').c 3 _ rfl
      obtain ⟨W4, hW4⟩ : ∃ W4, ((v3.alloc (.map #[] 0)).alloc (.cells #[.slice (some ⟨v3.heap.size + 1 + 1, 0, none⟩) 1 1, .slice none 0 0, .map (some v3.heap.size), .int .i64 0, .slice none 0 0, .int .i64 0, .slice none 0 0, .int .i64 0, .int .i64 0] 63)).alloc (.cells #[.string ⟨#[]⟩, .int .i64 p, .int .i64 0, .int .i64 0, .slice none 0 0] 48) = W4 := ⟨_, rfl⟩
      obtain ⟨K4, kn4⟩ := CK.start v3 p hW4
      have T4 := HZ3.out.2.2.2.1.kn kn4 hlt
      obtain ⟨t0, t1, t2, t3, t4⟩ := T4.five
      have rv3 := HZ3.out.2.2.2.2.2.2.rv
      have rv4 : Rv W4 (fun g => g < v3.heap.size) a ks := (rv3.monoL fun g _ hl => hl).kn kn4
      have KN := HN.out (fun g => g < v3.heap.size) (v3.heap.size + 1) W4 a c K4 rv4 HZ3.out.2.2.2.2.2.2.cap
      have HK4 : Hid (Kn (fun g => g < v3.heap.size) v3 W4) := kn4
      clear CHt hB3 K4 kn4 T4 rv3 rv4 HN HT
      go_wp2_with fail
      refine KN.mono ?_
      rintro e v5 hq
      have kn5 := HK4.out.trans hq.2.2
      obtain ⟨x5, hx5⟩ := hq.2.1
      obtain ⟨rfl, -⟩ := hq
      have hR3 : R < v3.heap.size ∧ R + 1 < v3.heap.size := by have := HZ3.out.2.2.2.2.1; omega
      have B5 : Below v3.heap.size v3 v5 := ⟨kn5.os, kn5.tape, kn5.output, kn5.size, fun g hg => kn5.block g hg hg⟩
      have CF := failed_any hx5
      obtain ⟨aF, cF, eF⟩ := slice_shape hx5.fr
      obtain ⟨aG, cG, eG⟩ := slice_shape hx5.gr
      have c0 : v5.cell? ⟨v3.heap.size + 1, 0, none⟩ = some (.slice aF s1.fs.length cF) := by rw [← eF]; exact hx5.bx.c 0 _ rfl
      have c1 : v5.cell? ⟨v3.heap.size + 1, 1, none⟩ = some (.slice aG s1.gl.length cG) := by rw [← eG]; exact hx5.bx.c 1 _ rfl
      have c7 : v5.cell? ⟨v3.heap.size + 1, 7, none⟩ = some (.int .i64 s1.cd) := hx5.bx.c 7 _ rfl
      have c8 : v5.cell? ⟨v3.heap.size + 1, 8, none⟩ = some (.int .i64 s1.ct) := hx5.bx.c 8 _ rfl
      have HRp : Hid (Rp v5 (.slice aF s1.fs.length cF) (.slice aG s1.gl.length cG) s1.fs s1.gl) := by
        rw [← eF, ← eG]
        exact ⟨⟨x5.vs, hx5.fr, hx5.vl, hx5.cs⟩, hx5.gr⟩
      have HF5 : Hid ((∀ g, Value.ownBlock (.slice aF s1.fs.length cF) = some g → g ≠ R ∧ g ≠ R + 1) ∧ (∀ g, Value.ownBlock (.slice aG s1.gl.length cG) = some g → g ≠ R ∧ g ≠ R + 1) ∧ ∀ (i : Nat) (v : Value) (g : Nat), x5.vs[i]? = some v → v.ownBlock = some g → g ≠ R ∧ g ≠ R + 1) := by
        have n1 := (hx5.no R hR3.1).2
        have n2 := (hx5.no (R + 1) hR3.2).2
        refine ⟨fun g hg => ?_, fun g hg => ?_, fun i v g hv hg => ?_⟩
        · rw [← eF] at hg
          have := hx5.lF g hg
          exact ⟨fun e => by rw [e] at this; omega, fun e => by rw [e] at this; omega⟩
        · rw [← eG] at hg
          have := hx5.lG g hg
          exact ⟨fun e => by rw [e] at this; omega, fun e => by rw [e] at this; omega⟩
        · have := hx5.lc i v g hv hg
          exact ⟨fun e => by rw [e] at this; omega, fun e => by rw [e] at this; omega⟩
      have HCK : Hid (v5.ownsRow 0 48 5 (.slice aF s1.fs.length cF) s1.fs.length (fcl s1.fs x5.vs) ∧ x5.vs.length = s1.fs.length ∧ (∀ (i : Nat) (f : Fn) (v : Value), s1.fs[i]? = some f → x5.vs[i]? = some v → v5.ownsRow 0 54 3 v f.cs.length (vcl f.cs)) ∧ v5.ownsRow 0 9 1 (.slice aG s1.gl.length cG) s1.gl.length (strs s1.gl)) := by
        rw [← eF, ← eG]
        exact ⟨hx5.fr, hx5.vl, hx5.cs, hx5.gr⟩
      have HZ5 : Hid (Bx R 25 #[.slice none 0 0, .slice none 0 0] v5 ∧ Bx (R + 1) 28 #[.int .i64 0, .int .i64 0] v5 ∧ Below R w v5) := ⟨HZ3.out.1.below B5, HZ3.out.2.1.below B5, bthen HZ3.out.2.2.1 (by omega) B5⟩
      have r0 := HZ5.out.1.c 0 _ rfl
      have r1 := HZ5.out.1.c 1 _ rfl
      have rf0 := HZ5.out.1.f 0
      have rf1 := HZ5.out.1.f 1
      have q0 := HZ5.out.2.1.c 0 _ rfl
      have q1 := HZ5.out.2.1.c 1 _ rfl
      have qf0 := HZ5.out.2.1.f 0
      have qf1 := HZ5.out.2.1.f 1
      have hne1 : ¬ R + 1 = R := by omega
      have hne2 : ¬ R = R + 1 := by omega
      have hne3 : ¬ v3.heap.size + 1 = R := by omega
      have hne4 : ¬ v3.heap.size + 1 = R + 1 := by omega
      have hne5 : ¬ v3.heap.size = R := by omega
      clear KN hx5 eF eG kn5 B5 HK4 t0 t1 t2 t3 t4 y0 y1 y2 y3 y4 y3A y3B hlt hv3 HZ3 HZ hW4
      by_cases hb : s1.bad = true
      · rw [hb] at CF
        have ho : outC s1 = (([], []), s1.cd, s1.ct) := by unfold outC; rw [if_pos hb]
        clear hb
        go_wp2_with fail
        refine CF.mono ?_
        rintro e v6 ⟨rfl, hw6⟩
        rw [hw6]
        clear CF
        go_wp2_with fail
        go_region
        all_goals
          go_wp2
          have D1 := ((((HZ5.out.1.put (j := 0) (.slice none 0 0)).put (j := 1) (.slice none 0 0)).set (b := R + 1) (o := 0) (by omega) (.int .i64 s1.cd)).set (b := R + 1) (o := 1) (by omega) (.int .i64 s1.ct))
          have D2 := ((((HZ5.out.2.1.set (b := R) (o := 0) (by omega) (.slice none 0 0)).set (b := R) (o := 1) (by omega) (.slice none 0 0)).put (j := 0) (.int .i64 s1.cd)).put (j := 1) (.int .i64 s1.ct))
          have D3 := (bset (bset (bset (bset HZ5.out.2.2 (b := R) (o := 0) (by omega) (.slice none 0 0)) (b := R) (o := 1) (by omega) (.slice none 0 0)) (b := R + 1) (o := 0) (by omega) (.int .i64 s1.cd)) (b := R + 1) (o := 1) (by omega) (.int .i64 s1.ct))
          have D1 := D1.drew
          have D2 := D2.drew
          have D3 := D3.drew
          generalize World.drew _ = V3 at D1 D2 D3 ⊢
          have z0 := D1.c 0 _ rfl
          have z1 := D1.c 1 _ rfl
          have z2 := D2.c 0 _ rfl
          have z3 := D2.c 1 _ rfl

          exact bodyPost_ret (v := .tuple #[.agg #[.slice none 0 0, .slice none 0 0], .agg #[.int .i64 s1.cd, .int .i64 s1.ct]]) (by simp [results, Tryz.results9, go_sem, z0, z1, z2, z3]) rfl (by rw [ho]; exact ⟨_, _, rfl, Rp.nil _, hR ▸ D3⟩)
      · have hbf := Bool.eq_false_iff.2 hb
        rw [hbf] at CF
        have ho : outC s1 = ((s1.fs, s1.gl), 0, 0) := by unfold outC; rw [if_neg hb]
        clear hb hbf
        go_wp2_with fail
        refine CF.mono ?_
        rintro e v6 ⟨rfl, hw6⟩
        rw [hw6]
        clear CF
        go_wp2
        have D1 := ((((HZ5.out.1.put (j := 0) (.slice aF s1.fs.length cF)).put (j := 1) (.slice aG s1.gl.length cG)).set (b := R + 1) (o := 0) (by omega) (.int .i64 0)).set (b := R + 1) (o := 1) (by omega) (.int .i64 0))
        have D2 := ((((HZ5.out.2.1.set (b := R) (o := 0) (by omega) (.slice aF s1.fs.length cF)).set (b := R) (o := 1) (by omega) (.slice aG s1.gl.length cG)).put (j := 0) (.int .i64 0)).put (j := 1) (.int .i64 0))
        have D3 := (bset (bset (bset (bset HZ5.out.2.2 (b := R) (o := 0) (by omega) (.slice aF s1.fs.length cF)) (b := R) (o := 1) (by omega) (.slice aG s1.gl.length cG)) (b := R + 1) (o := 0) (by omega) (.int .i64 0)) (b := R + 1) (o := 1) (by omega) (.int .i64 0))
        have KR : ∀ g, g ≠ R ∧ g ≠ R + 1 → ((((v5.setCell ⟨R, 0, none⟩ (.slice aF s1.fs.length cF)).setCell ⟨R, 1, none⟩ (.slice aG s1.gl.length cG)).setCell ⟨R + 1, 0, none⟩ (.int .i64 0)).setCell ⟨R + 1, 1, none⟩ (.int .i64 0)).heap[g]? = v5.heap[g]? := fun g hg => (((Below.heap_setCell _ _ _ g (by exact hg.2)).trans (Below.heap_setCell _ _ _ g (by exact hg.2))).trans (Below.heap_setCell _ _ _ g (by exact hg.1))).trans (Below.heap_setCell _ _ _ g (by exact hg.1))
        have D4 : Rp ((((v5.setCell ⟨R, 0, none⟩ (.slice aF s1.fs.length cF)).setCell ⟨R, 1, none⟩ (.slice aG s1.gl.length cG)).setCell ⟨R + 1, 0, none⟩ (.int .i64 0)).setCell ⟨R + 1, 1, none⟩ (.int .i64 0)) (.slice aF s1.fs.length cF) (.slice aG s1.gl.length cG) s1.fs s1.gl :=
          ⟨⟨x5.vs, own_keep HCK.out.1 fun g hg => KR g (HF5.out.1 g hg), HCK.out.2.1, fun i f v hf hv => own_keep (HCK.out.2.2.1 i f v hf hv) fun g hg => KR g (HF5.out.2.2 i v g hv hg)⟩, own_keep HCK.out.2.2.2 fun g hg => KR g (HF5.out.2.1 g hg)⟩
        clear KR
        generalize World.setCell _ _ _ = V3 at D1 D2 D3 D4 ⊢
        have z0 := D1.c 0 _ rfl
        have z1 := D1.c 1 _ rfl
        have z2 := D2.c 0 _ rfl
        have z3 := D2.c 1 _ rfl

        exact bodyPost_ret (v := .tuple #[.agg #[.slice aF s1.fs.length cF, .slice aG s1.gl.length cG], .agg #[.int .i64 0, .int .i64 0]]) (by simp [results, Tryz.results9, go_sem, z0, z1, z2, z3]) rfl (by rw [ho]; exact ⟨_, _, rfl, D4, hR ▸ D3⟩)
  · rw [if_neg hc]
    have hn := neq27 cd ct 0 0
    have hd : decide (cd = 0 ∧ ct = 0) = false := by simp [hc]
    rw [hd] at hn
    have hcb : (cd == 0) = false := by simpa using hc
    have HH : Hid (Bx R 25 #[.slice none 0 0, .slice none 0 0] V0 ∧ Bx (R + 1) 28 #[.int .i64 0, .int .i64 0] V0 ∧ Below R w V0 ∧ V0.heap.size = R + 2) := ⟨R0, F0, hR ▸ B0, e2⟩
    clear hok hzero hz R0 F0 B0
    go_enter Tryz.func9, Tryz.ntmps9
    go_wp2_with fail
    refine P.mono ?_
    rintro e v1 ⟨k, t, n, p, a, c, ks, rfl, hf, hT, hB⟩
    have R1 := HH.out.1.below hB
    have F1 := HH.out.2.1.below hB
    have T1 := Bx.new v1 42 #[.int .i64 k, .string ⟨t.toArray⟩, .int .i64 n, .int .i64 p, .slice a ks.len c]
    have T2 := (Bx.new (v1.alloc (.cells #[.int .i64 (k), .string ⟨(t).toArray⟩, .int .i64 (n), .int .i64 (p), .slice a ks.len c] 42)) 28 #[.int .i64 cd, .int .i64 ct])
    have e3 : (v1.alloc (.cells #[.int .i64 (k), .string ⟨(t).toArray⟩, .int .i64 (n), .int .i64 (p), .slice a ks.len c] 42)).heap.size = v1.heap.size + 1 := by simp
    rw [e3] at T2
    have B1 := b2 v1 (.cells #[.int .i64 (k), .string ⟨(t).toArray⟩, .int .i64 (n), .int .i64 (p), .slice a ks.len c] 42) (.cells #[.int .i64 cd, .int .i64 ct] 28)
    have R2 := R1.below B1
    have F2 := F1.below B1
    have hsz : R + 2 ≤ v1.heap.size := by have := hB.size; have := HH.out.2.2.2; omega
    have BB : Below R w v1 := bthen HH.out.2.2.1 (by have := HH.out.2.2.2; omega) hB
    have BB2 := bthen BB (by omega) B1
    obtain ⟨v2, hv2⟩ : ∃ v2, (v1.alloc (.cells #[.int .i64 (k), .string ⟨(t).toArray⟩, .int .i64 (n), .int .i64 (p), .slice a ks.len c] 42)).alloc (.cells #[.int .i64 cd, .int .i64 ct] 28) = v2 := ⟨_, rfl⟩
    rw [hv2] at T2 R2 F2 BB2
    have x0 := T2.c 0 _ rfl
    have x1 := T2.c 1 _ rfl
    have r0 := R2.c 0 _ rfl
    have r1 := R2.c 1 _ rfl
    have rf0 := R2.f 0
    have rf1 := R2.f 1
    have q0 := F2.c 0 _ rfl
    have q1 := F2.c 1 _ rfl
    have qf0 := F2.f 0
    have qf1 := F2.f 1
    have hne1 : ¬ R + 1 = R := by omega
    have hne2 : ¬ R = R + 1 := by omega
    have hne3 : ¬ v1.heap.size + 1 = R := by omega
    have hne4 : ¬ v1.heap.size + 1 = R + 1 := by omega
    have HZ : Hid (Bx R 25 #[.slice none 0 0, .slice none 0 0] v2 ∧ Bx (R + 1) 28 #[.int .i64 0, .int .i64 0] v2 ∧ Below R w v2) := ⟨R2, F2, BB2⟩
    clear T1 T2 R1 F1 R2 F2 B1 BB BB2 hT hB hf e3 hsz HH
    go_wp2_with fail
    go_region
    all_goals
      go_wp2
      have D1 := ((((HZ.out.1.put (j := 0) (.slice none 0 0)).put (j := 1) (.slice none 0 0)).set (b := R + 1) (o := 0) (by omega) (.int .i64 cd)).set (b := R + 1) (o := 1) (by omega) (.int .i64 ct)).drew
      have D2 := ((((HZ.out.2.1.set (b := R) (o := 0) (by omega) (.slice none 0 0)).set (b := R) (o := 1) (by omega) (.slice none 0 0)).put (j := 0) (.int .i64 cd)).put (j := 1) (.int .i64 ct)).drew
      have D3 := (bset (bset (bset (bset HZ.out.2.2 (b := R) (o := 0) (by omega) (.slice none 0 0)) (b := R) (o := 1) (by omega) (.slice none 0 0)) (b := R + 1) (o := 0) (by omega) (.int .i64 cd)) (b := R + 1) (o := 1) (by omega) (.int .i64 ct)).drew
      generalize World.drew _ = V3 at D1 D2 D3 ⊢
      have z0 := D1.c 0 _ rfl
      have z1 := D1.c 1 _ rfl
      have z2 := D2.c 0 _ rfl
      have z3 := D2.c 1 _ rfl
      exact bodyPost_ret (v := .tuple #[.agg #[.slice none 0 0, .slice none 0 0], .agg #[.int .i64 cd, .int .i64 ct]]) (by simp [results, Tryz.results9, go_sem, z0, z1, z2, z3]) rfl ⟨_, _, rfl, Rp.nil _, hR ▸ D3⟩
end Go.Proofs.YtmejlldabdjpjaaGreat

/- The scanner by steps that the kernel can count, and the document's examples (no program in it). -/
namespace Go.Proofs.YtmejlldabdjpjaaGreat
open Go.RowKit

def spnF : Nat → (Nat → Bool) → List UInt8 → Nat
  | 0, _, _ => 0
  | _ + 1, _, [] => 0
  | n + 1, f, c :: t => if f (rnL (c :: t)) then wdL (c :: t) + spnF n f (t.drop (wdL (c :: t) - 1)) else 0
theorem spnF_eq (f : Nat → Bool) : ∀ (n : Nat) (l : List UInt8), l.length ≤ n → spnF n f l = spn f l
  | 0, l, h => by
    have : l = [] := List.eq_nil_of_length_eq_zero (by omega)
    subst this; rw [spn_nil]; rfl
  | n + 1, [], _ => by rw [spn_nil]; rfl
  | n + 1, c :: t, h => by
    rw [spn, spnF]
    split
    · rw [spnF_eq f n _ (by rw [List.length_drop]; simp at h; omega)]
    · rfl

def qtF : Nat → UInt8 → List UInt8 → Nat → List UInt8 → QR
  | 0, _, _, _, _ => .bad 4 0
  | _ + 1, _, [], _, _ => .bad 4 0
  | n + 1, q, c :: t, i, acc =>
    if c.toNat = 10 then .bad 4 0
    else if c = q then (if 10000 < acc.length then .bad 14 0 else .ok acc (i + 1))
    else if c.toNat = 92 then
      if t = [] then .bad 4 0
      else if (esc t).2 = 0 then .bad 4 i
      else qtF n q (t.drop (esc t).2) (i + 1 + (esc t).2) (acc ++ (esc t).1)
    else qtF n q t (i + 1) (acc ++ [c])
theorem qtF_eq (q : UInt8) : ∀ (n : Nat) (l : List UInt8) (i : Nat) (acc : List UInt8), l.length ≤ n → qtF n q l i acc = qt q l i acc
  | 0, l, i, acc, h => by
    have : l = [] := List.eq_nil_of_length_eq_zero (by omega)
    subst this; rw [qt_nil]; rfl
  | n + 1, [], i, acc, _ => by rw [qt_nil]; rfl
  | n + 1, c :: t, i, acc, h => by
    simp only [List.length_cons] at h
    rw [qt, qtF]
    rw [qtF_eq q n _ _ _ (show (t.drop (esc t).2).length ≤ n by rw [List.length_drop]; omega), qtF_eq q n t _ _ (by omega)]

def stpF (l : List UInt8) : St :=
  if rnL l = 32 ∨ rnL l = 9 ∨ rnL l = 10 ∨ rnL l = 13 then .skip 1
  else if Lib.hasPrefix l [45, 45] then .skip (spnF l.length (fun r => decide (r ≠ 10)) l)
  else if letB (rnL l) then
    if 40 < spnF l.length inNm l then .bad 14 0
    else .tok (if wordB (l.take (spnF l.length inNm l)) then 2 else 1) (l.take (spnF l.length inNm l)) 0 (spnF l.length inNm l)
  else if digB (rnL l) then
    if W.parE (l.take (spnF l.length inNm l)) ≠ 0 then .bad (W.parE (l.take (spnF l.length inNm l))) 0
    else .tok 3 (l.take (spnF l.length inNm l)) (W.parN (l.take (spnF l.length inNm l))) (spnF l.length inNm l)
  else if rnL l = 39 ∨ rnL l = 34 then
    match qtF (l.drop 1).length (l.headD 0) (l.drop 1) 1 [] with
    | .ok v n => .tok 4 v 0 n
    | .bad c o => .bad c o
  else if sgz l = 0 then .bad 4 0
  else .tok 5 (l.take (sgz l)) 0 (sgz l)
theorem stpF_eq (l : List UInt8) : stpF l = stp l := by
  unfold stpF stp
  rw [spnF_eq _ _ _ (Nat.le_refl _), spnF_eq _ _ _ (Nat.le_refl _), qtF_eq _ _ _ _ _ (Nat.le_refl _)]
  rfl
def scnF : Nat → List UInt8 → Nat → List Tok → Res
  | 0, _, p, acc => .ok (acc ++ [⟨6, [], 0, p⟩])
  | _ + 1, [], p, acc => .ok (acc ++ [⟨6, [], 0, p⟩])
  | m + 1, c :: u, p, acc =>
    match stpF (c :: u) with
    | .skip n => scnF m (u.drop (n - 1)) (p + n) acc
    | .tok k t v n => scnF m (u.drop (n - 1)) (p + n) (acc ++ [⟨k, t, v, p⟩])
    | .bad d o => .bad d (p + o)
theorem scnF_eq : ∀ (m : Nat) (l : List UInt8) (p : Nat) (acc : List Tok), l.length ≤ m → scnF m l p acc = scn l p acc
  | 0, l, p, acc, h => by
    have : l = [] := List.eq_nil_of_length_eq_zero (by omega)
    subst this; rw [scn_nil]; rfl
  | m + 1, [], p, acc, _ => by rw [scn_nil]; rfl
  | m + 1, c :: u, p, acc, h => by
    simp only [List.length_cons] at h
    rw [scn, scnF, stpF_eq]
    cases stp (c :: u) with
    | skip n => simp only; rw [scnF_eq m _ _ _ (by rw [List.length_drop]; omega)]
    | tok k t v n => simp only; rw [scnF_eq m _ _ _ (by rw [List.length_drop]; omega)]
    | bad d o => rfl
def scTF (l : List UInt8) : List Tok × Int × Int :=
  if 20000 < l.length then ([], 14, -1) else match scnF l.length l 0 [] with | .ok ts => (ts, 0, 0) | .bad c p => ([], c, p)
theorem scTF_eq (l : List UInt8) : scTF l = scT l := by
  have h := scnF_eq l.length l 0 [] (Nat.le_refl _)
  unfold scTF scT
  split
  · rfl
  · cases hs : scn l 0 [] with
    | ok ts => rw [hs] at h; simp only [h]
    | bad c p => rw [hs] at h; simp only [h]

def prTF (l : List UInt8) : F × Int × Int := if (scTF l).2.1 ≠ 0 then (noF, (scTF l).2.1, (scTF l).2.2) else outT (chk (scTF l).1)
theorem prTF_eq (l : List UInt8) : prTF l = prT l := by unfold prTF prT; rw [scTF_eq]
def chTF (l : List UInt8) : (List Fn × List Tx) × Int × Int := if (prTF l).2.1 = 0 then chF (prTF l).1 else (([], []), (prTF l).2.1, (prTF l).2.2)
theorem chTF_eq (l : List UInt8) : chTF l = chT l := by unfold chTF chT; rw [prTF_eq]
def src1 : List UInt8 := [108, 111, 99, 97, 108, 32, 97, 44, 32, 98, 32, 61, 32, 49, 32, 102, 111, 114, 32, 105, 32, 61, 32, 49, 44, 32, 98, 32, 100, 111, 32, 108, 111, 99, 97, 108, 32, 99, 32, 101, 110, 100, 32, 112, 114, 105, 110, 116, 40, 97, 41]
def src2 : List UInt8 := [108, 111, 99, 97, 108, 32, 97, 32, 102, 117, 110, 99, 116, 105, 111, 110, 32, 102, 40, 41, 32, 114, 101, 116, 117, 114, 110, 32, 97, 32, 101, 110, 100]
def src3 : List UInt8 := [120, 32, 61, 32, 116, 97, 98, 108, 101, 46, 102, 111, 111]
theorem ch_ex1 : chT src1 = (([⟨[], 0, 0, 7, [(2, 1, [])]⟩], [[112, 114, 105, 110, 116]]), 0, 0) := by
  rw [← chTF_eq]; kernel_rfl
theorem ch_ex2 : chT src2 = (([], []), 5, 28) := by
  rw [← chTF_eq]; kernel_rfl
theorem ch_ex3 : chT src3 = (([], []), 5, 4) := by
  rw [← chTF_eq]; kernel_rfl
end Go.Proofs.YtmejlldabdjpjaaGreat

/- The law's examples; the reference's Library; CheckNames. -/
namespace Go.Proofs.YtmejlldabdjpjaaGreat
open Go.RowKit

theorem own_one {w : World} {e : TypeId} {z : Nat} {v : Value} {n : Nat} {xs : List Value} (h : w.ownsRow 0 e z v n xs) (hn : 0 < n) : ∃ g c, v = .slice (some ⟨g, 0, none⟩) n c ∧ g < w.heap.size ∧ ∀ j u, xs[j]? = some u → w.cell? ⟨g, j, none⟩ = some u := by
  rcases h.2 with ⟨_, h0⟩ | ⟨g, cap, cur, e, _⟩
  · omega
  · refine ⟨g, cap, e, (h.lt g (by rw [e]; rfl)).2, fun j u hu => ?_⟩
    obtain ⟨g', e1, e2⟩ := own_at h j u hu
    have e3 : g = g' := by rw [e] at e1; simpa [Value.ownBlock] using e1
    rw [e3]; exact e2

set_option maxRecDepth 20000 in
set_option maxHeartbeats 8000000 in
theorem fixedc_any (W : World) : Calls Tryz.prog 11 #[] W fun e w' => e = .returned (.bool true) ∧ Below W.heap.size W w' := by
  have C1 := Check_any ⟨src1.toArray⟩ W (by decide)
  have C2 := fun V => Check_any ⟨src2.toArray⟩ V (by decide)
  have C3 := fun V => Check_any ⟨src3.toArray⟩ V (by decide)
  rw [show (⟨src1.toArray⟩ : ByteArray).data.toList = src1 from rfl, ch_ex1] at C1
  rw [show (⟨src2.toArray⟩ : ByteArray).data.toList = src2 from rfl, ch_ex2] at C2
  rw [show (⟨src3.toArray⟩ : ByteArray).data.toList = src3 from rfl, ch_ex3] at C3
  unfold src1 at C1
  unfold src2 at C2
  unfold src3 at C3
  have L := fun V => library_any [116, 97, 98, 108, 101, 46, 115, 111, 114, 116] V
  rw [show libN [116, 97, 98, 108, 101, 46, 115, 111, 114, 116] = 17 from by decide] at L
  have E1 := eql27 5 28 5 28
  have E2 := eql27 5 4 5 4
  simp only [and_self, decide_true] at E1 E2
  go_enter Tryz.func11, Tryz.ntmps11
  go_wp2_with fail
  refine C1.mono ?_
  rintro e w1 ⟨vF, vG, rfl, hRp, hB1⟩
  obtain ⟨⟨vs, hF, hvs, hcs⟩, hG⟩ := hRp
  obtain ⟨gF, cF, rfl, hgF, hcF⟩ := own_one hF (by decide)
  obtain ⟨gG, cG, rfl, hgG, hcG⟩ := own_one hG (by decide)
  obtain ⟨v0, rfl⟩ : ∃ v0, vs = [v0] := by
    cases vs with
    | nil => simp at hvs
    | cons v0 l => cases l with
      | nil => exact ⟨v0, rfl⟩
      | cons _ _ => simp at hvs
  obtain ⟨gC, cC, rfl, hgC, hcC⟩ := own_one (hcs 0 _ v0 rfl rfl) (by decide)
  have d3 := hcF 3 _ rfl
  have d4 := hcF 4 _ rfl
  have d0 := hcG 0 _ rfl
  simp only [List.length_singleton] at d4
  have HQ : Hid (w1.cell? ⟨gF, 3, none⟩ = some (.int .i64 7) ∧ w1.cell? ⟨gF, 4, none⟩ = some (.slice (some ⟨gC, 0, none⟩) 1 cC) ∧ w1.cell? ⟨gG, 0, none⟩ = some (.string ⟨#[112, 114, 105, 110, 116]⟩) ∧ gF < w1.heap.size ∧ gG < w1.heap.size ∧ Below W.heap.size W w1) := ⟨d3, d4, d0, hgF, hgG, hB1⟩
  clear C1 hF hG hcs hvs hcF hcG hcC hB1 d3 d4 d0 hgC hgF hgG
  go_wp2_with fail
  refine (C2 _).mono ?_
  rintro e w2 ⟨vF2, vG2, rfl, hRp2, hB2⟩
  obtain ⟨⟨vs2, hF2, -, -⟩, hG2⟩ := hRp2
  obtain ⟨aF2, cF2, rfl⟩ := slice_shape hF2
  obtain ⟨aG2, cG2, rfl⟩ := slice_shape hG2
  have X1 := ((Bx.new w1 25 #[.slice (some ⟨gF, 0, none⟩) 1 cF, .slice (some ⟨gG, 0, none⟩) 1 cG]).alloc (.cells #[.int .i64 0, .int .i64 0] 28)).below hB2
  have X2 := (Bx.new (w1.alloc (.cells #[.slice (some ⟨gF, 0, none⟩) 1 cF, .slice (some ⟨gG, 0, none⟩) 1 cG] 25)) 28 #[.int .i64 0, .int .i64 0]).below hB2
  have e1 : (w1.alloc (.cells #[.slice (some ⟨gF, 0, none⟩) 1 cF, .slice (some ⟨gG, 0, none⟩) 1 cG] 25)).heap.size = w1.heap.size + 1 := by simp
  rw [e1] at X2
  have B2 := bthen (b2 w1 (.cells #[.slice (some ⟨gF, 0, none⟩) 1 cF, .slice (some ⟨gG, 0, none⟩) 1 cG] 25) (.cells #[.int .i64 0, .int .i64 0] 28)) (by simp; omega) hB2
  have HQ2 : Hid (Bx w1.heap.size 25 #[.slice (some ⟨gF, 0, none⟩) 1 cF, .slice (some ⟨gG, 0, none⟩) 1 cG] w2 ∧ Bx (w1.heap.size + 1) 28 #[.int .i64 0, .int .i64 0] w2 ∧ Below w1.heap.size w1 w2) := ⟨X1, X2, B2⟩
  clear C2 hF2 hG2 hB2 X1 X2 B2 e1
  simp only [List.length_nil]
  go_wp2_with fail
  refine (C3 _).mono ?_
  rintro e w3 ⟨vF3, vG3, rfl, hRp3, hB3⟩
  obtain ⟨⟨vs3, hF3, -, -⟩, hG3⟩ := hRp3
  obtain ⟨aF3, cF3, rfl⟩ := slice_shape hF3
  obtain ⟨aG3, cG3, rfl⟩ := slice_shape hG3
  have Y2 := (Bx.new (w2.alloc (.cells #[.slice aF2 0 cF2, .slice aG2 0 cG2] 25)) 28 #[.int .i64 5, .int .i64 28]).below hB3
  have e2 : (w2.alloc (.cells #[.slice aF2 0 cF2, .slice aG2 0 cG2] 25)).heap.size = w2.heap.size + 1 := by simp
  rw [e2] at Y2
  have B3 := bthen (b2 w2 (.cells #[.slice aF2 0 cF2, .slice aG2 0 cG2] 25) (.cells #[.int .i64 5, .int .i64 28] 28)) (by simp; omega) hB3
  have BZ := b2 w3 (.cells #[.slice aF3 0 cF3, .slice aG3 0 cG3] 25) (.cells #[.int .i64 5, .int .i64 4] 28)
  have Z2 := Bx.new (w3.alloc (.cells #[.slice aF3 0 cF3, .slice aG3 0 cG3] 25)) 28 #[.int .i64 5, .int .i64 4]
  have e3 : (w3.alloc (.cells #[.slice aF3 0 cF3, .slice aG3 0 cG3] 25)).heap.size = w3.heap.size + 1 := by simp
  rw [e3] at Z2
  obtain ⟨u3, hu3⟩ : ∃ u3, (w3.alloc (.cells #[.slice aF3 0 cF3, .slice aG3 0 cG3] 25)).alloc (.cells #[.int .i64 5, .int .i64 4] 28) = u3 := ⟨_, rfl⟩
  rw [hu3] at BZ Z2
  have BA2 := bthen HQ2.out.2.2 HQ2.out.2.2.size (bthen B3 B3.size BZ)
  have X1 := (HQ2.out.1.below B3).below BZ
  have X2 := (HQ2.out.2.1.below B3).below BZ
  have Y2 := Y2.below BZ
  have k3 := (BA2.cell (p := ⟨gF, 3, none⟩) (by exact HQ.out.2.2.2.1)).trans HQ.out.1
  have k4 := (BA2.cell (p := ⟨gF, 4, none⟩) (by exact HQ.out.2.2.2.1)).trans HQ.out.2.1
  have k0 := (BA2.cell (p := ⟨gG, 0, none⟩) (by exact HQ.out.2.2.2.2.1)).trans HQ.out.2.2.1
  have x0 := X1.c 0 _ rfl
  have x1 := X1.c 1 _ rfl
  have x2 := X2.c 0 _ rfl
  have y0 := Y2.c 0 _ rfl
  have y1 := Y2.c 1 _ rfl
  have z0 := Z2.c 0 _ rfl
  have z1 := Z2.c 1 _ rfl
  have HE : Hid (Below W.heap.size W u3) := bthen HQ.out.2.2.2.2.2 HQ.out.2.2.2.2.2.size BA2
  clear C3 hF3 hG3 hB3 X1 X2 Y2 Z2 B3 BZ BA2 e2 e3 HQ HQ2
  simp only [List.length_nil]
  go_wp2_with fail
  refine (L _).mono ?_
  rintro e w4 ⟨rfl, hw⟩
  rw [hw]
  go_wp2
  go_ret
  exact ⟨rfl, HE.out⟩
end Go.Proofs.YtmejlldabdjpjaaGreat

/- The reference's Library; CheckNames. -/
namespace Go.Proofs.YtmejlldabdjpjaaGreat
open Go.RowKit

def rnm : List Tx := [[112, 114, 105, 110, 116], [116, 121, 112, 101], [116, 111, 115, 116, 114, 105, 110, 103], [116, 111, 110, 117, 109, 98, 101, 114], [110, 101, 120, 116], [112, 97, 105, 114, 115], [105, 112, 97, 105, 114, 115], [114, 97, 119, 108, 101, 110], [115, 116, 97, 116, 115], [112, 114, 111, 98, 101, 115], [], [116, 97, 98, 108, 101, 46, 105, 110, 115, 101, 114, 116], [116, 97, 98, 108, 101, 46, 114, 101, 109, 111, 118, 101], [116, 97, 98, 108, 101, 46, 99, 111, 110, 99, 97, 116], [116, 97, 98, 108, 101, 46, 117, 110, 112, 97, 99, 107], [116, 97, 98, 108, 101, 46, 109, 111, 118, 101], [116, 97, 98, 108, 101, 46, 115, 111, 114, 116], [117, 116, 102, 56, 46, 108, 101, 110], [117, 116, 102, 56, 46, 99, 104, 97, 114], [117, 116, 102, 56, 46, 99, 111, 100, 101, 112, 111, 105, 110, 116], [117, 116, 102, 56, 46, 111, 102, 102, 115, 101, 116], [117, 116, 102, 56, 46, 99, 111, 100, 101, 115]]
theorem rnm_lib : ∀ i : Nat, i < 22 → ∀ u : Tx, rnm[i]? = some u → u ≠ [] → libN u = (i : Int) + 1 := by
  have h : ∀ i : Nat, i < 22 → (rnm[i]?).all (fun u => decide (u = []) || decide (libN u = (i : Int) + 1)) = true := by decide
  intro i hi u hu hne
  have := h i hi
  rw [hu] at this
  simp only [Option.all_some, Bool.or_eq_true, decide_eq_true_eq] at this
  exact this.resolve_left hne
theorem lib_in : ∀ (l : List (Tx × Int)) (t : Tx), libG l t = 0 ∨ t ∈ l.map (·.1)
  | [], _ => .inl rfl
  | x :: l, t => by
    unfold libG
    split
    · next h => exact .inr (by rw [h]; simp)
    · exact (lib_in l t).imp id fun h => by simp only [List.map_cons, List.mem_cons]; exact .inr h
theorem lib_none (t : Tx) (h : ∀ j u, j < 22 → rnm[j]? = some u → u ≠ t) : libN t = 0 := by
  refine (lib_in libL t).resolve_right fun hm => ?_
  have hs : ∀ x ∈ libL.map (·.1), x ∈ rnm := by decide
  obtain ⟨j, hj, e⟩ := List.mem_iff_getElem.1 (hs t hm)
  exact h j t hj (by rw [List.getElem?_eq_getElem hj, e]) rfl

set_option maxRecDepth 20000 in
set_option maxHeartbeats 4000000 in
theorem rlibrary_any (t : Tx) (w : World) : Calls Tryz.prog 14 #[.string ⟨t.toArray⟩] w fun e w' => e = .returned (.int .i64 (libN t)) ∧ Below w.heap.size w w' := by
  have X0 := Bx.new w 9 (strs rnm).toArray
  have B0 := b1 w (.cells (strs rnm).toArray 9)
  have HC : Hid (∀ i u, rnm[i]? = some u → (w.alloc (.cells (strs rnm).toArray 9)).cell? ⟨w.heap.size, i, none⟩ = some (.string ⟨u.toArray⟩)) := fun i u hu => X0.c i _ (by simpa using strs_at rnm i u hu)
  have el : (strs rnm).toArray = #[.string ⟨#[112, 114, 105, 110, 116]⟩, .string ⟨#[116, 121, 112, 101]⟩, .string ⟨#[116, 111, 115, 116, 114, 105, 110, 103]⟩, .string ⟨#[116, 111, 110, 117, 109, 98, 101, 114]⟩, .string ⟨#[110, 101, 120, 116]⟩, .string ⟨#[112, 97, 105, 114, 115]⟩, .string ⟨#[105, 112, 97, 105, 114, 115]⟩, .string ⟨#[114, 97, 119, 108, 101, 110]⟩, .string ⟨#[115, 116, 97, 116, 115]⟩, .string ⟨#[112, 114, 111, 98, 101, 115]⟩, .string ⟨#[]⟩, .string ⟨#[116, 97, 98, 108, 101, 46, 105, 110, 115, 101, 114, 116]⟩, .string ⟨#[116, 97, 98, 108, 101, 46, 114, 101, 109, 111, 118, 101]⟩, .string ⟨#[116, 97, 98, 108, 101, 46, 99, 111, 110, 99, 97, 116]⟩, .string ⟨#[116, 97, 98, 108, 101, 46, 117, 110, 112, 97, 99, 107]⟩, .string ⟨#[116, 97, 98, 108, 101, 46, 109, 111, 118, 101]⟩, .string ⟨#[116, 97, 98, 108, 101, 46, 115, 111, 114, 116]⟩, .string ⟨#[117, 116, 102, 56, 46, 108, 101, 110]⟩, .string ⟨#[117, 116, 102, 56, 46, 99, 104, 97, 114]⟩, .string ⟨#[117, 116, 102, 56, 46, 99, 111, 100, 101, 112, 111, 105, 110, 116]⟩, .string ⟨#[117, 116, 102, 56, 46, 111, 102, 102, 115, 101, 116]⟩, .string ⟨#[117, 116, 102, 56, 46, 99, 111, 100, 101, 115]⟩] := rfl
  rw [el] at B0 HC
  obtain ⟨X, hX⟩ : ∃ X, w.heap.size = X := ⟨_, rfl⟩
  obtain ⟨W1, hW1⟩ : ∃ W1, w.alloc (.cells #[.string ⟨#[112, 114, 105, 110, 116]⟩, .string ⟨#[116, 121, 112, 101]⟩, .string ⟨#[116, 111, 115, 116, 114, 105, 110, 103]⟩, .string ⟨#[116, 111, 110, 117, 109, 98, 101, 114]⟩, .string ⟨#[110, 101, 120, 116]⟩, .string ⟨#[112, 97, 105, 114, 115]⟩, .string ⟨#[105, 112, 97, 105, 114, 115]⟩, .string ⟨#[114, 97, 119, 108, 101, 110]⟩, .string ⟨#[115, 116, 97, 116, 115]⟩, .string ⟨#[112, 114, 111, 98, 101, 115]⟩, .string ⟨#[]⟩, .string ⟨#[116, 97, 98, 108, 101, 46, 105, 110, 115, 101, 114, 116]⟩, .string ⟨#[116, 97, 98, 108, 101, 46, 114, 101, 109, 111, 118, 101]⟩, .string ⟨#[116, 97, 98, 108, 101, 46, 99, 111, 110, 99, 97, 116]⟩, .string ⟨#[116, 97, 98, 108, 101, 46, 117, 110, 112, 97, 99, 107]⟩, .string ⟨#[116, 97, 98, 108, 101, 46, 109, 111, 118, 101]⟩, .string ⟨#[116, 97, 98, 108, 101, 46, 115, 111, 114, 116]⟩, .string ⟨#[117, 116, 102, 56, 46, 108, 101, 110]⟩, .string ⟨#[117, 116, 102, 56, 46, 99, 104, 97, 114]⟩, .string ⟨#[117, 116, 102, 56, 46, 99, 111, 100, 101, 112, 111, 105, 110, 116]⟩, .string ⟨#[117, 116, 102, 56, 46, 111, 102, 102, 115, 101, 116]⟩, .string ⟨#[117, 116, 102, 56, 46, 99, 111, 100, 101, 115]⟩] 9) = W1 := ⟨_, rfl⟩
  rw [hW1] at B0 HC
  rw [hX] at HC
  have HB : Hid (Below w.heap.size w W1) := B0
  have hlen : rnm.length = 22 := rfl
  clear X0 B0 el
  by_cases ht : t = []
  · subst ht
    have hv : libN [] = 0 := by decide
    rw [hv]
    go_enter Tryz.func14, Tryz.ntmps14
    go_wp2_with fail
    go_loopw [2, 4] (fun rv iv wx => ∃ i : Nat, iv = .int .i64 (i : Nat) ∧ i ≤ 22 ∧ wx = W1) (fun _ iv _ => 22 - (intOf iv).toNat)
    case atStart => exact ⟨0, rfl, Nat.zero_le _, rfl⟩
    case round =>
      obtain ⟨i, rfl, hi, rfl⟩ := hrel
      by_cases hlt : i < 22
      · go_wp2
        refine ⟨⟨i + 1, by go_num, by omega, trivial⟩, ?_⟩
        simp [intOf]; omega
      · obtain rfl : i = 22 := by omega
        go_wp2
        go_ret
        exact ⟨rfl, HB.out⟩
  · have htb : (t == []) = false := by simpa using ht
    have htn : (t != []) = true := by simpa using ht
    have HV : Hid (∀ (i : Nat) (u : Tx), i < 22 → rnm[i]? = some u → u = t → libN t = (i : Int) + 1) := fun i u hi hu e => by rw [← e]; exact rnm_lib i hi u hu (by rw [e]; exact ht)
    go_enter Tryz.func14, Tryz.ntmps14
    go_wp2_with fail
    go_loopw [2, 4] (fun rv iv wx => ∃ i : Nat, iv = .int .i64 (i : Nat) ∧ i ≤ 22 ∧ Hid (∀ j u, j < i → rnm[j]? = some u → u ≠ t) ∧ wx = W1) (fun _ iv _ => 22 - (intOf iv).toNat)
    case atStart => exact ⟨0, rfl, Nat.zero_le _, fun j u hj => absurd hj (Nat.not_lt_zero _), rfl⟩
    case round =>
      obtain ⟨i, rfl, hi, HR, rfl⟩ := hrel
      by_cases hlt : i < 22
      · obtain ⟨u, hu⟩ : ∃ u, rnm[i]? = some u := ⟨_, List.getElem?_eq_getElem (by rw [hlen]; exact hlt)⟩
        have hc := HC.out i u hu
        by_cases he : u = t
        · have HE : Hid (libN t = (i : Int) + 1) := HV.out i u hlt hu he
          subst he
          clear hu HV
          go_wp2
          go_ret
          exact ⟨by rw [HE.out]; rfl, HB.out⟩
        · have HN : Hid (∀ j v, j < i + 1 → rnm[j]? = some v → v ≠ t) := fun j v hj hv => by
            by_cases e : j = i
            · subst e; rw [hu] at hv; injection hv with hv; rw [← hv]; exact he
            · exact HR.out j v (by omega) hv
          have he2 : (u == t) = false := by simpa using he
          clear hu HR
          go_wp2
          refine ⟨⟨i + 1, by go_num, by omega, HN, trivial⟩, ?_⟩
          simp [intOf]; omega
      · obtain rfl : i = 22 := by omega
        have HE : Hid (libN t = 0) := lib_none t HR.out
        clear HR HV
        go_wp2
        go_ret
        exact ⟨by rw [HE.out]; rfl, HB.out⟩

theorem lib_rng (t : Tx) : 0 ≤ libN t ∧ libN t ≤ 22 := by
  have h : ∀ (l : List (Tx × Int)) (t : Tx), (∀ x ∈ l, 0 ≤ x.2 ∧ x.2 ≤ 22) → 0 ≤ libG l t ∧ libG l t ≤ 22 := by
    intro l
    induction l with
    | nil => intro t _; exact ⟨Int.le_refl 0, (by decide : (0 : Int) ≤ 22)⟩
    | cons x l ih =>
      intro t hx
      unfold libG
      split
      · exact hx x (by simp)
      · exact ih t fun y hy => hx y (by simp [hy])
  exact h libL t (by decide)

set_option maxRecDepth 20000 in
set_option maxHeartbeats 4000000 in
theorem names_walk (s : ByteArray) (W : World) : Calls Tryz.prog 4 #[.string s] W fun e w' => e = .returned (.bool true) ∧ Below W.heap.size W w' := by
  obtain ⟨⟨t⟩⟩ := s
  have es : (⟨⟨t⟩⟩ : ByteArray) = ⟨t.toArray⟩ := rfl
  rw [es]
  have L1 := library_any t W
  have FX := fixedc_any W
  have L2 := fun V => rlibrary_any t V
  have L3 := fun V => library_any [112, 114, 105, 110, 116] V
  have L4 := fun V => library_any [117, 116, 102, 56, 46, 99, 111, 100, 101, 115] V
  rw [show libN [112, 114, 105, 110, 116] = 1 from by decide] at L3
  rw [show libN [117, 116, 102, 56, 46, 99, 111, 100, 101, 115] = 22 from by decide] at L4
  obtain ⟨r1, r2⟩ := lib_rng t
  generalize libN t = z at *
  have r1b : decide (0 ≤ z) = true := by simpa using r1
  have r2b : decide (z ≤ 22) = true := by simpa using r2
  clear es
  go_enter Tryz.func4, Tryz.ntmps4
  go_wp2_with fail
  refine L1.mono ?_
  rintro e w0 ⟨rfl, hw0⟩
  rw [hw0]
  go_wp2_with fail
  refine FX.mono ?_
  rintro e w1 ⟨rfl, hb1⟩
  go_wp2_with fail
  refine (L2 _).mono ?_
  rintro e w2 ⟨rfl, hb2⟩
  have HB : Hid (Below W.heap.size W w2) := bthen hb1 hb1.size hb2
  clear hb1 hb2 FX L1 L2
  go_wp2_with fail
  refine (L3 _).mono ?_
  rintro e w3 ⟨rfl, hw3⟩
  rw [hw3]
  go_wp2_with fail
  refine (L4 _).mono ?_
  rintro e w4 ⟨rfl, hw4⟩
  rw [hw4]
  go_wp2
  go_ret
  exact ⟨rfl, HB.out⟩
end Go.Proofs.YtmejlldabdjpjaaGreat
