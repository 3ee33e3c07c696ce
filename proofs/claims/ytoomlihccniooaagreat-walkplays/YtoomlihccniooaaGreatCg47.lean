/- The walk of the reference's List. The numbers of the seat of WalkPlays. -/
import Derived.Test.YtoomlihccniooaaGreatCg46
import Derived.Test.YtoomlihccniooaaGreatCg23
import Derived.Test.YtoomlihccniooaaGreatCg32
import Derived.Test.YtoomlihccniooaaGreatCg40
namespace Go.Proofs.YtoomlihccniooaaGreat
open Go.RowKit Go.Shelf
theorem info105 : (Tryz.prog.info? 105).map (fun i => (i.zero, i.size, i.bytes)) = some (some (.agg #[.int .i64 0, .int .i64 0, .string ⟨#[]⟩, .int .i64 0, .int .i64 0, .string ⟨#[]⟩]), 6, 64) := by kernel_rfl
theorem new6r (W : World) (x : V × V) : ∀ (j : Nat) (u : Value), (cP x)[j]? = some u → (W.alloc (.cells #[.int .i64 x.1.1, .int .i64 x.1.2.1, .string x.1.2.2, .int .i64 x.2.1, .int .i64 x.2.2.1, .string x.2.2.2] 105)).cell? ((⟨W.heap.size, 0, none⟩ : Addr).add j) = some u := fun j u hu => by
  have h := (MapKept.heap_alloc W (.cells #[.int .i64 x.1.1, .int .i64 x.1.2.1, .string x.1.2.2, .int .i64 x.2.1, .int .i64 x.2.2.1, .string x.2.2.2] 105)).1
  have hj : j < 6 := by
    have := (List.getElem?_eq_some_iff.1 hu).1
    simpa [cP] using this
  have hadd : ((⟨W.heap.size, 0, none⟩ : Addr).add j) = ⟨W.heap.size, j, none⟩ := by
    by_cases hj0 : j = 0
    · subst hj0; rfl
    · simp [Addr.add, hj0]
  rw [hadd]
  obtain rfl | rfl | rfl | rfl | rfl | rfl : j = 0 ∨ j = 1 ∨ j = 2 ∨ j = 3 ∨ j = 4 ∨ j = 5 := by omega
  · cases hu; exact cell_of_row h 0
  · cases hu; exact cell_of_row h 1
  · cases hu; exact cell_of_row h 2
  · cases hu; exact cell_of_row h 3
  · cases hu; exact cell_of_row h 4
  · cases hu; exact cell_of_row h 5
/-- A list of pairs in memory that grows by append. -/
structure Lr (w : World) (B : Nat) (v : Value) (l : List (V × V)) : Prop where
  own : w.ownsRow B 105 6 v l.length (cPs l)
theorem Lr.form {w : World} {B : Nat} {v : Value} {l : List (V × V)} (h : Lr w B v l) : ∃ a c, v = .slice a l.length c := by
  rcases h.own.2 with ⟨q, q2⟩ | ⟨g, cap, cur, q, _⟩
  · have : l.length = 0 := by simpa using q2
    exact ⟨none, 0, by rw [q, this]⟩
  · exact ⟨_, _, q⟩
theorem Lr.below {w w' : World} {B : Nat} {v : Value} {l : List (V × V)} (h : Lr w B v l) (k : Below w.heap.size w w') : Lr w' B v l := by
  refine ⟨h.own.1, ?_⟩
  rcases h.own.2 with q | ⟨g, cap, cur, rfl, h2, h3, h4⟩
  · exact .inl q
  · exact .inr ⟨g, cap, cur, rfl, h2, by rw [k.block g (Array.getElem?_eq_some_iff.1 h3).1]; exact h3, h4⟩
theorem Lr.push {w0 w : World} {B : Nat} {v : Value} {l : List (V × V)} (hb : Below B w0 w) (hB : B ≤ w.heap.size) (h : Lr w B v l) (x : V × V) (hn : l.length ≤ 200000) :
    ∃ g c w', (Builtin.append_ #[64, 64] 64 #[v, .slice (some ⟨w.heap.size, 0, none⟩) 1 1]).run Tryz.prog (w.alloc (.cells #[.int .i64 x.1.1, .int .i64 x.1.2.1, .string x.1.2.2, .int .i64 x.2.1, .int .i64 x.2.2.1, .string x.2.2.2] 105)) = .ok (.slice (some ⟨g, 0, none⟩) (l.length + 1) c) w' ∧ Lr w' B (.slice (some ⟨g, 0, none⟩) (l.length + 1) c) (l ++ [x]) ∧ Below B w0 w' := by
  have b5 := b1 w (.cells #[.int .i64 x.1.1, .int .i64 x.1.2.1, .string x.1.2.2, .int .i64 x.2.1, .int .i64 x.2.2.1, .string x.2.2.2] 105)
  obtain ⟨i0, hi, hz0, hz1, hz2⟩ := info_parts info105
  obtain ⟨g, c, w', h1, h2, h3, h4, h5⟩ := run_append_lies (P := Tryz.prog) _ 64 64 B 105 i0 (.agg #[.int .i64 0, .int .i64 0, .string ⟨#[]⟩, .int .i64 0, .int .i64 0, .string ⟨#[]⟩]) 6 64 Tryz.underlying64 hi hz0 hz1 hz2 rfl (by omega) v l.length (cPs l) (h.below b5).own ⟨w.heap.size, 0, none⟩ 1 1 (cP x) rfl (new6r w x) (by simp [cP, Value.oneCell']) (by omega) (by simp only [maxLen]; omega) (by omega) (by have := b5.size; omega) _ rfl
  refine ⟨g, c, w', h1, ⟨by rw [cPs_snoc, List.length_append]; exact h2⟩, (bthen hb hB b5).trans ⟨h3.os, h3.tape, h3.output, h3.size, fun y hy => h3.block y (by have := b5.size; omega) (fun e => ?_)⟩⟩
  have := (h.own.lt y e.symm).1
  omega
set_option maxRecDepth 20000 in
set_option maxHeartbeats 4000000 in
theorem rlist_any {w : World} {RT A P ka va ca : Nat} {cb : Nat → Nat} {G : Nat} {t : TS} (h : Rb w RT A P ka va ca cb G t) (ti : TI t.p) :
    Calls Tryz.prog 26 #[tp RT] w fun e w' => ∃ v, e = .returned v ∧ w'.ownsRow w.heap.size 105 6 v (wl t.p).length (cPs (wl t.p)) ∧ Below w.heap.size w w' := by
  have HH : Hid (Rb w RT A P ka va ca cb G t) := h
  have HTI : Hid (TI t.p) := ti
  have hn := ti.le
  have hz := ti.rt.le
  clear h ti
  unfold tp
  go_enter Tryz.func26, Tryz.ntmps26
  go_wp2_with fail
  go_loopw [3, 4] (fun lw jw wr => ∃ (i : Nat) (l : List (V × V)), jw = .int .i64 ((i : Int) + 1) ∧ i ≤ t.p.n + t.p.z ∧ l.length ≤ 200000 ∧ Hid (lsF t.p i 1 = l) ∧ Hid (Lr wr w.heap.size lw l ∧ Below w.heap.size w wr)) (fun _ jw _ => t.p.n + t.p.z + 1 - (intOf jw).toNat)
  case atStart => exact ⟨0, [], rfl, by omega, by simp, rfl, ⟨World.ownsRow_nil _ _ _ _⟩, Below.refl _ _⟩
  case round =>
    obtain ⟨i, l, rfl, hi, hl, HE, HL⟩ := hrel
    obtain ⟨ak, ck, hvk⟩ := HL.out.1.form
    subst hvk
    have CPl := rplaces_any (HH.out.below HL.out.2) HTI.out
    by_cases hlt : i < t.p.n + t.p.z
    · have g0 : ((i : Int) + 1 ≤ ((t.p.n + t.p.z : Nat) : Int)) := by omega
      have hwi : IntKind.i64.wrap ((i : Int) + 1 + 1) = (i : Int) + 1 + 1 := by rw [IntKind.wrap_i64]; omega
      have CPr := fun (W2 : World) (hb : Below w.heap.size w W2) => rpair_all (HH.out.below hb) HTI.out ((i : Int) + 1)
      simp only [prO_prP] at CPr
      obtain ⟨y, hy⟩ : ∃ y, prO t.p ((i : Int) + 1) = y := ⟨_, rfl⟩
      simp only [hy] at CPr
      have HS : Hid (lsF t.p (i + 1) 1 = l ++ (if y.2.1 ≠ 0 then [y] else [])) := by
        show _ = _
        rw [lsF_snoc, HE.out, show ((1 + i : Nat) : Int) = (i : Int) + 1 by omega, hy]
      have hl1 : l.length ≤ i := by have := lsF_len t.p i 1; rw [HE.out] at this; exact this
      unfold vv vl at CPr
      have HCPr : Hid _ := CPr
      clear hy CPr HE
      generalize hnz : ((t.p.n + t.p.z : Nat) : Int) = nz at *
      go_wp2_with fail
      refine CPl.mono ?_; rintro e W2 ⟨rfl, hb2⟩
      have HB2 : Hid (Lr W2 w.heap.size (.slice ak l.length ck) l ∧ Below w.heap.size w W2) := ⟨HL.out.1.below hb2, bthen HL.out.2 HL.out.2.size hb2⟩
      have C3 := HCPr.out W2 HB2.out.2
      clear CPl hb2 HCPr HL
      go_wp2_with fail
      refine C3.mono ?_; rintro e W3 ⟨rfl, hb3⟩
      have e5 : (W3.alloc (.cells #[.int .i64 y.1.1, .int .i64 y.1.2.1, .string y.1.2.2] 31)).heap.size = W3.heap.size + 1 := by simp
      have x8 : Bx ((W3.alloc (vb y.1.1 y.1.2.1 y.1.2.2)).alloc (vb y.2.1 y.2.2.1 y.2.2.2)) W3.heap.size y.1 := (Bx.made W3 y.1).below (b1 _ _)
      have x9 := Bx.made (W3.alloc (vb y.1.1 y.1.2.1 y.1.2.2)) y.2
      have b5 := b2 W3 (vb y.1.1 y.1.2.1 y.1.2.2) (vb y.2.1 y.2.2.1 y.2.2.2)
      unfold vb at x8 x9 b5
      rw [e5] at x9
      obtain ⟨W5, hW5⟩ : ∃ W5, (W3.alloc (.cells #[.int .i64 y.1.1, .int .i64 y.1.2.1, .string y.1.2.2] 31)).alloc (.cells #[.int .i64 y.2.1, .int .i64 y.2.2.1, .string y.2.2.2] 31) = W5 := ⟨_, rfl⟩
      rw [hW5] at x8 x9 b5
      have HB5 : Hid (Lr W5 w.heap.size (.slice ak l.length ck) l ∧ Below w.heap.size w W5) := ⟨(HB2.out.1.below hb3).below b5, bthen (bthen HB2.out.2 HB2.out.2.size hb3) (Nat.le_trans HB2.out.2.size hb3.size) b5⟩
      have a0 := x8.c0
      have a1 := x8.c1
      have a2 := x8.c2
      have a3 := x9.c0
      have a4 := x9.c1
      have a5 := x9.c2
      clear C3 hb3 HB2 x8 x9 b5
      by_cases hy0 : y.2.1 = 0
      · have g1 : (y.2.1 != 0) = false := by simp [hy0]
        have HS2 : Hid (lsF t.p (i + 1) 1 = l) := by have q := HS.out; rw [if_neg (by simp [hy0]), List.append_nil] at q; exact q
        clear hy0 HS
        go_wp2_with fail
        go_round
        case rel => exact ⟨i + 1, l, by go_num, by omega, by omega, HS2, HB5⟩
        case measure => simp [intOf]; omega
      · have g1 : (y.2.1 != 0) = true := by simp [hy0]
        have HS2 : Hid (lsF t.p (i + 1) 1 = l ++ [y]) := by have q := HS.out; rw [if_pos hy0] at q; exact q
        obtain ⟨g, cc, W6, hr, l6, hb6⟩ := Lr.push HB5.out.2 HB5.out.2.size HB5.out.1 y (by omega)
        have HB6 : Hid (Lr W6 w.heap.size (.slice (some ⟨g, 0, none⟩) (l.length + 1) cc) (l ++ [y]) ∧ Below w.heap.size w W6) := ⟨l6, hb6⟩
        clear hy0 HS l6 hb6 HB5
        go_wp2_with (at_builtin; refine wp_app rfl _ _ 64 rfl 64 rfl _ _ rfl rfl hr ?_)
        go_round
        case rel => exact ⟨i + 1, l ++ [y], by go_num, by omega, by simp; omega, HS2, HB6⟩
        case measure => simp [intOf]; omega
    · have g0 : ¬ ((i : Int) + 1 ≤ ((t.p.n + t.p.z : Nat) : Int)) := by omega
      have HEw : Hid (wl t.p = l) := by
        show _ = _
        rw [wl, ← HE.out, show t.p.n + t.p.z = i by omega]
      clear HE
      generalize ((t.p.n + t.p.z : Nat) : Int) = nz at *
      go_wp2_with fail
      refine CPl.mono ?_; rintro e W2 ⟨rfl, hb2⟩
      have HB2 : Hid (Lr W2 w.heap.size (.slice ak l.length ck) l ∧ Below w.heap.size w W2) := ⟨HL.out.1.below hb2, bthen HL.out.2 HL.out.2.size hb2⟩
      clear CPl hb2 HL
      go_wp2_with fail
      go_ret
      rw [HEw.out]
      exact ⟨_, rfl, HB2.out.1.own, HB2.out.2⟩
end Go.Proofs.YtoomlihccniooaaGreat

/- The walk of same: two lists of pairs. The numbers of the seat of WalkPlays. -/
namespace Go.Proofs.YtoomlihccniooaaGreat
open Go.RowKit
theorem cP_len (x : V × V) : (cP x).length = 6 := rfl
theorem cPs_get : ∀ (l : List (V × V)) (i j : Nat) (x : V × V), l[i]? = some x → j < 6 → (cPs l)[i * 6 + j]? = (cP x)[j]?
  | [], i, _, _, h, _ => by simp at h
  | y :: l, 0, j, x, h, hj => by
    simp only [List.getElem?_cons_zero, Option.some.injEq] at h
    subst h
    show (cP y ++ cPs l)[0 * 6 + j]? = _
    rw [Nat.zero_mul, Nat.zero_add, List.getElem?_append_left (by rw [cP_len]; exact hj)]
  | y :: l, i + 1, j, x, h, hj => by
    simp only [List.getElem?_cons_succ] at h
    show (cP y ++ cPs l)[(i + 1) * 6 + j]? = _
    rw [List.getElem?_append_right (by rw [cP_len]; omega), cP_len, show (i + 1) * 6 + j - 6 = i * 6 + j by omega]
    exact cPs_get l i j x h hj
theorem pr_of {w : World} {base e : Nat} {v : Value} {l : List (V × V)} (h : w.ownsRow base e 6 v l.length (cPs l)) : ∃ a cp, v = .slice a l.length cp ∧ ∀ x, x ∈ l → ∃ g, a = some ⟨g, 0, none⟩ ∧ g < w.heap.size ∧ ∀ i x, l[i]? = some x → w.cell? ⟨g, i * 6, none⟩ = some (.int .i64 x.1.1) ∧ w.cell? ⟨g, i * 6 + 1, none⟩ = some (.int .i64 x.1.2.1) ∧ w.cell? ⟨g, i * 6 + 2, none⟩ = some (.string x.1.2.2) ∧ w.cell? ⟨g, i * 6 + 3, none⟩ = some (.int .i64 x.2.1) ∧ w.cell? ⟨g, i * 6 + 4, none⟩ = some (.int .i64 x.2.2.1) ∧ w.cell? ⟨g, i * 6 + 5, none⟩ = some (.string x.2.2.2) := by
  rcases h.2 with ⟨rfl, h0⟩ | ⟨g, cap, cur, rfl, hb, hg, _, _, _, hc⟩
  · refine ⟨none, 0, by rw [h0], fun x hx => ?_⟩
    have : l = [] := List.length_eq_zero_iff.1 h0
    rw [this] at hx; cases hx
  · refine ⟨_, cap, rfl, fun x hx => ⟨g, rfl, (Array.getElem?_eq_some_iff.1 hg).1, fun i x hi => ?_⟩⟩
    have hil : i < l.length := (List.getElem?_eq_some_iff.1 hi).1
    have key : ∀ j u, j < 6 → (cP x)[j]? = some u → w.cell? ⟨g, i * 6 + j, none⟩ = some u := fun j u hj hu => by
      have h1 := cPs_get l i j x hi hj
      rw [hu, ← hc, List.getElem?_take, if_pos (by omega)] at h1
      rw [show w.cell? ⟨g, i * 6 + j, none⟩ = cur[i * 6 + j]? from by simp [World.cell?, hg]]
      simpa using h1
    exact ⟨key 0 _ (by omega) rfl, key 1 _ (by omega) rfl, key 2 _ (by omega) rfl, key 3 _ (by omega) rfl, key 4 _ (by omega) rfl, key 5 _ (by omega) rfl⟩
set_option maxRecDepth 20000 in
set_option maxHeartbeats 4000000 in
theorem psame_any {w : World} {B1 B2 : Nat} {v1 v2 : Value} {l : List (V × V)} (h1 : w.ownsRow B1 104 6 v1 l.length (cPs l)) (h2 : w.ownsRow B2 105 6 v2 l.length (cPs l)) (hl : l.length ≤ 200000) :
    Calls Tryz.prog 24 #[v1, v2] w fun e w' => e = .returned (.bool true) ∧ Below w.heap.size w w' := by
  obtain ⟨a1, p1, rfl, f1⟩ := pr_of h1
  obtain ⟨a2, p2, rfl, f2⟩ := pr_of h2
  have H1 : Hid _ := f1
  have H2 : Hid _ := f2
  clear h1 h2 f1 f2
  obtain ⟨n, hn⟩ : ∃ n, l.length = n := ⟨_, rfl⟩
  rw [hn] at hl
  rw [hn]
  go_enter Tryz.func24, Tryz.ntmps24
  go_wp2_with fail
  go_loopw [5] (fun iw wr => ∃ i : Nat, iw = .int .i64 (i : Nat) ∧ i ≤ n ∧ Hid (Below w.heap.size w wr)) (fun iw _ => n - (intOf iw).toNat)
  case atStart => exact ⟨0, rfl, by omega, Below.refl _ _⟩
  case round =>
    obtain ⟨i, rfl, hi, HB⟩ := hrel
    by_cases hlt : i < n
    · have hlt' : (i : Int) < (n : Int) := by omega
      obtain ⟨x, hx⟩ : ∃ x, l[i]? = some x := ⟨_, List.getElem?_eq_getElem (by omega)⟩
      have hm : x ∈ l := List.mem_of_getElem? hx
      obtain ⟨g1, e1, lt1, c1⟩ := H1.out x hm
      obtain ⟨g2, e2, lt2, c2⟩ := H2.out x hm
      subst e1 e2
      obtain ⟨u0, u1, u2, u3, u4, u5⟩ := c1 i x hx
      obtain ⟨z0, z1, z2, z3, z4, z5⟩ := c2 i x hx
      have k1 := fun j v (q : w.cell? ⟨g1, j, none⟩ = some v) => (HB.out.cell (p := ⟨g1, j, none⟩) lt1).trans q
      have k2 := fun j v (q : w.cell? ⟨g2, j, none⟩ = some v) => (HB.out.cell (p := ⟨g2, j, none⟩) lt2).trans q
      have a0 := k1 _ _ u0
      have a1 := k1 _ _ u1
      have a2 := k1 _ _ u2
      have a3 := k1 _ _ u3
      have a4 := k1 _ _ u4
      have a5 := k1 _ _ u5
      have b0 := k2 _ _ z0
      have b1 := k2 _ _ z1
      have b2 := k2 _ _ z2
      have b3 := k2 _ _ z3
      have b4 := k2 _ _ z4
      have b5 := k2 _ _ z5
      have N1 := neq32 x.1.1 x.1.2.1 x.1.1 x.1.2.1 x.1.2.2 x.1.2.2
      have N2 := neq32 x.2.1 x.2.2.1 x.2.1 x.2.2.1 x.2.2.2 x.2.2.2
      simp only [decide_true, Bool.not_true] at N1 N2
      unfold vl at N1 N2
      have g32 := guard32
      clear hx hm u0 u1 u2 u3 u4 u5 z0 z1 z2 z3 z4 z5 k1 k2 c1 c2 lt1 lt2 hn
      go_wp2_with fail
      go_quiet (fail)
      go_wp2_with fail
      go_round
      case rel => exact ⟨i + 1, by go_num, by omega, HB.out.trans (bdrew _ _ _)⟩
      case measure => simp [intOf]; omega
    · have hlt' : ¬ (i : Int) < (n : Int) := by omega
      go_wp2_with fail
      go_ret
      exact ⟨rfl, HB.out⟩
end Go.Proofs.YtoomlihccniooaaGreat

/- The walk of begin: both tables, of small sizes. The numbers of the seat of BorderPlays. -/
namespace Go.Proofs.YtoomlihccniooaaGreat
open Go.RowKit

set_option maxRecDepth 20000 in
set_option maxHeartbeats 4000000 in
theorem begin10_any (x y : Int) (v : Value) (w : World) :
    Calls Tryz.prog 21 #[cw x y v] w fun e w' => ∃ T S hb RT G t s, e = .returned (.tuple #[tp T, tp RT, .bool true]) ∧ Bz (fun g => g < w.heap.size) w' T S hb RT G 3 t s t s ∧ Below w.heap.size w w' ∧ t.hint = 0 ∧ t = newT t.p.n t.p.z t.sb t.nb ∧ s = nS (H.newSt 400000) (sz x) (sz y) ∧ Okn (H.newSt 400000) (sz x) (sz y) t.p.n t.p.z ∧ t.sb = H.takeId (H.takeSt (H.newSt 400000) 4) (t.p.n : Nat) ∧ t.nb = H.takeId (H.takeSt (H.takeSt (H.newSt 400000) 4) (t.p.n : Nat)) (3 * (t.p.z : Nat)) := by
  have hx := sz_ok x
  have hy := sz_ok y
  have he := ne_small hx hy
  have iv := H.Inv.new 400000 (by omega) (by omega)
  have C1 := fun W => H.new_walk W 400000 (by omega) (by omega)
  have B0 := b1 w (.cells #[.int .i64 x, .int .i64 y, v] 54)
  have c0 : (w.alloc (.cells #[.int .i64 x, .int .i64 y, v] 54)).heap[w.heap.size]? = some (.cells #[.int .i64 x, .int .i64 y, v] 54) := (MapKept.heap_alloc w _).1
  obtain ⟨W0, hW0⟩ : ∃ W0, w.alloc (.cells #[.int .i64 x, .int .i64 y, v] 54) = W0 := ⟨_, rfl⟩
  rw [hW0] at B0 c0
  have x1 : W0.cell? ⟨w.heap.size, 0, none⟩ = some (.int .i64 x) := cell_of_row c0 0
  have x2 : W0.cell? ⟨w.heap.size, 1, none⟩ = some (.int .i64 y) := cell_of_row c0 1
  obtain ⟨W0', hW0'⟩ : ∃ W, W0.drew = W := ⟨_, rfl⟩
  have B0' : Below w.heap.size w W0' := by rw [← hW0']; exact bthen B0 B0.size (bdrew1 W0)
  have hp := new_hp W0' 400000 (fun g => g < W0'.heap.size) (fun g q => q)
  have B1 := b2 W0' (.map #[] 0) (.cells #[.int .i64 400000, .int .i64 0, .int .i64 0, .slice none 0 0, .map (some W0'.heap.size)] 109)
  have C1' := C1 W0'
  obtain ⟨W1, hW1⟩ : ∃ W1, (W0'.alloc (.map #[] 0)).alloc (.cells #[.int .i64 400000, .int .i64 0, .int .i64 0, .slice none 0 0, .map (some W0'.heap.size)] 109) = W1 := ⟨_, rfl⟩
  rw [hW1] at hp B1 C1'
  obtain ⟨n', z, hok⟩ := okn he
  have C2 := hok.new hp (by omega) iv
  have HB1 : Hid (Below w.heap.size w W1) := bthen B0' B0'.size B1
  have HBs : Hid (w.heap.size ≤ W0'.heap.size ∧ W0'.heap.size ≤ W1.heap.size) := ⟨B0'.size, B1.size⟩
  have HC3 : Hid (∀ W : World, RH (fun g => g < W.heap.size) (W.alloc (.cells #[.int .i64 400000, .int .i64 0, .int .i64 0, .slice none 0 0] 78)) W.heap.size 0 (H.newSt 400000)) := fun W => new_rh W 400000 _ (fun g q => q)
  have HOK : Hid (Okn (H.newSt 400000) (sz x) (sz y) n' z) := hok
  have HIv : Hid (H.Inv 0 (H.newSt 400000)) := iv
  have HXY : Hid ((0 ≤ sz x ∧ sz x < 200) ∧ (0 ≤ sz y ∧ sz y < 200)) := ⟨hx, hy⟩
  have y1 : W0'.cell? ⟨w.heap.size, 0, none⟩ = some (.int .i64 x) := by rw [← hW0']; exact x1
  have y2 : W0'.cell? ⟨w.heap.size, 1, none⟩ = some (.int .i64 y) := by rw [← hW0']; exact x2
  have hw1 : wrap64 ((IntKind.u64.wrap x).tmod 200) = sz x := by
    have : 0 ≤ IntKind.u64.wrap x := by rw [IntKind.wrap_u64]; omega
    unfold sz at *; rw [Int.tmod_eq_emod_of_nonneg this]; unfold wrap64; omega
  have hw2 : wrap64 ((IntKind.u64.wrap y).tmod 200) = sz y := by
    have : 0 ≤ IntKind.u64.wrap y := by rw [IntKind.wrap_u64]; omega
    unfold sz at *; rw [Int.tmod_eq_emod_of_nonneg this]; unfold wrap64; omega
  have HS1 : Hid (H.Inv 0 (nS (H.newSt 400000) (sz x) (sz y))) := nS_inv iv (sz x) (sz y)
  have HBG : Hid (∀ (W2 W3 W4 : World) (T A b a RT RA P ka va ca : Nat), TT (fun g => g < W0'.heap.size) W2 T A b a (W0'.heap.size + 1) W0'.heap.size (0 + 3) (newT n' z (H.takeId (H.takeSt (H.newSt 400000) 4) (n' : Nat)) (H.takeId (H.takeSt (H.takeSt (H.newSt 400000) 4) (n' : Nat)) (3 * (z : Nat)))) (nS (H.newSt 400000) (sz x) (sz y)) → Keep (fun g => g < W0'.heap.size) W1 W2 → Below W2.heap.size W2 W3 → Keep (fun g => g < W2.heap.size) W3 W4 →
      RH (fun g => g < W2.heap.size ∨ g = RT ∨ g = RA ∨ g = P ∨ g = ka ∨ g = va ∨ g = ca) W4 W2.heap.size (0 + 3) (nS (H.newSt 400000) (sz x) (sz y)) → Nr W3 W4 n' z RT RA P ka va ca W2.heap.size (H.takeId (H.takeSt (H.newSt 400000) 4) (n' : Nat)) (H.takeId (H.takeSt (H.takeSt (H.newSt 400000) 4) (n' : Nat)) (3 * (z : Nat))) →
      Bgn w W4 W2.heap.size T A b a (W0'.heap.size + 1) W0'.heap.size RT RA P ka va ca W2.heap.size n' z (newT n' z (H.takeId (H.takeSt (H.newSt 400000) 4) (n' : Nat)) (H.takeId (H.takeSt (H.takeSt (H.newSt 400000) 4) (n' : Nat)) (3 * (z : Nat)))) (nS (H.newSt 400000) (sz x) (sz y))) := fun W2 W3 W4 T A b a RT RA P ka va ca tt2 kk2 B3 kk4 rh4 nr4 => by
    have hb2 := HB1.out.trans (kk2.below HB1.out.size (fun g hg => Nat.lt_of_lt_of_le hg HBs.out.1))
    have hb4 : Below w.heap.size w W4 := hb2.trans ((B3.mono hb2.size).trans (kk4.below (Nat.le_trans hb2.size B3.size) (fun g hg => Nat.lt_of_lt_of_le hg hb2.size)))
    have t3 := tt2.news B3
    refine ⟨(t3.frame2 kk4.os kk4.tape kk4.output kk4.size (fun g hg hn => kk4.block g hg ?_)).sub (fun g q => ?_), rh4, ⟨W3, B3.size, nr4⟩, hb4, hb2.size, HS1.out, rfl, HOK.out.hz, HOK.out.hn⟩
    · rcases Nat.lt_or_ge g W2.heap.size with q | q
      · exact q
      · exact absurd (.inr ⟨q, hg⟩) hn
    · have := kk4.size
      rcases q with q | q
      · exact .inl (.inl (Nat.lt_of_lt_of_le q HBs.out.1))
      · rcases Nat.lt_or_ge g W3.heap.size with q2 | q2
        · exact .inl (.inr ⟨q.1, q2⟩)
        · exact .inr ⟨q2, q.2⟩
  clear B0 B0' B1 c0 C1 hp iv hx hy he hok
  unfold cw tp
  go_enter Tryz.func21, Tryz.ntmps21
  go_upto_region 1 with fail
  go_cut [5, 6] from 13 to 22 (fun p q wx => p = .int .i64 (sz x) ∧ q = .int .i64 (sz y) ∧ wx = W0')
  case first =>
    go_region
    all_goals
      go_wp2_with fail
      go_meet
      exact ⟨by rw [hw1], by rw [hw2], rfl⟩
  case rest =>
    obtain ⟨rfl, rfl, hwc⟩ := hcut
    subst hwc
    clear hW0'
    go_wp2_with fail
    refine C1'.mono ?_; rintro e w1 ⟨rfl, hw1⟩; rw [hw1]; clear hw1 C1'
    go_wp2_with fail
    refine C2.mono ?_; rintro e W2 ⟨T, A, b, a', rfl, tt2, kk2⟩
    have B3 := b1 W2 (.cells #[.int .i64 400000, .int .i64 0, .int .i64 0, .slice none 0 0] 78)
    have rh := HC3.out W2
    have HT2 : Hid _ := And.intro tt2 kk2
    obtain ⟨W3, hW3⟩ : ∃ W3, W2.alloc (.cells #[.int .i64 400000, .int .i64 0, .int .i64 0, .slice none 0 0] 78) = W3 := ⟨_, rfl⟩
    rw [hW3] at B3 rh
    have C4 := HOK.out.rnew rh (by omega) HIv.out
    have HB3 : Hid (Below W2.heap.size W2 W3) := B3
    clear C2 tt2 kk2 B3 rh
    go_wp2_with fail
    refine C4.mono ?_; rintro e W4 ⟨RT, RA, P, ka, va, ca, rfl, rh4, kk4, nr4⟩
    have bg := HBG.out W2 W3 W4 T A b a' RT RA P ka va ca HT2.out.1 HT2.out.2 HB3.out kk4 rh4 nr4
    have HF : Hid _ := And.intro bg.bz bg.bel
    clear bg
    clear C4 rh4 kk4 nr4
    go_wp2_with fail
    refine bodyPost_ret (v := .tuple #[.pointer (some ⟨T, 0, none⟩), .pointer (some ⟨RT, 0, none⟩), .bool true]) (by simp [results, Tryz.results21, go_sem]) rfl ⟨T, _, _, RT, _, _, _, rfl, HF.out.1, HF.out.2, rfl, rfl, rfl, HOK.out, rfl, rfl⟩
end Go.Proofs.YtoomlihccniooaaGreat
