/- The walk of loop. -/
import Derived.Test.YtmejlldabdjpjaaGreatCg24
import Derived.Deep.DeepCutAuto
namespace Go.Proofs.YtmejlldabdjpjaaGreat
open Go.RowKit

/-- How many loops the place stands in. -/
theorem CK.loops {No : Nat → Prop} {b : Nat} {x : Cx} {s : Cs} {w : World} (h : CK No b x s w) (l : Int) : Ck No b { s with lp := l } (w.setCell ⟨b, 5, none⟩ (.int .i64 l)) ∧ Kn No w (w.setCell ⟨b, 5, none⟩ (.int .i64 l)) := by
  have k : Tr x (fun l => l = 1) w (w.setCell ⟨b, 5, none⟩ (.int .i64 l)) := (Tr.refl _ _ w).set h.lb _
  exact ⟨⟨x, h.own k (h.bx.put (j := 5) _) rfl rfl rfl rfl rfl⟩, h.kn (Kn.refl _ _) k rfl rfl rfl (by decide)⟩
theorem Cy.loops {No : Nat → Prop} {b : Nat} {s : Cs} {W w : World} {X : Nat} {cur : Array Value} (h : Cy No b s W X cur w) (l : Int) : Cy No b { s with lp := l } W X cur (w.setCell ⟨b, 5, none⟩ (.int .i64 l)) := by
  obtain ⟨x, hx⟩ := h.ck
  have := hx.loops l
  exact h.step (e := .returned (.tuple #[])) ⟨rfl, this.1, this.2⟩
theorem slice_mid (a : Option Addr) (m c : Nat) (ks : F) (hm : m + 1 ≤ ks.len) (hc : ks.len ≤ c) (_hl : c ≤ maxLen) {P : Nat → Prop} : ∃ a2 c2, (∀ W, (Instr.sliceAt 40 (.slice a ks.len c) (some (.int .i64 (m : Nat))) (some (.int .i64 ((ks.len : Int) - 1))) none).run Tryz.prog W = .ok (.slice a2 (ks.len - 1 - m) c2) W) ∧ ∀ w, Rv w P a ks → Rv w P a2 ((ks.take (ks.len - 1)).drop m) := by
  refine ⟨if c = m then a else a.map (·.add (m * 5)), c - m, fun W => ?_, fun w h => ?_⟩
  · have e : ((ks.len : Int) - 1) = ((ks.len - 1 : Nat) : Int) := by omega
    rw [e]
    have h1 : m ≤ ks.len - 1 := by omega
    have h2 : ks.len - 1 ≤ c := by omega
    simp [go_sem, Instr.sliceAt, h1, h2]
  · rw [if_neg (by omega)]
    obtain ⟨x, hx⟩ := ks.get_some 0 (by omega)
    obtain ⟨g, o, _, _, e, _⟩ := Rv.nth ks 0 h (k := x.1) (t := x.2.1) (n := x.2.2.1) (p := x.2.2.2.1) (ks := x.2.2.2.2) hx
    subst e
    have q := Rv.drop (ks.take (ks.len - 1)) m (h.take (ks.len - 1))
    simp only [Option.map_some]
    unfold Addr.add
    split
    · next h0 =>
      have h0 : m = 0 := by omega
      subst h0
      simpa using q
    · exact q

set_option maxRecDepth 20000 in
set_option maxHeartbeats 8000000 in
theorem loopc_any {N : Nat} {nd : Ndc} (H : ∀ k t n p ks s, Gd (ks.siz + 1) s (nd k t n p ks s)) (CE : CN 24 N nd) (No : Nat → Prop) (b : Nat) (s : Cs) (W : World) (k : Int) (t : Tx) (n : Int) (m : Nat) (p : Int) (a : Option Addr) (c : Nat) (ks : F) (h : Ck No b s W) (hr : Rv W No a ks) (hs : ks.siz < N + 1) (hwk : ks.wfC = true) (hcc : ks.len ≤ c ∧ c ≤ maxLen) (hm : m + 1 ≤ ks.len) (hL : s.wt + 4 * (ks.siz + 1) ≤ 1000000) (hp0 : 0 ≤ s.lp) (hp : s.lp + ((ks.siz : Nat) : Int) + 1 ≤ 1000000) :
    Calls Tryz.prog 61 #[.pointer (some ⟨b, 0, none⟩), (.agg #[.int .i64 (k), .string ⟨(t).toArray⟩, .int .i64 (n), .int .i64 (p), .slice a ks.len c]), .int .i64 (m : Nat)] W (CP No b W (lopC nd p ks m s)) := by
  obtain ⟨i0, hi0, hz0, hz1, hz2⟩ := info_parts info9
  have hlen := ks.len_siz
  have wl : IntKind.i64.wrap ((ks.len : Int) - 1) = (ks.len : Int) - 1 := by rw [IntKind.wrap_i64]; omega
  have B := h.cy #[.int .i64 k, .string ⟨t.toArray⟩, .int .i64 n, .int .i64 p, .slice a ks.len c]
  obtain ⟨X, hX⟩ : ∃ X, W.heap.size = X := ⟨_, rfl⟩
  obtain ⟨W1, hW1⟩ : ∃ W1, W.alloc (.cells #[.int .i64 (k), .string ⟨(t).toArray⟩, .int .i64 (n), .int .i64 (p), .slice a ks.len c] 42) = W1 := ⟨_, rfl⟩
  rw [hX, hW1] at B
  obtain ⟨a2, c2, hsl, hR2⟩ := slice_mid a m c ks hm hcc.1 hcc.2 (P := fun g => No g ∨ g = X)
  -- sizes
  have z1 := F.td_siz ks (ks.len - 1)
  have z2 := F.td_siz (ks.take (ks.len - 1)) m
  rw [F.take_take ks m (ks.len - 1) (by omega)] at z2
  have z3 := (ks.take m).len_siz
  have tl := F.take_len ks m (by omega)
  have dl : ((ks.take (ks.len - 1)).drop m).len = ks.len - 1 - m := by rw [F.drop_len, F.take_len ks (ks.len - 1) (by omega)]
  obtain ⟨⟨k9, t9, n9, p9, ks9⟩, hget⟩ := ks.get_some (ks.len - 1) (by omega)
  have hsz9 := F.get_drop ks (ks.len - 1) hget
  have hw9 := F.wfC_get ks (ks.len - 1) hwk hget
  have C1 := nodes_any H CE (fun g => No g ∨ g = X) b s W1 a2 c2 ((ks.take (ks.len - 1)).drop m) B.ck (hR2 W1 (B.rv hr)) (by omega) (F.wfC_drop _ m (F.wfC_take ks _ hwk)) (by omega) hp0 (by omega)
  rw [dl] at C1
  have g1 := gd_ckN H ((ks.take (ks.len - 1)).drop m) s
  have HS : Hid (lopC nd p ks m s = lopB nd p ks m (ckN nd ((ks.take (ks.len - 1)).drop m) s)) := rfl
  generalize ckN nd ((ks.take (ks.len - 1)).drop m) s = s1 at *
  have w1 := g1.wt
  have l1 := g1.lp
  obtain ⟨p0, p1, p2, p3, p4⟩ := B.bx.five
  have HB : Hid (Cy No b s W X #[.int .i64 k, .string ⟨t.toArray⟩, .int .i64 n, .int .i64 p, .slice a ks.len c] W1 ∧ Rv W No a ks) := ⟨B, hr⟩
  have h96 : Hid (∀ w, Ck (fun g => No g ∨ g = X) b { s1 with lo := s1.lo ++ [[], [], []] } w → Rv w (fun g => No g ∨ g = X) a ks → Calls Tryz.prog 96 #[.pointer (some ⟨b, 0, none⟩), (.agg #[.int .i64 (k), .string ⟨(t).toArray⟩, .int .i64 (n), .int .i64 (p), .slice a ks.len c]), .slice a m c] w (CP (fun g => No g ∨ g = X) b w (bri p (ks.take m) { s1 with lo := s1.lo ++ [[], [], []] }))) := fun w hc hv => by
    have := bring_any (fun g => No g ∨ g = X) b { s1 with lo := s1.lo ++ [[], [], []] } w k t n p (.slice a ks.len c) a c (ks.take m) hc (hv.take m) (by simp only [Cs.wt, List.length_append, List.length_cons, List.length_nil] at w1 hL ⊢; omega)
    rw [tl] at this
    exact this
  have g3 := gd_bri p (ks.take m) { s1 with lo := s1.lo ++ [[], [], []] }
  have b3 := bri_lo p (ks.take m) { s1 with lo := s1.lo ++ [[], [], []] }
  have q3 := wt_bri p (ks.take m) { s1 with lo := s1.lo ++ [[], [], []] }
  have HS2 : Hid (lopC nd p ks m s = { ndG nd ks (ks.len - 1) { bri p (ks.take m) { s1 with lo := s1.lo ++ [[], [], []] } with lp := (bri p (ks.take m) { s1 with lo := s1.lo ++ [[], [], []] }).lp + 1 } with lp := (ndG nd ks (ks.len - 1) { bri p (ks.take m) { s1 with lo := s1.lo ++ [[], [], []] } with lp := (bri p (ks.take m) { s1 with lo := s1.lo ++ [[], [], []] }).lp + 1 }).lp - 1, lo := (ndG nd ks (ks.len - 1) { bri p (ks.take m) { s1 with lo := s1.lo ++ [[], [], []] } with lp := (bri p (ks.take m) { s1 with lo := s1.lo ++ [[], [], []] }).lp + 1 }).lo.take s1.lo.length }) := HS.out
  have l3 := g3.lp
  generalize bri p (ks.take m) { s1 with lo := s1.lo ++ [[], [], []] } = s3 at *
  simp only [Cs.wt, List.length_append, List.length_cons, List.length_nil] at w1 hL q3 b3 l3
  have w4 : ({ s3 with lp := s3.lp + 1 } : Cs).wt = s3.wt := rfl
  have hn : ndG nd ks (ks.len - 1) { s3 with lp := s3.lp + 1 } = nd k9 t9 n9 p9 ks9 { s3 with lp := s3.lp + 1 } := by unfold ndG; rw [hget]; rfl
  rw [hn] at HS2
  have g5 := H k9 t9 n9 p9 ks9 { s3 with lp := s3.lp + 1 }
  have l5 := g5.lp
  have o5 := g5.lo
  simp only at l5 o5
  have C24 : Hid (∀ w a9 c9, Ck (fun g => No g ∨ g = X) b { s3 with lp := s3.lp + 1 } w → Rv w (fun g => No g ∨ g = X) a9 ks9 → (ks9.len ≤ c9 ∧ c9 ≤ maxLen) → Calls Tryz.prog 24 #[.pointer (some ⟨b, 0, none⟩), (.agg #[.int .i64 (k9), .string ⟨(t9).toArray⟩, .int .i64 (n9), .int .i64 (p9), .slice a9 ks9.len c9])] w (CP (fun g => No g ∨ g = X) b w (nd k9 t9 n9 p9 ks9 { s3 with lp := s3.lp + 1 }))) := fun w a9 c9 hc hv h9 =>
    CE _ b _ w k9 t9 n9 p9 a9 c9 ks9 hc hv (by omega) hw9 h9 (by rw [w4]; simp only [Cs.wt]; omega) (by show 0 ≤ s3.lp + 1; omega) (by show s3.lp + 1 + ((ks9.siz : Nat) : Int) + 1 ≤ 1000000; omega)
  generalize nd k9 t9 n9 p9 ks9 { s3 with lp := s3.lp + 1 } = s5 at *
  have wp1 : IntKind.i64.wrap (s3.lp + 1) = s3.lp + 1 := by rw [IntKind.wrap_i64]; omega
  have wp5 : IntKind.i64.wrap (s5.lp - 1) = s5.lp - 1 := by rw [IntKind.wrap_i64]; omega
  have hlo1 : s1.lo.length ≤ 1000000 := by omega
  have hlo5 : s1.lo.length ≤ s5.lo.length := by omega
  have HG : Hid (ks.get? (ks.len - 1) = some (k9, t9, n9, p9, ks9)) := hget
  have hlast : ((ks.len - 1 : Nat) : Int) = (ks.len : Int) - 1 := by omega
  have hlt1 : (ks.len : Int) - 1 < (ks.len : Int) := by omega
  have hge1 : ¬ (ks.len : Int) - 1 < 0 := by omega
  have hmc : (m : Int) ≤ (c : Int) := by omega
  have hmc' : m ≤ c := by omega
  clear h hr B hget hn g1 g3 g5 w1 l1 z1 z2 z3 tl dl hsz9 hw9 hwk hL hp0 hp b3 q3 l3 w4 l5 o5 HS hR2 hs
  go_enter Tryz.func61, Tryz.ntmps61
  go_wp2_with fail
  refine C1.mono ?_
  rintro e v1 hq
  have D1 := HB.out.1.step hq
  obtain ⟨rfl, -⟩ := hq
  obtain ⟨x1, hx1⟩ := D1.ck
  obtain ⟨aL, cL, eL⟩ := slice_shape hx1.lr
  have c4 : v1.cell? ⟨b, 4, none⟩ = some (.slice aL s1.lo.length cL) := by rw [← eL]; exact hx1.bx.c 4 _ rfl
  have hlr := hx1.lr
  rw [eL] at hlr
  have HF : Hid (∀ o w3, (v1.alloc o).grownBy w3 (Value.ownBlock (.slice aL s1.lo.length cL)) → w3.frozen? ⟨b, 4, none⟩ = false ∧ w3.cell? ⟨b, 4, none⟩ = some (.slice aL s1.lo.length cL)) := fun o w3 hg3 => by
    rw [← eL] at hg3 ⊢
    have hb3 : Bx b 63 (ccl x1 s1) w3 := ⟨(hg3.block b (Nat.lt_of_lt_of_le hx1.lt (by simp)) (fun e => by have := hx1.lL b e.symm; have := hx1.lb; omega)).trans (hx1.bx.alloc o).blk⟩
    exact ⟨hb3.f 4, hb3.c 4 _ rfl⟩
  have HX : Hid (CK (fun g => No g ∨ g = X) b x1 s1 v1 ∧ x1.vL = .slice aL s1.lo.length cL) := ⟨hx1, eL⟩
  have c4A : ∀ o, (v1.alloc o).cell? ⟨b, 4, none⟩ = some (.slice aL s1.lo.length cL) := fun o => by rw [← eL]; exact (hx1.alloc o).bx.c 4 _ rfl
  have HD1 : Hid _ := D1
  clear C1 D1 hx1 eL p0 p1 p2 p3 p4 hsl
  go_wp2_with (at_builtin; refine wpList_append_lies _ rfl _ _ 23 rfl 0 9 i0 _ 1 16 Tryz.underlying23 hi0 hz0 hz1 hz2 rfl (by omega) (.slice aL s1.lo.length cL) s1.lo.length (strs s1.lo) rfl (hlr.alloc _) ⟨v1.heap.size, 0, none⟩ 3 3 [.string ⟨#[]⟩, .string ⟨#[]⟩, .string ⟨#[]⟩] rfl rfl (World.news_of_block (cs := #[.string ⟨#[]⟩, .string ⟨#[]⟩, .string ⟨#[]⟩]) (t := 9) (fr := (0, 0)) (Bx.new v1 9 #[.string ⟨#[]⟩, .string ⟨#[]⟩, .string ⟨#[]⟩]).blk) (by simp [Value.oneCell']) (by omega) (by unfold maxLen; omega) (by omega) (by omega) _ rfl ?_; intro gg cc w3 hown3 hg3 hat3 hlt3; obtain ⟨fz4, fc4⟩ := HF.out _ w3 hg3)
  have hA := HX.out.1.appL (ys := [[], [], []]) (o := .cells #[.string ⟨#[]⟩, .string ⟨#[]⟩, .string ⟨#[]⟩] 9) hown3 (by rw [HX.out.2]; exact hg3) (by rw [HX.out.2]; exact hat3)
  have D2 := HD1.out.step (e := .returned (.tuple #[])) ⟨rfl, hA.1, hA.2⟩
  simp only [List.length_cons, List.length_nil, Nat.zero_add, Nat.reduceAdd] at D2
  obtain ⟨v2, hv2⟩ : ∃ v2, w3.setCell ⟨b, 4, none⟩ (.slice (some ⟨gg, 0, none⟩) (s1.lo.length + 3) cc) = v2 := ⟨_, rfl⟩
  rw [hv2] at D2
  have K2 := h96.out v2.drew D2.drew.ck (D2.drew.rv HB.out.2)
  obtain ⟨p0, p1, p2, p3, p4⟩ := D2.bx.five
  have HD2 : Hid _ := D2.drew
  clear hA D2 hown3 hg3 hat3 hlt3 fz4 fc4 HX HF HD1 c4A c4 hlr h96
  rw [hv2]
  clear hv2
  go_cut [] (fun wx => Cy No b s3 W X #[.int .i64 k, .string ⟨t.toArray⟩, .int .i64 n, .int .i64 p, .slice a ks.len c] wx)
  case first =>
    go_region_with (refine K2.mono ?_; rintro e v4 hq; have D4 := HD2.out.step hq; obtain ⟨rfl, -⟩ := hq)
    all_goals
      go_wp2_with fail
      go_meet
      exact D4
  case rest =>
    have D3 := hcut
    obtain ⟨x3, hx3⟩ := D3.ck
    have b5 : wc.cell? ⟨b, 5, none⟩ = some (.int .i64 s3.lp) := hx3.bx.c 5 _ rfl
    have f5 := hx3.bx.f 5
    have D4 := D3.loops (s3.lp + 1)
    obtain ⟨g9, o9, a9, c9, ea, hg9, e0, e1, e2, e3, e4, hv9, hc9⟩ := Rv.nth ks (ks.len - 1) (D4.rv HB.out.2) HG.out
    subst ea
    obtain ⟨p0, p1, p2, p3, p4⟩ := D4.bx.five
    have K4 := C24.out _ a9 c9 D4.ck hv9 hc9
    obtain ⟨v4, hv4⟩ : ∃ v4, wc.setCell ⟨b, 5, none⟩ (.int .i64 (s3.lp + 1)) = v4 := ⟨_, rfl⟩
    rw [hv4] at D4 e0 e1 e2 e3 e4 p0 p1 p2 p3 p4 K4
    have HD4 : Hid _ := D4
    clear hcut K2 HD2 D3 hx3 D4 hg9 hv9 hc9 C24
    go_wp2_with fail
    refine K4.mono ?_
    rintro e v5 hq
    have D5 := HD4.out.step hq
    obtain ⟨rfl, -⟩ := hq
    obtain ⟨x5, hx5⟩ := D5.ck
    have b5 : v5.cell? ⟨b, 5, none⟩ = some (.int .i64 s5.lp) := hx5.bx.c 5 _ rfl
    have f5 := hx5.bx.f 5
    have D6 := D5.loops (s5.lp - 1)
    obtain ⟨v6, hv6⟩ : ∃ v6, v5.setCell ⟨b, 5, none⟩ (.int .i64 (s5.lp - 1)) = v6 := ⟨_, rfl⟩
    rw [hv6] at D6
    obtain ⟨x6, hx6⟩ := D6.ck
    obtain ⟨aM, cM, eM⟩ := slice_shape hx6.lr
    have d4 : v6.cell? ⟨b, 4, none⟩ = some (.slice aM s5.lo.length cM) := by rw [← eM]; exact hx6.bx.c 4 _ rfl
    have f4 := hx6.bx.f 4
    have hcap : s5.lo.length ≤ cM := by have q := hx6.lr; rw [eM] at q; exact (own_cut q (Nat.zero_le _)).2.2
    have hA := hx6.cutL eM hlo5
    have HE : Hid (CP No b W { s5 with lp := s5.lp - 1, lo := s5.lo.take s1.lo.length } (.returned (.tuple #[])) (v6.setCell ⟨b, 4, none⟩ (.slice aM s1.lo.length cM))) := (D6.step (e := .returned (.tuple #[])) ⟨rfl, hA.1, hA.2⟩).out
    have j1 : (s1.lo.length : Int) ≤ (cM : Int) := by omega
    have j2 : s1.lo.length ≤ cM := by omega
    clear K4 D5 HD4 hx5 D6 hx6 eM hcap hA e0 e1 e2 e3 e4 p0 p1 p2 p3 p4
    go_wp2
    go_end0
    rw [HS2.out]
    exact HE.out
end Go.Proofs.YtmejlldabdjpjaaGreat

/- What the checker is behind a new function, within it, and behind it. -/
namespace Go.Proofs.YtmejlldabdjpjaaGreat
open Go.RowKit

theorem info48 : (Tryz.prog.info? 48).map (fun i => (i.zero, i.size, i.bytes)) = some (some (.agg #[.string ⟨#[]⟩, .int .i64 0, .int .i64 0, .int .i64 0, .slice none 0 0]), 5, 64) := by kernel_rfl
theorem fs_fau (c a : Int) (s : Cs) : (fau c a s).fs = s.fs := by unfold fau; split <;> rfl
theorem fs_lim (p n m : Int) (s : Cs) : (lim p n m s).fs = s.fs := by
  unfold lim; split
  · exact fs_fau _ _ _
  · rfl
theorem fs_unk (t : Tx) (p : Int) (s : Cs) : (unk t p s).fs = s.fs := by
  unfold unk; split
  · exact fs_fau _ _ _
  · rfl
theorem fs_glo (t : Tx) (s : Cs) : (glo t s).fs = s.fs := by unfold glo; split <;> rfl
/-- A function more. -/
theorem CK.appF {No : Nat → Prop} {b : Nat} {x : Cx} {s : Cs} {w w3 : World} {t : Tx} {p n : Int} {g' cc : Nat} {o : Obj} (h : CK No b x s w) (hown : w3.ownsRow 0 48 5 (.slice (some ⟨g', 0, none⟩) (s.fs.length + 1) cc) (s.fs.length + 1) (fcl s.fs x.vs ++ [.string ⟨t.toArray⟩, .int .i64 p, .int .i64 n, .int .i64 0, .slice none 0 0]))
    (hg3 : (w.alloc o).grownBy w3 x.vF.ownBlock) (hat : x.vF.ownBlock = some g' ∨ g' = (w.alloc o).heap.size) : Ck No b { s with fs := s.fs ++ [⟨t, p, n, 0, []⟩] } (w3.setCell ⟨b, 0, none⟩ (.slice (some ⟨g', 0, none⟩) (s.fs.length + 1) cc)) ∧ Kn No w (w3.setCell ⟨b, 0, none⟩ (.slice (some ⟨g', 0, none⟩) (s.fs.length + 1) cc)) := by
  have s3 := hg3.size
  have z1 : (w.alloc o).heap.size = w.heap.size + 1 := by simp
  have h1 := h.at h.lF (g' := g') (hat.imp id fun e => by omega)
  generalize hlab : (fun g => if g = g' then 2 else x.lab g) = lab' at h1
  have hl' : lab' g' = 2 := by rw [← hlab]; exact if_pos rfl
  have hbg : g' ≠ b := fun e => by have := h1.lb; rw [← e] at this; simp only at this; omega
  have k0 : Tr { x with lab := lab' } (fun l => l = 1 ∨ l = 2) w w3 := ((Tr.refl _ _ w).alloc o).trans (Tr.app hg3 h1.lF (.inr rfl))
  have k : Tr { x with lab := lab' } (fun l => l = 1 ∨ l = 2) w (w3.setCell ⟨b, 0, none⟩ (.slice (some ⟨g', 0, none⟩) (s.fs.length + 1) cc)) := k0.set (.inl h1.lb) _
  have hb3 : Bx b 63 (ccl x s) w3 := ⟨(hg3.block b (by have := h.lt; omega) (fun e => by have := h1.lF b e.symm; have := h1.lb; simp only at *; omega)).trans (h.bx.alloc o).blk⟩
  refine ⟨⟨{ x with vF := .slice (some ⟨g', 0, none⟩) (s.fs.length + 1) cc, vs := x.vs ++ [.slice none 0 0], lab := lab' }, ?_⟩, ?_⟩
  · refine ⟨hb3.put (j := 0) _, ?_, h1.gr' k (by simp), h1.lr' k (by simp), h1.ar' k (by simp), h1.mp' k (by simp), fun i f v hf hv => ?_, by simp [h.vl], h1.lb, fun g hg => ?_, h1.lG, h1.lL, h.lA, h1.lm, fun i v g hv hg => ?_, h1.no' k.size, by simp only [List.length_append, List.length_singleton]; have := h.nu; omega⟩
    · simp only
      rw [fcl_app _ _ _ _ h.vl, List.length_append, List.length_singleton]
      exact own_set hown (fun g hg => by have e2 : g' = g := by simpa [Value.ownBlock] using hg
                                         omega) _
    · by_cases e : i < s.fs.length
      · simp only at hf hv
        rw [List.getElem?_append_left e] at hf
        rw [List.getElem?_append_left (by rw [h.vl]; exact e)] at hv
        exact h1.cs' k (by omega) hf hv
      · simp only at hf hv
        rw [List.getElem?_append_right (by omega)] at hf
        rw [List.getElem?_append_right (by rw [h.vl]; omega)] at hv
        have hi : i - s.fs.length = 0 := by have := (List.getElem?_eq_some_iff.1 hf).1; simp at this; omega
        rw [hi] at hf
        rw [h.vl, hi] at hv
        simp at hf hv
        subst hf hv
        exact World.ownsRow_nil _ _ _ _
    · have e2 : g' = g := by simpa [Value.ownBlock] using hg
      rw [← e2]; exact hl'
    · by_cases e : i < s.fs.length
      · simp only at hv
        rw [List.getElem?_append_left (by rw [h.vl]; exact e)] at hv
        exact h1.lc i v g hv hg
      · simp only at hv
        rw [List.getElem?_append_right (by rw [h.vl]; omega)] at hv
        have hi : i - x.vs.length = 0 := by have := (List.getElem?_eq_some_iff.1 hv).1; simp at this; omega
        rw [hi] at hv
        simp at hv
        subst hv
        simp [Value.ownBlock] at hg
  · refine ⟨hg3.os, hg3.tape, hg3.output, k.size, fun g hg hn => k.block g hg ?_⟩
    rw [(h1.no g hn).2]; simp
theorem Ck.drop {No : Nat → Prop} {b Y : Nat} {s : Cs} {w : World} {e : TypeId} {cur : Array Value} (h : Ck (fun g => No g ∨ g = Y) b s w) (hY : Bx Y e cur w) (he : ¬ e = 9) : Ck No b s w := by
  obtain ⟨x, hx⟩ := h
  refine ⟨x, hx.less (fun g e => .inl e) fun g hg => (hx.lA g hg).elim id fun e1 => ?_⟩
  subst e1
  rcases hx.ar.2 with ⟨e2, _⟩ | ⟨g', cap, cu, e2, _, h3, _⟩
  · rw [e2] at hg; simp [Value.ownBlock] at hg
  · rw [e2] at hg
    have e3 : g' = g := by simpa [Value.ownBlock] using hg
    rw [e3, hY.blk] at h3
    injection h3 with h3
    injection h3 with _ h4
    exact absurd h4 he
section
variable {No : Nat → Prop} {b : Nat} {x : Cx} {s : Cs} {w w' : World}
/-- Into a function: the locals are those around. -/
theorem CK.enter (h : CK No b x s w) {q : Nat} (hq : q < s.fs.length) (k : Tr x (fun l => l = 1) w w') (hb : Bx b 63 #[x.vF, x.vG, .map (some x.m), .int .i64 (q : Nat), .slice none 0 0, .int .i64 0, x.vL, .int .i64 s.cd, .int .i64 s.ct] w') :
    Ck (fun g => No g ∨ x.vL.ownBlock = some g) b { s with nu := q, lo := [], lp := 0, ar := s.lo } w' := by
  have e : ∀ g, x.lab g ≠ 4 → (if x.vL.ownBlock = some g then 0 else x.lab g) = x.lab g := fun g hg => if_neg fun e => hg (h.lL g e)
  refine ⟨{ x with vL := .slice none 0 0, vA := x.vL, lab := fun g => if x.vL.ownBlock = some g then 0 else x.lab g }, hb, h.fr' k (by decide), h.gr' k (by decide), World.ownsRow_nil _ _ _ _, h.lr' k (by decide), h.mp' k (by decide), fun i _ _ hf hv => h.cs' k (by omega) hf hv, h.vl, ?_, fun g hg => ?_, fun g hg => ?_, fun g hg => ?_, fun g hg => .inr hg, ?_, fun i v g hv hg => ?_, fun g hg => ?_, hq⟩
  · exact (e b (by rw [h.lb]; decide)).trans h.lb
  · exact (e g (by rw [h.lF g hg]; decide)).trans (h.lF g hg)
  · exact (e g (by rw [h.lG g hg]; decide)).trans (h.lG g hg)
  · simp [Value.ownBlock] at hg
  · exact (e _ (by rw [h.lm]; decide)).trans h.lm
  · exact (e g (by rw [h.lc i v g hv hg]; omega)).trans (h.lc i v g hv hg)
  · rcases hg with hg | hg
    · exact ⟨Nat.lt_of_lt_of_le (h.no g hg).1 k.size, (e g (by rw [(h.no g hg).2]; decide)).trans (h.no g hg).2⟩
    · exact ⟨Nat.lt_of_lt_of_le (h.lr.lt g hg).2 k.size, if_pos hg⟩
/-- Behind it: the locals are the elder ones. -/
theorem CK.leave {x2 : Cx} {s2 : Cs} {w2 : World} (h0 : CK No b x s w) (h : CK (fun g => No g ∨ x.vL.ownBlock = some g) b x2 s2 w2) (kn : Kn (fun g => No g ∨ x.vL.ownBlock = some g) w w2) (hf : s.fs.length ≤ s2.fs.length) (k : Tr x2 (fun l => l = 1) w2 w')
    (hb : Bx b 63 #[x2.vF, x2.vG, .map (some x2.m), .int .i64 (s.nu : Nat), x.vL, .int .i64 s.lp, .slice none 0 0, .int .i64 s2.cd, .int .i64 s2.ct] w') : Ck No b { s2 with nu := s.nu, lo := s.lo, lp := s.lp, ar := [] } w' := by
  have e : ∀ g, x2.lab g ≠ 0 → (if x.vL.ownBlock = some g then 4 else x2.lab g) = x2.lab g := fun g hg => if_neg fun e => hg (h.no g (.inr e)).2
  have hl2 : w2.ownsRow 0 9 1 x.vL s.lo.length (strs s.lo) := own_keep h0.lr fun g hg => kn.block g (h0.lr.lt g hg).2 (.inr hg)
  refine ⟨{ x2 with vL := x.vL, vA := .slice none 0 0, lab := fun g => if x.vL.ownBlock = some g then 4 else x2.lab g }, hb, h.fr' k (by decide), h.gr' k (by decide), own_keep hl2 fun g hg => k.block g (hl2.lt g hg).2 (by rw [(h.no g (.inr hg)).2]; decide), World.ownsRow_nil _ _ _ _, h.mp' k (by decide), fun i _ _ hf hv => h.cs' k (by omega) hf hv, h.vl, ?_, fun g hg => ?_, fun g hg => ?_, fun g hg => if_pos hg, fun g hg => ?_, ?_, fun i v g hv hg => ?_, fun g hg => ?_, Nat.lt_of_lt_of_le h0.nu hf⟩
  · exact (e b (by rw [h.lb]; decide)).trans h.lb
  · exact (e g (by rw [h.lF g hg]; decide)).trans (h.lF g hg)
  · exact (e g (by rw [h.lG g hg]; decide)).trans (h.lG g hg)
  · simp [Value.ownBlock] at hg
  · exact (e _ (by rw [h.lm]; decide)).trans h.lm
  · exact (e g (by rw [h.lc i v g hv hg]; omega)).trans (h.lc i v g hv hg)
  · refine ⟨Nat.lt_of_lt_of_le (h.no g (.inl hg)).1 k.size, ?_⟩
    show (if x.vL.ownBlock = some g then 4 else x2.lab g) = 0
    rw [if_neg (fun q => by have := h0.lL g q; have := (h0.no g hg).2; omega)]
    exact (h.no g (.inl hg)).2
end
end Go.Proofs.YtmejlldabdjpjaaGreat
