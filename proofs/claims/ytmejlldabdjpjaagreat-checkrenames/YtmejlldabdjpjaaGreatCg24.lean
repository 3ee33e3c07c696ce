/- The walk of bring. -/
import Derived.Test.YtmejlldabdjpjaaGreatCg23
import Derived.Deep.DeepCutAuto
namespace Go.Proofs.YtmejlldabdjpjaaGreat
open Go.RowKit

theorem b1 (w : World) (o : Obj) : Below w.heap.size w (w.alloc o) := (Below.refl _ w).alloc (Nat.le_refl _) o
theorem b2 (w : World) (o o' : Obj) : Below w.heap.size w ((w.alloc o).alloc o') := (b1 w o).alloc (by simp) o'
theorem Ck.drew {No : Nat → Prop} {b : Nat} {s : Cs} {w : World} (h : Ck No b s w) : Ck No b s w.drew := by obtain ⟨x, h⟩ := h; exact ⟨x, h.drew⟩
theorem Cy.drew {No : Nat → Prop} {b : Nat} {s : Cs} {W w : World} {X : Nat} {cur : Array Value} (h : Cy No b s W X cur w) : Cy No b s W X cur w.drew := ⟨h.ck.drew, h.kn.drew, h.bx.drew, h.xl⟩
/-- The functions' row, at the function that is being gone through. -/
theorem CK.fnAt {No : Nat → Prop} {b : Nat} {x : Cx} {s : Cs} {w : World} (h : CK No b x s w) : ∃ f v g c, s.fs[s.nu]? = some f ∧ x.vs[s.nu]? = some v ∧ x.vF = .slice (some ⟨g, 0, none⟩) s.fs.length c ∧ x.lab g = 2 ∧ g < w.heap.size ∧ w.cell? ⟨g, s.nu * 5 + 3, none⟩ = some (.int .i64 f.sl) ∧ w.cell? ⟨g, s.nu * 5 + 4, none⟩ = some v ∧ (∀ j, w.frozen? ⟨g, j, none⟩ = false) ∧
    w.ownsRow 0 54 3 v f.cs.length (vcl f.cs) := by
  have hn := h.nu
  obtain ⟨f, hf⟩ : ∃ f, s.fs[s.nu]? = some f := ⟨_, List.getElem?_eq_getElem hn⟩
  obtain ⟨v, hv⟩ : ∃ v, x.vs[s.nu]? = some v := ⟨_, List.getElem?_eq_getElem (by rw [h.vl]; exact hn)⟩
  obtain ⟨-, -, -, q3, q4⟩ := fcl_at s.fs x.vs s.nu f v hf hv
  obtain ⟨g, e1, r3⟩ := own_at h.fr _ _ q3
  obtain ⟨g2, e2, r4⟩ := own_at h.fr _ _ q4
  have e3 : g2 = g := by rw [e2] at e1; simpa using e1
  rw [e3] at r4
  have hF := h.fr
  rcases h.fr.2 with ⟨_, e⟩ | ⟨g', cap, cur, e, _⟩
  · omega
  · have e4 : g' = g := by rw [e] at e1; simpa [Value.ownBlock] using e1
    rw [e4] at e
    rw [e] at hF
    exact ⟨f, v, g, cap, hf, hv, e, h.lF g e1, (h.fr.lt g e1).2, r3, r4, fun j => hF.frozenAt j, h.cs _ _ _ hf hv⟩
/-- The slots of the function. -/
theorem CK.slots {No : Nat → Prop} {b : Nat} {x : Cx} {s : Cs} {w : World} {f : Fn} {g c : Nat} (h : CK No b x s w) (hf : s.fs[s.nu]? = some f) (hv : x.vF = .slice (some ⟨g, 0, none⟩) s.fs.length c) (hl : x.lab g = 2) :
    Ck No b (slo s) (w.setCell ⟨g, s.nu * 5 + 3, none⟩ (.int .i64 (max f.sl (s.lo.length : Int)))) ∧ Kn No w (w.setCell ⟨g, s.nu * 5 + 3, none⟩ (.int .i64 (max f.sl (s.lo.length : Int)))) := by
  have k : Tr x (fun l => l = 2) w (w.setCell ⟨g, s.nu * 5 + 3, none⟩ (.int .i64 (max f.sl (s.lo.length : Int)))) := (Tr.refl _ _ w).set hl _
  have hs : slo s = { s with fs := s.fs.set s.nu { f with sl := max f.sl (s.lo.length : Int) } } := by unfold slo; rw [hf]; rfl
  rw [hs]
  refine ⟨⟨x, h.bx' k (by decide), ?_, h.gr' k (by decide), h.lr' k (by decide), h.ar' k (by decide), h.mp' k (by decide), fun i f' v hf' hv' => ?_, by simpa using h.vl, h.lb, h.lF, h.lG, h.lL, h.lA, h.lm, h.lc, h.no' k.size, by simpa using h.nu⟩, ⟨rfl, rfl, rfl, k.size, fun g hg hn => k.block g hg (by rw [(h.no g hn).2]; decide)⟩⟩
  · have q := h.fr
    rw [hv] at q
    have q2 := q.stored (s.nu * 5 + 3) (.int .i64 (max f.sl (s.lo.length : Int)))
    rw [fcl_sl s.fs x.vs s.nu f _ hf h.vl] at q2
    rw [List.length_set, hv]
    exact q2.1
  · by_cases e : i = s.nu
    · subst e
      simp only [List.getElem?_set_self h.nu, Option.some.injEq] at hf'
      subst hf'
      have q := h.cs' k (i := s.nu) (by omega) hf hv'
      exact q
    · simp only at hf'
      rw [List.getElem?_set_ne (fun q => e q.symm)] at hf'
      exact h.cs' k (by omega) hf' hv'

set_option maxRecDepth 20000 in
set_option maxHeartbeats 8000000 in
theorem bring_any (No : Nat → Prop) (b : Nat) (s : Cs) (W : World) (k : Int) (t : Tx) (n p : Int) (v : Value) (a : Option Addr) (c : Nat) (r : F) (h : Ck No b s W) (hr : Rv W No a r) (hL : s.wt + 4 * r.siz ≤ 1000000) :
    Calls Tryz.prog 96 #[.pointer (some ⟨b, 0, none⟩), (.agg #[.int .i64 (k), .string ⟨(t).toArray⟩, .int .i64 (n), .int .i64 (p), v]), .slice a r.len c] W (CP No b W (bri p r s)) := by
  obtain ⟨i0, hi0, hz0, hz1, hz2⟩ := info_parts info9
  have hlen := r.len_siz
  have hlo : s.lo.length ≤ s.wt := by unfold Cs.wt; omega
  have hblo := brN_lo r s
  have HA : Hid (r = .nil ∨ ∃ g o, a = some ⟨g, o, none⟩) := by
    cases r with
    | nil => exact .inl rfl
    | cons k t n p ks r' => obtain ⟨g, o, _, _, e, _⟩ := hr.cons; exact .inr ⟨g, o, e⟩
  have B := h.cy #[.int .i64 k, .string ⟨t.toArray⟩, .int .i64 n, .int .i64 p, v]
  have hr1 := hr.kn B.kn
  obtain ⟨X, hX⟩ : ∃ X, W.heap.size = X := ⟨_, rfl⟩
  obtain ⟨W1, hW1⟩ : ∃ W1, W.alloc (.cells #[.int .i64 (k), .string ⟨(t).toArray⟩, .int .i64 (n), .int .i64 (p), v] 42) = W1 := ⟨_, rfl⟩
  rw [hX, hW1] at B
  rw [hW1] at hr1
  have H0 : Hid (Cy No b s W X #[.int .i64 k, .string ⟨t.toArray⟩, .int .i64 n, .int .i64 p, v] W1 ∧ Rv W1 No a r) := ⟨B, hr1⟩
  clear h hr B hr1
  go_enter Tryz.func96, Tryz.ntmps96
  go_wp2_with fail
  go_loopw [7, 12] (fun _ iv wx => ∃ (i : Nat) (q : F) (s' : Cs), iv = .int .i64 (i : Nat) ∧ i + q.len = r.len ∧ Hid (Cy No b s' W X #[.int .i64 k, .string ⟨t.toArray⟩, .int .i64 n, .int .i64 p, v] wx ∧ (∀ g o, a = some ⟨g, o, none⟩ → Rv wx No (some ⟨g, o + i * 5, none⟩) q) ∧ brN q s' = brN r s ∧ s'.lo.length + q.len = s.lo.length + r.len)) (fun _ iv _ => r.len - (intOf iv).toNat)
  case atStart => exact ⟨0, r, s, rfl, by omega, H0.out.1, fun g o e => by have := H0.out.2; rw [e] at this; simpa using this, rfl, rfl⟩
  case round =>
    clear H0
    obtain ⟨i, q, s', rfl, hi, HR⟩ := hrel
    cases q with
    | nil =>
      have h1 : ¬ (i : Int) < (r.len : Int) := by simp only [F.len] at hi; omega
      obtain ⟨D, -, hE, -⟩ := HR.out
      have hE : s' = brN r s := hE
      obtain ⟨x, hx⟩ := D.ck
      obtain ⟨aL, cL, eL⟩ := slice_shape hx.lr
      have c4 : wr.cell? ⟨b, 4, none⟩ = some x.vL := hx.bx.c 4 _ rfl
      rw [eL] at c4
      obtain ⟨p0, p1, p2, p3, p4⟩ := D.bx.five
      have C := limit_any D.ck k t n p v (s'.lo.length : Int) 60
      have HD : Hid (Cy No b s' W X #[.int .i64 k, .string ⟨t.toArray⟩, .int .i64 n, .int .i64 p, v] wr) := D
      have HS : Hid (bri p r s = slo (lim p (s'.lo.length : Int) 60 s')) := by rw [hE]; rfl
      clear D hE hx HR eL
      go_wp2_with fail
      refine C.mono ?_
      rintro e w2 hq
      have D2 := HD.out.step hq
      obtain ⟨rfl, -⟩ := hq
      obtain ⟨x2, hx2⟩ := D2.ck
      obtain ⟨f, vc, g, cF, hf, hv, eF, lF, gF, d3, d4, dz, -⟩ := hx2.fnAt
      have b0 : w2.cell? ⟨b, 0, none⟩ = some x2.vF := hx2.bx.c 0 _ rfl
      have b3 : w2.cell? ⟨b, 3, none⟩ = some (.int .i64 ((lim p (s'.lo.length : Int) 60 s').nu : Nat)) := hx2.bx.c 3 _ rfl
      have hnu := hx2.nu
      have HE : Hid _ := hx2.slots hf eF lF
      rw [eF] at b0
      rw [lo_lim] at HE
      have dz3 := dz ((lim p (s'.lo.length : Int) 60 s').nu * 5 + 3)
      generalize (lim p (s'.lo.length : Int) 60 s').nu = m at *
      generalize (lim p (s'.lo.length : Int) 60 s').fs.length = nf at *
      have HD2 : Hid _ := D2
      clear hx2 D2 hf hv eF lF d4 dz C
      go_wp2_with fail
      go_region
      go_wp2
      go_end0
      rw [HS.out]
      exact ((HD2.out.step (e := .returned (.tuple #[])) ⟨rfl, HE.out.1, HE.out.2⟩).drew).out
    | cons k2 t2 n2 p2 ks2 q' =>
      simp only [F.len] at hi
      obtain ⟨D, hRv, hE, hle⟩ := HR.out
      simp only [F.len] at hle
      obtain ⟨g, o, rfl⟩ : ∃ g o, a = some ⟨g, o, none⟩ := HA.out.resolve_left fun e => by rw [e] at hi; simp only [F.len] at hi; omega
      have hRv := hRv g o rfl
      obtain ⟨g', o', a', c', e1, hg, c0, c1, c2, c3, c4, hKs, hNx, hcc⟩ := hRv.cons
      injection e1 with e1
      injection e1 with e1 e2
      subst e1 e2
      have h1 : (i : Int) < (r.len : Int) := by omega
      have wi : IntKind.i64.wrap ((i : Int) + 1) = (i : Int) + 1 := by rw [IntKind.wrap_i64]; omega
      have B2 := D.ck.cy #[.int .i64 k2, .string ⟨t2.toArray⟩, .int .i64 n2, .int .i64 p2, .slice a' ks2.len c']
      obtain ⟨Y, hY⟩ : ∃ Y, wr.heap.size = Y := ⟨_, rfl⟩
      obtain ⟨V1, hV1⟩ : ∃ V1, wr.alloc (.cells #[.int .i64 (k2), .string ⟨(t2).toArray⟩, .int .i64 (n2), .int .i64 (p2), .slice a' ks2.len c'] 42) = V1 := ⟨_, rfl⟩
      rw [hY, hV1] at B2
      have C := unkept_any B2.ck k2 t2 n2 p2 (.slice a' ks2.len c')
      obtain ⟨r0, r1, r2, r3, r4⟩ := B2.bx.five
      have HD : Hid (Cy No b s' W X #[.int .i64 k, .string ⟨t.toArray⟩, .int .i64 n, .int .i64 p, v] wr ∧ Cy (fun g => No g ∨ g = X) b s' wr Y #[.int .i64 k2, .string ⟨t2.toArray⟩, .int .i64 n2, .int .i64 p2, .slice a' ks2.len c'] V1 ∧ Rv wr No (some ⟨g, o + i * 5 + 5, none⟩) q') := ⟨D, B2, hNx⟩
      have HS : Hid (brN q' { unk t2 p2 s' with lo := s'.lo ++ [t2] } = brN r s ∧ s'.lo.length ≤ 2000000 ∧ s'.lo.length + 1 + q'.len = s.lo.length + r.len) := ⟨hE, by omega, by omega⟩
      clear D hRv hE HR hKs hNx B2 hle
      go_wp2_with fail
      refine C.mono ?_
      rintro e w2 hq
      have D2 := HD.out.2.1.step hq
      obtain ⟨rfl, -⟩ := hq
      obtain ⟨x2, hx2⟩ := D2.ck
      have q4 : w2.cell? ⟨b, 4, none⟩ = some x2.vL := hx2.bx.c 4 _ rfl
      obtain ⟨d0, d1, d2, d3, d4⟩ := D2.bx.five
      have hD := hx2.drew
      have q4A : ∀ o, (w2.alloc o).cell? ⟨b, 4, none⟩ = some x2.vL := fun o => (hx2.alloc o).bx.c 4 _ rfl
      have HF : Hid (∀ o w3, (w2.drew.alloc o).grownBy w3 x2.vL.ownBlock → w3.frozen? ⟨b, 4, none⟩ = false ∧ w3.cell? ⟨b, 4, none⟩ = some x2.vL) := fun o w3 hg3 => by
        have hb3 : Bx b 63 (ccl x2 (unk t2 p2 s')) w3 := ⟨(hg3.block b (Nat.lt_of_lt_of_le hD.lt (by simp)) (fun e => by have := hx2.lL b e.symm; have := hx2.lb; omega)).trans (hD.bx.alloc o).blk⟩
        exact ⟨hb3.f 4, hb3.c 4 _ rfl⟩
      have hlu : (unk t2 p2 s').lo.length ≤ 2000000 := by rw [lo_unk]; exact HS.out.2.1
      have HX : Hid _ := hD
      have HD2 : Hid _ := D2
      have hlr := hD.lr
      clear hD hx2 D2 C
      go_wp2_with fail
      go_region_law (refine step_append_lies _ (by rfl) _ _ 23 (by rfl) 0 9 i0 _ 1 16 Tryz.underlying23 hi0 hz0 hz1 hz2 rfl (by omega) x2.vL (unk t2 p2 s').lo.length (strs (unk t2 p2 s').lo) (by rfl) (hlr.alloc _) ⟨w2.drew.heap.size, 0, none⟩ 1 1 [.string ⟨t2.toArray⟩] (by rfl) rfl (World.news_of_block (cs := #[.string ⟨t2.toArray⟩]) (t := 9) (fr := (0, 0)) (Bx.new w2.drew 9 #[.string ⟨t2.toArray⟩]).blk) (by simp [Value.oneCell']) (by omega) (by unfold maxLen; omega) (by omega) (by omega) _ rfl ?_; intro gg cc w3 hown3 hg3 hat3 hlt3; obtain ⟨fz4, fc4⟩ := HF.out _ w3 hg3)
      all_goals
        have hA := HX.out.appL (ys := [t2]) (o := .cells #[.string ⟨t2.toArray⟩] 9) hown3 hg3 hat3
        have D3 := (HD2.out.drew.step (e := .returned (.tuple #[])) ⟨rfl, hA.1, hA.2⟩).out
        have D4 := HD.out.1.step D3
        rw [lo_unk] at D4
        have HN : Hid (Cy No b { unk t2 p2 s' with lo := s'.lo ++ [t2] } W X #[.int .i64 k, .string ⟨t.toArray⟩, .int .i64 n, .int .i64 p, v] _ ∧ _) := ⟨D4, HD.out.2.2.kn (D3.2.2.mono fun _ _ e => .inl e)⟩
        clear hA D3 D4 hown3 hg3 hat3 hlt3 fz4 fc4
        rw [lo_unk] at HN ⊢
        go_wp2
        refine ⟨⟨i + 1, q', { unk t2 p2 s' with lo := s'.lo ++ [t2] }, by go_num, by omega, HN.out.1, fun g' o' e => ?_, HS.out.1, by simp only [List.length_append, List.length_singleton]; exact HS.out.2.2⟩, ?_⟩
        · injection e with e
          injection e with e1 e2
          subst e1 e2
          rw [show o + (i + 1) * 5 = o + i * 5 + 5 by omega]
          exact HN.out.2
        · simp [intOf]; omega
end Go.Proofs.YtmejlldabdjpjaaGreat

/- The walks of block and local. -/
namespace Go.Proofs.YtmejlldabdjpjaaGreat
open Go.RowKit

theorem F.drop_all : ∀ f : F, f.drop f.len = .nil
  | .nil => rfl
  | .cons _ _ _ _ _ r => F.drop_all r
theorem own_cut {w : World} {a : Option Addr} {l : List Tx} {n c m : Nat} (h : w.ownsRow 0 9 1 (.slice a n c) l.length (strs l)) (hm : m ≤ l.length) : w.ownsRow 0 9 1 (.slice a m c) (l.take m).length (strs (l.take m)) ∧ n = l.length ∧ l.length ≤ c := by
  have e1 : (l.take m).length = m := by rw [List.length_take]; omega
  have e2 : strs (l.take m) = (strs l).take m := by simp [strs, List.map_take]
  rcases h.2 with ⟨e, h0⟩ | ⟨g, cap, cur, e, q0, q1, q2, q3, q4, q5⟩
  · injection e with e3 e4 e5
    subst e3 e4 e5
    have : l = [] := List.eq_nil_of_length_eq_zero h0
    subst this
    obtain rfl : m = 0 := by simpa using hm
    exact ⟨World.ownsRow_nil _ _ _ _, rfl, Nat.le_refl _⟩
  · injection e with e3 e4 e5
    subst e3 e4 e5
    refine ⟨⟨by rw [e2, List.length_take]; simp [strs], .inr ⟨g, c, cur, by rw [e1], q0, q1, by omega, q3, q4, ?_⟩⟩, rfl, q2⟩
    rw [e1, e2, ← q5, List.take_take]
    congr 1
    omega
/-- The locals cut off. -/
theorem CK.cutL {No : Nat → Prop} {b : Nat} {x : Cx} {s : Cs} {w : World} {a : Option Addr} {n c m : Nat} (h : CK No b x s w) (hv : x.vL = .slice a n c) (hm : m ≤ s.lo.length) : Ck No b { s with lo := s.lo.take m } (w.setCell ⟨b, 4, none⟩ (.slice a m c)) ∧ Kn No w (w.setCell ⟨b, 4, none⟩ (.slice a m c)) := by
  have k : Tr x (fun l => l = 1) w (w.setCell ⟨b, 4, none⟩ (.slice a m c)) := (Tr.refl _ _ w).set h.lb _
  refine ⟨⟨{ x with vL := .slice a m c }, h.bx.put (j := 4) _, h.fr' k (by decide), h.gr' k (by decide), ?_, h.ar' k (by decide), h.mp' k (by decide), fun i _ _ hf hv => h.cs' k (by omega) hf hv, h.vl, h.lb, h.lF, h.lG, fun g hg => ?_, h.lA, h.lm, h.lc, h.no' k.size, h.nu⟩, ⟨rfl, rfl, rfl, k.size, fun g hg hn => k.block g hg (by rw [(h.no g hn).2]; decide)⟩⟩
  · have q := h.lr' k (by decide)
    rw [hv] at q
    exact (own_cut q hm).1
  · refine h.lL g ?_
    rw [hv]
    cases a with
    | none => simp [Value.ownBlock] at hg
    | some ad => simpa [Value.ownBlock] using hg

set_option maxRecDepth 20000 in
set_option maxHeartbeats 4000000 in
theorem blockc_any {N : Nat} {nd : Ndc} (H : ∀ k t n p ks s, Gd (ks.siz + 1) s (nd k t n p ks s)) (CE : CN 24 N nd) : CN 58 (N + 1) (fun _ _ _ _ ks s => blkC nd ks s) := by
  intro No b s W k t n p a c ks h hr hs hw hcc hL hp0 hp
  obtain ⟨-, -, hwk⟩ := F.wfC_one hw
  have B := h.cy #[.int .i64 k, .string ⟨t.toArray⟩, .int .i64 n, .int .i64 p, .slice a ks.len c]
  obtain ⟨X, hX⟩ : ∃ X, W.heap.size = X := ⟨_, rfl⟩
  obtain ⟨W1, hW1⟩ : ∃ W1, W.alloc (.cells #[.int .i64 (k), .string ⟨(t).toArray⟩, .int .i64 (n), .int .i64 (p), .slice a ks.len c] 42) = W1 := ⟨_, rfl⟩
  rw [hX, hW1] at B
  have C := nodes_any H CE (fun g => No g ∨ g = X) b s W1 a c ks B.ck (B.rv hr) (by omega) hwk (by omega) hp0 (by omega)
  have hG := (gd_ckN H ks s).lo
  obtain ⟨x, hx⟩ := B.ck
  obtain ⟨aL, cL, eL⟩ := slice_shape hx.lr
  have c4 : W1.cell? ⟨b, 4, none⟩ = some (.slice aL s.lo.length cL) := by rw [← eL]; exact hx.bx.c 4 _ rfl
  obtain ⟨p0, p1, p2, p3, p4⟩ := B.bx.five
  have HB : Hid _ := B
  have HS : Hid (blkC nd ks s = { ckN nd ks s with lo := (ckN nd ks s).lo.take s.lo.length }) := rfl
  clear h hr B hx eL
  go_enter Tryz.func58, Tryz.ntmps58
  go_wp2_with fail
  refine C.mono ?_
  rintro e w2 hq
  have D2 := HB.out.step hq
  obtain ⟨rfl, -⟩ := hq
  generalize ckN nd ks s = s2 at *
  obtain ⟨x2, hx2⟩ := D2.ck
  obtain ⟨aM, cM, eM⟩ := slice_shape hx2.lr
  have d4 : w2.cell? ⟨b, 4, none⟩ = some (.slice aM s2.lo.length cM) := by rw [← eM]; exact hx2.bx.c 4 _ rfl
  have f4 := hx2.bx.f 4
  have hcap : s2.lo.length ≤ cM := by have q := hx2.lr; rw [eM] at q; exact (own_cut q (Nat.zero_le _)).2.2
  have hA := hx2.cutL eM hG
  have HE : Hid (CP No b W { s2 with lo := s2.lo.take s.lo.length } (.returned (.tuple #[])) (w2.setCell ⟨b, 4, none⟩ (.slice aM s.lo.length cM))) := (D2.step (e := .returned (.tuple #[])) ⟨rfl, hA.1, hA.2⟩).out
  have g1 : (s.lo.length : Int) ≤ (cM : Int) := by omega
  have g2 : s.lo.length ≤ cM := by omega
  clear C hA D2 hx2 eM HB hG hcap
  go_wp2
  go_end0
  rw [HS.out]
  exact HE.out

end Go.Proofs.YtmejlldabdjpjaaGreat

/- The walk of local. -/
namespace Go.Proofs.YtmejlldabdjpjaaGreat
open Go.RowKit

theorem slice_from (a : Option Addr) (m c : Nat) (ks : F) (hm : m ≤ ks.len) (hc : ks.len ≤ c) {P : Nat → Prop} : ∃ a2 c2, (∀ W, (Instr.sliceAt 40 (.slice a ks.len c) (some (.int .i64 (m : Nat))) none none).run Tryz.prog W = .ok (.slice a2 (ks.len - m) c2) W) ∧ ∀ w, Rv w P a ks → Rv w P a2 (ks.drop m) := by
  refine ⟨if c = m then a else a.map (·.add (m * 5)), c - m, fun W => ?_, fun w h => ?_⟩
  · simp [go_sem, Instr.sliceAt, hm]
  · by_cases hlt : m < ks.len
    · rw [if_neg (by omega)]
      obtain ⟨x, hx⟩ := ks.get_some 0 (by omega)
      obtain ⟨g, o, _, _, e, _⟩ := Rv.nth ks 0 h (k := x.1) (t := x.2.1) (n := x.2.2.1) (p := x.2.2.2.1) (ks := x.2.2.2.2) hx
      subst e
      have q := Rv.drop ks m h
      simp only [Option.map_some]
      unfold Addr.add
      split
      · next h0 =>
        have h0 : m = 0 := by omega
        subst h0
        simpa using q
      · exact q
    · have e : m = ks.len := by omega
      rw [e, F.drop_all ks]
      exact Rv.nil _

set_option maxRecDepth 20000 in
set_option maxHeartbeats 8000000 in
theorem localc_any {N : Nat} {nd : Ndc} (H : ∀ k t n p ks s, Gd (ks.siz + 1) s (nd k t n p ks s)) (CE : CN 24 N nd) (No : Nat → Prop) (b : Nat) (s : Cs) (W : World) (k : Int) (t : Tx) (m : Nat) (p : Int) (a : Option Addr) (c : Nat) (ks : F) (h : Ck No b s W) (hr : Rv W No a ks) (hs : ks.siz < N + 1) (hwk : ks.wfC = true) (hcc : ks.len ≤ c ∧ c ≤ maxLen) (hm : m ≤ ks.len) (hL : s.wt + 4 * (ks.siz + 1) ≤ 1000000) (hp0 : 0 ≤ s.lp) (hp : s.lp + ((ks.siz : Nat) : Int) + 1 ≤ 1000000) :
    Calls Tryz.prog 59 #[.pointer (some ⟨b, 0, none⟩), (.agg #[.int .i64 (k), .string ⟨(t).toArray⟩, .int .i64 ((m : Nat)), .int .i64 (p), .slice a ks.len c])] W (CP No b W (bri p (ks.take m) (ckN nd (ks.drop m) (lim p ((ks.len : Int) - m) 50 (lim p m 50 s))))) := by
  have hlen := ks.len_siz
  have hcm : m ≤ c := by omega
  have hcm' : (m : Int) ≤ (c : Int) := by omega
  have hm0 : ¬ (m : Int) < 0 := by omega
  have wl : IntKind.i64.wrap ((ks.len : Int) - (m : Int)) = (ks.len : Int) - (m : Int) := by rw [IntKind.wrap_i64]; omega
  have B := h.cy #[.int .i64 k, .string ⟨t.toArray⟩, .int .i64 (m : Nat), .int .i64 p, .slice a ks.len c]
  obtain ⟨X, hX⟩ : ∃ X, W.heap.size = X := ⟨_, rfl⟩
  obtain ⟨W1, hW1⟩ : ∃ W1, W.alloc (.cells #[.int .i64 (k), .string ⟨(t).toArray⟩, .int .i64 ((m : Nat)), .int .i64 (p), .slice a ks.len c] 42) = W1 := ⟨_, rfl⟩
  rw [hX, hW1] at B
  have C1 := limit_any B.ck k t m p (.slice a ks.len c) (m : Int) 50
  have g1 := gd_lim p (m : Int) 50 s
  generalize lim p (m : Int) 50 s = s1 at *
  have g2 := gd_lim p ((ks.len : Int) - (m : Int)) 50 s1
  have HS2 : Hid (lim p ((ks.len : Int) - (m : Int)) 50 s1 = lim p ((ks.len : Int) - (m : Int)) 50 s1) := rfl
  have C2 : Hid (∀ (w : World), Ck (fun g => No g ∨ g = X) b s1 w → Calls Tryz.prog 38 #[.pointer (some ⟨b, 0, none⟩), (.agg #[.int .i64 (k), .string ⟨(t).toArray⟩, .int .i64 ((m : Nat)), .int .i64 (p), .slice a ks.len c]), .int .i64 ((ks.len : Int) - (m : Int)), .int .i64 50] w (CP (fun g => No g ∨ g = X) b w (lim p ((ks.len : Int) - (m : Int)) 50 s1))) := fun w hw => limit_any hw k t m p (.slice a ks.len c) ((ks.len : Int) - (m : Int)) 50
  generalize lim p ((ks.len : Int) - (m : Int)) 50 s1 = s2 at *
  have hts := F.td_siz ks m
  have htl := (ks.take m).len_siz
  have w1 := g1.wt
  have w2 := g2.wt
  have l1 := g1.lp
  have l2 := g2.lp
  have g3 := gd_ckN H (ks.drop m) s2
  have w3 := g3.wt
  have C3 : Hid (∀ (w : World) (a' : Option Addr) (c' : Nat), Ck (fun g => No g ∨ g = X) b s2 w → Rv w (fun g => No g ∨ g = X) a' (ks.drop m) → Calls Tryz.prog 39 #[.pointer (some ⟨b, 0, none⟩), .slice a' (ks.len - m) c'] w (CP (fun g => No g ∨ g = X) b w (ckN nd (ks.drop m) s2))) := fun w a' c' hw hv => by
    have := nodes_any H CE (fun g => No g ∨ g = X) b s2 w a' c' (ks.drop m) hw hv (by omega) (F.wfC_drop ks m hwk) (by omega) (by omega) (by omega)
    rw [F.drop_len] at this
    exact this
  generalize ckN nd (ks.drop m) s2 = s3 at *
  have C4 : Hid (∀ (w : World), Ck (fun g => No g ∨ g = X) b s3 w → Rv w (fun g => No g ∨ g = X) a ks → Calls Tryz.prog 96 #[.pointer (some ⟨b, 0, none⟩), (.agg #[.int .i64 (k), .string ⟨(t).toArray⟩, .int .i64 ((m : Nat)), .int .i64 (p), .slice a ks.len c]), .slice a m c] w (CP (fun g => No g ∨ g = X) b w (bri p (ks.take m) s3))) := fun w hw hv => by
    have := bring_any (fun g => No g ∨ g = X) b s3 w k t (m : Nat) p (.slice a ks.len c) a c (ks.take m) hw (hv.take m) (by omega)
    rw [F.take_len ks m hm] at this
    exact this
  obtain ⟨p0, p1, p2, p3, p4⟩ := B.bx.five
  have HB : Hid (_ ∧ _) := ⟨B, hr⟩
  clear h B g1 g2 g3 w1 w2 w3 l1 l2
  obtain ⟨a2, c2, hsl, hR2⟩ : ∃ a2 c2, (∀ W, (Instr.sliceAt 40 (.slice a ks.len c) (some (.int .i64 (m : Nat))) none none).run Tryz.prog W = .ok (.slice a2 (ks.len - m) c2) W) ∧ ∀ w, Rv w (fun g => No g ∨ g = X) a ks → Rv w (fun g => No g ∨ g = X) a2 (ks.drop m) := slice_from a m c ks hm (by omega)
  have HR2 : Hid _ := hR2
  clear hr hR2
  go_enter Tryz.func59, Tryz.ntmps59
  go_wp2_with fail
  refine C1.mono ?_
  rintro e v1 hq
  have D1 := HB.out.1.step hq
  obtain ⟨rfl, -⟩ := hq
  obtain ⟨q0, q1, q2, q3, q4⟩ := D1.bx.five
  have K2 := C2.out v1 D1.ck
  have HD1 : Hid _ := D1
  clear C1 D1
  go_wp2_with fail
  refine K2.mono ?_
  rintro e v2 hq
  have D2 := HD1.out.step hq
  obtain ⟨rfl, -⟩ := hq
  obtain ⟨r0, r1, r2, r3, r4⟩ := D2.bx.five
  have K3 := C3.out v2 a2 c2 D2.ck (HR2.out v2 (D2.rv HB.out.2))
  have HD2 : Hid _ := D2
  clear K2 D2 HD1
  go_wp2_with fail
  refine K3.mono ?_
  rintro e v3 hq
  have D3 := HD2.out.step hq
  obtain ⟨rfl, -⟩ := hq
  obtain ⟨u0, u1, u2, u3, u4⟩ := D3.bx.five
  have K4 := C4.out v3.drew D3.drew.ck (D3.drew.rv HB.out.2)
  have HD3 : Hid _ := D3.drew
  clear K3 D3 HD2 hsl
  go_wp2_with fail
  go_region_with (refine K4.mono ?_; rintro e v4 hq; have D4 := (HD3.out.step hq).out; obtain ⟨rfl, -⟩ := hq)
  all_goals
    go_wp2
    go_end0
    exact D4
end Go.Proofs.YtmejlldabdjpjaaGreat
