/- The walk of constant. -/
import Derived.Test.YtmejlldabdjpjaaGreatCg24
import Derived.Deep.DeepCutAuto
namespace Go.Proofs.YtmejlldabdjpjaaGreat
open Go.RowKit

theorem info54 : (Tryz.prog.info? 54).map (fun i => (i.zero, i.size, i.bytes)) = some (some (.agg #[.int .i64 0, .int .i64 0, .string ⟨#[]⟩]), 3, 32) := by kernel_rfl
/-- A constant more. -/
theorem CK.appC {No : Nat → Prop} {b : Nat} {x : Cx} {s : Cs} {w w3 : World} {f : Fn} {v : Value} {t : Vl} {g c g' cc : Nat} {o : Obj} (h : CK No b x s w) (hf : s.fs[s.nu]? = some f) (hv : x.vs[s.nu]? = some v) (hF : x.vF = .slice (some ⟨g, 0, none⟩) s.fs.length c) (_hl : x.lab g = 2)
    (hown : w3.ownsRow 0 54 3 (.slice (some ⟨g', 0, none⟩) (f.cs.length + 1) cc) (f.cs.length + 1) (vcl f.cs ++ [.int .i64 t.1, .int .i64 t.2.1, .string ⟨t.2.2.toArray⟩])) (hg3 : (w.alloc o).grownBy w3 v.ownBlock) (hat : v.ownBlock = some g' ∨ g' = (w.alloc o).heap.size) :
    Ck No b { s with fs := s.fs.set s.nu { f with cs := f.cs ++ [t] } } (w3.setCell ⟨g, s.nu * 5 + 4, none⟩ (.slice (some ⟨g', 0, none⟩) (f.cs.length + 1) cc)) ∧ Kn No w (w3.setCell ⟨g, s.nu * 5 + 4, none⟩ (.slice (some ⟨g', 0, none⟩) (f.cs.length + 1) cc)) := by
  have s3 := hg3.size
  have z1 : (w.alloc o).heap.size = w.heap.size + 1 := by simp
  have hgF : x.vF.ownBlock = some g := by rw [hF]; rfl
  have h1 := h.at (fun g hg => h.lc s.nu v g hv hg) (g' := g') (hat.imp id fun e => by omega)
  generalize hlab : (fun g => if g = g' then 6 + s.nu else x.lab g) = lab' at h1
  have hl' : lab' g' = 6 + s.nu := by rw [← hlab]; exact if_pos rfl
  have hl2 : lab' g = 2 := h1.lF g hgF
  have hgg : g' ≠ g := fun e => by rw [e] at hl'; omega
  have hlv : ∀ g, v.ownBlock = some g → lab' g = 6 + s.nu := fun g hg => h1.lc s.nu v g hv hg
  have k0 : Tr { x with lab := lab' } (fun l => l = 6 + s.nu) w w3 := ((Tr.refl _ _ w).alloc o).trans (Tr.app hg3 hlv rfl)
  have k : Tr { x with lab := lab' } (fun l => l = 2 ∨ l = 6 + s.nu) w (w3.setCell ⟨g, s.nu * 5 + 4, none⟩ (.slice (some ⟨g', 0, none⟩) (f.cs.length + 1) cc)) := (k0.mono fun _ e => .inr e).set (.inl hl2) _
  refine ⟨⟨{ x with vs := x.vs.set s.nu (.slice (some ⟨g', 0, none⟩) (f.cs.length + 1) cc), lab := lab' }, h1.bx' k (by omega), ?_, h1.gr' k (by omega), h1.lr' k (by omega), h1.ar' k (by omega), h1.mp' k (by omega), fun i f' v' hf' hv' => ?_, by simpa using h.vl, h1.lb, h1.lF, h1.lG, h1.lL, h.lA, h1.lm, fun i v' g2 hv' hg2 => ?_, h1.no' k.size, by simpa using h.nu⟩, ⟨hg3.os, hg3.tape, hg3.output, k.size, fun g hg hn => k.block g hg (by rw [(h1.no g hn).2]; omega)⟩⟩
  · have q := h1.fr' k0 (by omega)
    simp only at q
    rw [hF] at q
    have q2 := (q.stored (s.nu * 5 + 4) (.slice (some ⟨g', 0, none⟩) (f.cs.length + 1) cc)).1
    rw [fcl_cs s.fs x.vs s.nu f (f.cs ++ [t]) _ hf h.vl] at q2
    simp only
    rw [List.length_set, hF]
    exact q2
  · by_cases e : i = s.nu
    · subst e
      simp only [List.getElem?_set_self h.nu, Option.some.injEq] at hf'
      simp only [List.getElem?_set_self (show s.nu < x.vs.length by rw [h.vl]; exact h.nu), Option.some.injEq] at hv'
      subst hf' hv'
      have e1 : vcl (f.cs ++ [t]) = vcl f.cs ++ [.int .i64 t.1, .int .i64 t.2.1, .string ⟨t.2.2.toArray⟩] := by simp [vcl]
      simp only [List.length_append, List.length_singleton, e1]
      exact own_set hown (fun g2 hg2 => by have e2 : g' = g2 := by simpa [Value.ownBlock] using hg2
                                           omega) _
    · simp only at hf' hv'
      rw [List.getElem?_set_ne (fun q => e q.symm)] at hf' hv'
      exact h1.cs' k (by omega) hf' hv'
  · by_cases e : i = s.nu
    · subst e
      simp only [List.getElem?_set_self (show s.nu < x.vs.length by rw [h.vl]; exact h.nu), Option.some.injEq] at hv'
      subst hv'
      have e2 : g' = g2 := by simpa [Value.ownBlock] using hg2
      rw [← e2]; exact hl'
    · simp only at hv'
      rw [List.getElem?_set_ne (fun q => e q.symm)] at hv'
      exact h1.lc i v' g2 hv' hg2
theorem csS_le : ∀ (l : List Fn) (i : Nat) (f : Fn), l[i]? = some f → f.cs.length ≤ csS l
  | [], i, f, h => by simp at h
  | x :: l, 0, f, h => by simp at h; subst h; simp [csS]
  | x :: l, i + 1, f, h => by have := csS_le l i f (by simpa using h); simp [csS] at this ⊢; omega

set_option maxRecDepth 20000 in
set_option maxHeartbeats 8000000 in
theorem constant_any (No : Nat → Prop) (b : Nat) (s : Cs) (W : World) (k : Int) (t : Tx) (n p : Int) (v : Value) (u : Vl) (h : Ck No b s W) (hL : s.wt ≤ 1000000) :
    Calls Tryz.prog 35 #[.pointer (some ⟨b, 0, none⟩), (.agg #[.int .i64 (k), .string ⟨(t).toArray⟩, .int .i64 (n), .int .i64 (p), v]), .agg #[.int .i64 u.1, .int .i64 u.2.1, .string ⟨u.2.2.toArray⟩]] W (CP No b W (con u p s)) := by
  obtain ⟨i0, hi0, hz0, hz1, hz2⟩ := info_parts info54
  have B := (h.cy #[.int .i64 k, .string ⟨t.toArray⟩, .int .i64 n, .int .i64 p, v]).alloc (.cells #[.int .i64 u.1, .int .i64 u.2.1, .string ⟨u.2.2.toArray⟩] 54)
  have Y0 := Bx.new (W.alloc (.cells #[.int .i64 (k), .string ⟨(t).toArray⟩, .int .i64 (n), .int .i64 (p), v] 42)) 54 #[.int .i64 u.1, .int .i64 u.2.1, .string ⟨u.2.2.toArray⟩]
  obtain ⟨X, hX⟩ : ∃ X, W.heap.size = X := ⟨_, rfl⟩
  have hY : (W.alloc (.cells #[.int .i64 (k), .string ⟨(t).toArray⟩, .int .i64 (n), .int .i64 (p), v] 42)).heap.size = X + 1 := by rw [← hX]; simp
  rw [hY] at Y0
  obtain ⟨W1, hW1⟩ : ∃ W1, (W.alloc (.cells #[.int .i64 (k), .string ⟨(t).toArray⟩, .int .i64 (n), .int .i64 (p), v] 42)).alloc (.cells #[.int .i64 u.1, .int .i64 u.2.1, .string ⟨u.2.2.toArray⟩] 54) = W1 := ⟨_, rfl⟩
  rw [hX, hW1] at B
  rw [hW1] at Y0
  clear h hY
  obtain ⟨x, hx⟩ := B.ck
  obtain ⟨f, vc, g, cF, hf, hv, eF, lF, gF, d3, d4, dz, hrow⟩ := hx.fnAt
  have hlen : f.cs.length ≤ 1000000 := by have := csS_le s.fs s.nu f hf; unfold Cs.wt at hL; omega
  have b0 : W1.cell? ⟨b, 0, none⟩ = some x.vF := hx.bx.c 0 _ rfl
  have b3 : W1.cell? ⟨b, 3, none⟩ = some (.int .i64 (s.nu : Nat)) := hx.bx.c 3 _ rfl
  have hnu := hx.nu
  rw [eF] at b0
  have y0 := Y0.c 0 _ rfl
  have y1 := Y0.c 1 _ rfl
  have y2 := Y0.c 2 _ rfl
  have C := fun V => containsV_any f.cs u vc V
  have hcon : con u p s = conF f u p s := by unfold con; rw [hf]; rfl
  rw [hcon]
  have HB : Hid (Cy No b s W X #[.int .i64 k, .string ⟨t.toArray⟩, .int .i64 n, .int .i64 p, v] W1 ∧ Bx (X + 1) 54 #[.int .i64 u.1, .int .i64 u.2.1, .string ⟨u.2.2.toArray⟩] W1) := ⟨B, Y0⟩
  have HX : Hid (CK (fun g => No g ∨ g = X) b x s W1) := hx
  have dz4 := dz (s.nu * 5 + 4)
  unfold conF
  by_cases hc : f.cs.contains u = true
  · rw [if_pos hc]
    rw [hc] at C
    clear B Y0 hx hf hv eF lF dz hcon hc d3
    go_enter Tryz.func35, Tryz.ntmps35
    go_wp2_with fail
    go_region
    go_wp2_with fail
    go_region_with (refine (C _ (by exact hrow) (by omega)).mono ?_; rintro e w2 ⟨rfl, k2⟩; have D2 : Cy No b s W X #[.int .i64 k, .string ⟨t.toArray⟩, .int .i64 n, .int .i64 p, v] w2 := (by first | exact HB.out.1.drew.drew.below k2 | exact HB.out.1.drew.below k2 | exact HB.out.1.below k2))
    all_goals
      go_wp2
      go_end0
      exact D2.out
  · rw [if_neg hc]
    rw [Bool.eq_false_iff.2 hc] at C
    have HC : Hid (∀ w2, Below W1.heap.size W1 w2 → Cy No b s W X #[.int .i64 k, .string ⟨t.toArray⟩, .int .i64 n, .int .i64 p, v] w2 ∧ Bx (X + 1) 54 #[.int .i64 u.1, .int .i64 u.2.1, .string ⟨u.2.2.toArray⟩] w2 ∧ CK (fun g => No g ∨ g = X) b x s w2 ∧ w2.cell? ⟨g, s.nu * 5 + 4, none⟩ = some vc ∧ w2.frozen? ⟨g, s.nu * 5 + 4, none⟩ = false ∧ w2.ownsRow 0 54 3 vc f.cs.length (vcl f.cs) ∧ (∀ o, (w2.alloc o).cell? ⟨g, s.nu * 5 + 4, none⟩ = some vc) ∧
        (∀ o w3, (w2.drew.alloc o).grownBy w3 vc.ownBlock → w3.cell? ⟨g, s.nu * 5 + 4, none⟩ = some vc ∧ w3.frozen? ⟨g, s.nu * 5 + 4, none⟩ = false)) := fun w2 hk => by
      have hx2 := hx.below hk
      have hc2 := (hk.cell (p := ⟨g, s.nu * 5 + 4, none⟩) (by exact gF)).trans d4
      have hb2 : w2.heap[g]? = W1.heap[g]? := hk.block g gF
      have gF2 : g < w2.heap.size := Nat.lt_of_lt_of_le gF hk.size
      refine ⟨B.below hk, Y0.below hk, hx2, hc2, (World.frozen?_of_block (a := ⟨g, s.nu * 5 + 4, none⟩) hb2).trans dz4, hx2.cs _ _ _ hf hv, fun o => (((Below.refl _ w2).alloc (Nat.le_refl _) o).cell (p := ⟨g, s.nu * 5 + 4, none⟩) (by exact gF2)).trans hc2, fun o w3 hg3 => ?_⟩
      have hb3 : w3.heap[g]? = w2.heap[g]? := (hg3.block g (Nat.lt_of_lt_of_le gF2 (by simp)) (fun e => by have := hx.lc _ _ _ hv e.symm; omega)).trans ((World.grownBy_alloc w2.drew o none).block g gF2 (by simp))
      exact ⟨(World.cell?_of_block (a := ⟨g, s.nu * 5 + 4, none⟩) hb3).trans hc2, (World.frozen?_of_block (a := ⟨g, s.nu * 5 + 4, none⟩) hb3).trans ((World.frozen?_of_block (a := ⟨g, s.nu * 5 + 4, none⟩) hb2).trans dz4)⟩
    have HQ : Hid (s.fs[s.nu]? = some f ∧ x.vs[s.nu]? = some vc ∧ x.vF = .slice (some ⟨g, 0, none⟩) s.fs.length cF ∧ x.lab g = 2) := ⟨hf, hv, eF, lF⟩
    clear B Y0 hx hf hv eF lF dz hcon hc d3 HB HX
    go_enter Tryz.func35, Tryz.ntmps35
    go_wp2_with fail
    go_region
    go_wp2_with fail
    go_cut [23] (fun bv wx => bv = .bool false ∧ Below W1.heap.size W1 wx)
    case first =>
      go_region_with (refine (C _ (by exact hrow) (by omega)).mono ?_; rintro e w2 ⟨rfl, k2⟩; have k3 : Below W1.heap.size W1 w2 := (by exact ⟨k2.os, k2.tape, k2.output, k2.size, k2.block⟩))
      all_goals
        go_wp2_with fail
        go_meet
        exact ⟨rfl, k3⟩
    case rest =>
      obtain ⟨rfl, hk⟩ := hcut
      obtain ⟨D, Y1, hx1, m4, mz4, mrow, m4A, HM0⟩ := HC.out wc hk
      have y0 := Y1.c 0 _ rfl
      have y1 := Y1.c 1 _ rfl
      have y2 := Y1.c 2 _ rfl
      have HM : Hid (∀ o w3, (wc.drew.alloc o).grownBy w3 vc.ownBlock → w3.cell? ⟨g, s.nu * 5 + 4, none⟩ = some vc ∧ w3.frozen? ⟨g, s.nu * 5 + 4, none⟩ = false) := HM0
      have HD : Hid (Cy No b s W X #[.int .i64 k, .string ⟨t.toArray⟩, .int .i64 n, .int .i64 p, v] wc ∧ CK (fun g => No g ∨ g = X) b x s wc) := ⟨D, hx1⟩
      clear HC C D Y1 hx1 HM0 hk b0 b3 d4 gF hrow dz4
      go_wp2_with fail
      go_cut [] (fun wx => ∃ gg cc, Cy No b { s with fs := s.fs.set s.nu { f with cs := f.cs ++ [u] } } W X #[.int .i64 k, .string ⟨t.toArray⟩, .int .i64 n, .int .i64 p, v] wx ∧ wx.cell? ⟨g, s.nu * 5 + 4, none⟩ = some (.slice (some ⟨gg, 0, none⟩) (f.cs.length + 1) cc))
      case first =>
        go_region_law (refine step_append_lies _ (by rfl) _ _ 46 (by rfl) 0 54 i0 _ 3 32 Tryz.underlying46 hi0 hz0 hz1 hz2 rfl (by omega) vc f.cs.length (vcl f.cs) (by rfl) (mrow.alloc _) ⟨wc.drew.heap.size, 0, none⟩ 1 1 [.int .i64 u.1, .int .i64 u.2.1, .string ⟨u.2.2.toArray⟩] (by rfl) rfl (World.news_of_block (cs := #[.int .i64 u.1, .int .i64 u.2.1, .string ⟨u.2.2.toArray⟩]) (t := 54) (fr := (0, 0)) (Bx.new wc.drew 54 #[.int .i64 u.1, .int .i64 u.2.1, .string ⟨u.2.2.toArray⟩]).blk) (by simp [Value.oneCell']) (by omega) (by unfold maxLen; omega) (by omega) (by omega) _ rfl ?_; intro gg cc w3 hown3 hg3 hat3 hlt3; obtain ⟨fc4, fz4⟩ := HM.out _ w3 hg3)
        all_goals
          have hA := HD.out.2.drew.appC (t := u) (o := .cells #[.int .i64 u.1, .int .i64 u.2.1, .string ⟨u.2.2.toArray⟩] 54) HQ.out.1 HQ.out.2.1 HQ.out.2.2.1 HQ.out.2.2.2 hown3 hg3 hat3
          have D3 := HD.out.1.drew.step (e := .returned (.tuple #[])) ⟨rfl, hA.1, hA.2⟩
          have fc5 := World.cell?_setCell_same w3 ⟨g, s.nu * 5 + 4, none⟩ (.slice (some ⟨gg, 0, none⟩) (f.cs.length + 1) cc) fc4
          have HZ : Hid _ := And.intro D3 fc5
          clear hA D3 fc5 hown3 hg3 hat3 hlt3 fc4 fz4
          go_wp2_with fail
          go_meet
          exact ⟨gg, cc, HZ.out⟩
      case rest =>
        obtain ⟨gg, cc, D, m5⟩ := hcut
        have CL := limit_any D.drew.ck k t n p v ((f.cs.length : Int) + 1) 250
        obtain ⟨p0, p1, p2, p3, p4⟩ := D.bx.five
        have HD5 : Hid _ := D.drew
        clear D HD HM HQ mrow m4 mz4 m4A y0 y1 y2
        go_wp2_with fail
        go_region_with (refine CL.mono ?_; rintro e w2 hq; have D6 := (HD5.out.step hq).out; obtain ⟨rfl, -⟩ := hq)
        all_goals
          go_wp2
          go_end0
          exact D6
end Go.Proofs.YtmejlldabdjpjaaGreat

/- The walks of name, Library, indexesKept. -/
namespace Go.Proofs.YtmejlldabdjpjaaGreat
open Go.RowKit

set_option maxRecDepth 20000 in
set_option maxHeartbeats 2000000 in
theorem indexT_all (l : List Tx) (t : Tx) (v : Value) (w : World) (h : w.ownsRow 0 9 1 v l.length (strs l)) :
    Calls Tryz.prog 95 #[v, .string ⟨t.toArray⟩] w fun e w' => (∃ i : Int, e = .returned (.int .i64 i) ∧ decide (0 ≤ i) = l.contains t) ∧ w' = w := by
  obtain ⟨a, c, rfl⟩ := slice_shape h
  have hl : l.length ≤ maxLen := by
    rcases h.2 with ⟨_, e⟩ | ⟨g, cap, cur, _, _, _, h4, h5, _⟩
    · rw [e]; exact Nat.zero_le _
    · omega
  have HL : Hid (∀ i : Nat, i < l.length → IntKind.i64.wrap ((i : Int) + 1) = (i : Int) + 1) := fun i hi => by rw [IntKind.wrap_i64]; unfold maxLen at hl; omega
  clear hl
  have HC : Hid (∀ i u, l[i]? = some u → ∃ g, a = some ⟨g, 0, none⟩ ∧ w.cell? ⟨g, i, none⟩ = some (.string ⟨u.toArray⟩)) := fun i u hu => by
    obtain ⟨g, h1, h2⟩ := own_at h i _ (strs_at l i u hu)
    rcases h.2 with ⟨e, _⟩ | ⟨g', cap, cur, e, _⟩
    · rw [e] at h1; simp [Value.ownBlock] at h1
    · rw [e] at h1
      injection e with e1 e2 e3
      have e4 : g' = g := by simpa [Value.ownBlock] using h1
      exact ⟨g, by rw [e1, e4], h2⟩
  clear h
  go_enter Tryz.func95, Tryz.ntmps95
  go_wp2_with fail
  go_loopw [4, 5, 8] (fun _ _ iv wx => ∃ i : Nat, iv = .int .i64 (i : Nat) ∧ i ≤ l.length ∧ Hid ((l.take i).contains t = false) ∧ wx = w) (fun _ _ iv _ => l.length - (intOf iv).toNat)
  case atStart => exact ⟨0, rfl, Nat.zero_le _, by show (l.take 0).contains t = false; simp, rfl⟩
  case round =>
    obtain ⟨i, rfl, hi, HR, rfl⟩ := hrel
    by_cases hlt : i < l.length
    · obtain ⟨u, hu⟩ : ∃ u, l[i]? = some u := ⟨_, List.getElem?_eq_getElem hlt⟩
      obtain ⟨g, rfl, hc⟩ := HC.out i u hu
      by_cases he : t = u
      · have HE : Hid (l.contains t = true) := by
          have := List.mem_of_getElem? hu
          rw [← he] at this
          show l.contains t = true
          simpa using this
        subst he
        clear hu
        go_wp2
        go_ret
        exact ⟨⟨_, rfl, by rw [HE.out]; simp⟩, rfl⟩
      · have HN : Hid ((l.take (i + 1)).contains t = false) := by
          rw [List.take_add_one, hu]
          have := HR.out
          simp at this ⊢
          exact ⟨this, fun e => he e⟩
        have he2 : (t == u) = false := by simpa using he
        have wi := HL.out i hlt
        clear hu HR
        go_wp2
        refine ⟨⟨i + 1, by go_num, by omega, HN, trivial⟩, ?_⟩
        simp [intOf]; omega
    · obtain rfl : i = l.length := by omega
      have HE : Hid (l.contains t = false) := by have := HR.out; show l.contains t = false; simpa using this
      clear HR
      go_wp2
      go_ret
      exact ⟨⟨_, rfl, by rw [HE.out]; decide⟩, rfl⟩

set_option maxRecDepth 20000 in
set_option maxHeartbeats 2000000 in
theorem containsT_all (l : List Tx) (t : Tx) (v : Value) (w : World) (h : w.ownsRow 0 9 1 v l.length (strs l)) :
    Calls Tryz.prog 54 #[v, .string ⟨t.toArray⟩] w fun e w' => e = .returned (.bool (l.contains t)) ∧ w' = w := by
  have C := indexT_all l t v w h
  go_enter Tryz.func54, Tryz.ntmps54
  go_wp2_with fail
  refine C.mono ?_
  rintro e w1 ⟨⟨i, rfl, hi⟩, hw⟩
  rw [hw]
  go_wp2
  go_ret
  exact ⟨by simp, rfl⟩

set_option maxRecDepth 20000 in
set_option maxHeartbeats 4000000 in
theorem name_any (No : Nat → Prop) (b : Nat) (s : Cs) (W : World) (k : Int) (t : Tx) (n p : Int) (v : Value) (h : Ck No b s W) (hL : s.wt ≤ 1000000) (ht : t.length ≤ 20000) :
    Calls Tryz.prog 36 #[.pointer (some ⟨b, 0, none⟩), (.agg #[.int .i64 (k), .string ⟨(t).toArray⟩, .int .i64 (n), .int .i64 (p), v])] W (CP No b W (nmC t p s)) := by
  have B := h.cy #[.int .i64 k, .string ⟨t.toArray⟩, .int .i64 n, .int .i64 p, v]
  obtain ⟨X, hX⟩ : ∃ X, W.heap.size = X := ⟨_, rfl⟩
  obtain ⟨W1, hW1⟩ : ∃ W1, W.alloc (.cells #[.int .i64 (k), .string ⟨(t).toArray⟩, .int .i64 (n), .int .i64 (p), v] 42) = W1 := ⟨_, rfl⟩
  rw [hX, hW1] at B
  have CU := unkept_any B.ck k t n p v
  obtain ⟨p0, p1, p2, p3, p4⟩ := B.bx.five
  have HB : Hid _ := B
  clear h B
  unfold nmC
  have hlo : s.lo.length ≤ s.wt ∧ s.gl.length ≤ s.wt := by unfold Cs.wt; omega
  have hu : s.lo = (unk t p s).lo ∧ s.ar = (unk t p s).ar ∧ s.gl = (unk t p s).gl := by
    unfold unk fau
    split
    · split <;> exact ⟨rfl, rfl, rfl⟩
    · exact ⟨rfl, rfl, rfl⟩
  rw [hu.1] at hlo ⊢
  rw [hu.2.2] at hlo
  clear hu
  generalize unk t p s = s2 at *
  have hl3 : s2.gl.length ≤ 1000000 := by omega
  by_cases hc : s2.lo.contains t = true
  · rw [if_pos hc]
    have H1 : Hid (s2.lo.contains t = true) := hc
    clear hc
    go_enter Tryz.func36, Tryz.ntmps36
    go_wp2_with fail
    refine CU.mono ?_
    rintro e w2 hq
    have D := HB.out.step hq
    obtain ⟨rfl, -⟩ := hq
    obtain ⟨x, hx⟩ := D.ck
    have b4 : w2.cell? ⟨b, 4, none⟩ = some x.vL := hx.bx.c 4 _ rfl
    have b6 : w2.cell? ⟨b, 6, none⟩ = some x.vA := hx.bx.c 6 _ rfl
    obtain ⟨q0, q1, q2, q3, q4⟩ := D.bx.five
    have C1 := fun V => containsT_all s2.lo t x.vL V
    have C2 := fun V => containsT_all s2.ar t x.vA V
    have hlr := hx.lr
    have har := hx.ar
    rw [H1.out] at C1
    have HD : Hid (Cy No b s2 W X #[.int .i64 k, .string ⟨t.toArray⟩, .int .i64 n, .int .i64 p, v] w2) := D
    clear CU D hx HB p0 p1 p2 p3 p4 hlo
    go_wp2_with fail
    go_region_with (refine (C1 _ (by exact hlr)).mono ?_; rintro e w3 ⟨rfl, hw⟩; rw [hw])
    all_goals
      go_wp2
      go_end0
      exact HD.out.drew.out
  · rw [if_neg hc]
    have H1 : Hid (s2.lo.contains t = false) := Bool.eq_false_iff.2 hc
    clear hc
    unfold ngl
    by_cases hc : s2.ar.contains t = true
    · rw [if_pos hc]
      have H2 : Hid (s2.ar.contains t = true) := hc
      clear hc
      go_enter Tryz.func36, Tryz.ntmps36
      go_wp2_with fail
      refine CU.mono ?_
      rintro e w2 hq
      have D := HB.out.step hq
      obtain ⟨rfl, -⟩ := hq
      obtain ⟨x, hx⟩ := D.ck
      have b4 : w2.cell? ⟨b, 4, none⟩ = some x.vL := hx.bx.c 4 _ rfl
      have b6 : w2.cell? ⟨b, 6, none⟩ = some x.vA := hx.bx.c 6 _ rfl
      obtain ⟨q0, q1, q2, q3, q4⟩ := D.bx.five
      have C1 := fun V => containsT_all s2.lo t x.vL V
      have C2 := fun V => containsT_all s2.ar t x.vA V
      have hlr := hx.lr
      have har := hx.ar
      rw [H1.out] at C1
      rw [H2.out] at C2
      have HD : Hid (Cy No b s2 W X #[.int .i64 k, .string ⟨t.toArray⟩, .int .i64 n, .int .i64 p, v] w2) := D
      clear CU D hx HB p0 p1 p2 p3 p4 hlo
      go_wp2_with fail
      go_cut [14] (fun bv wx => bv = .bool false ∧ wx = w2.drew)
      case first =>
        go_region_with (refine (C1 _ (by exact hlr)).mono ?_; rintro e w3 ⟨rfl, hw⟩; rw [hw])
        all_goals
          go_wp2_with fail
          go_meet
          exact ⟨rfl, rfl⟩
      case rest =>
        obtain ⟨rfl, rfl⟩ := hcut
        clear C1
        have CF := fault_any HD.out.drew.drew.ck 5 p
        go_wp2_with fail
        go_cut [21] (fun bv wx => bv = .bool true ∧ wx = w2.drew.drew)
        case first =>
          go_region_with (refine (C2 _ (by exact har)).mono ?_; rintro e w3 ⟨rfl, hw⟩; rw [hw])
          all_goals
            go_wp2_with fail
            go_meet
            exact ⟨rfl, rfl⟩
        case rest =>
          obtain ⟨rfl, rfl⟩ := hcut
          go_wp2_with fail
          refine CF.mono ?_
          rintro e w3 hq
          have D4 := HD.out.drew.drew.step hq
          obtain ⟨rfl, -⟩ := hq
          have gl4 : (fau 5 p s2).gl.length ≤ 1000000 := by unfold fau; split <;> exact hl3
          have CG := global_any D4.ck t ht gl4
          obtain ⟨r0, r1, r2, r3, r4⟩ := D4.bx.five
          have HD4 : Hid _ := D4
          clear D4 CF C2 HD
          go_wp2_with fail
          refine CG.mono ?_
          rintro e w5 hq
          have D5 := (HD4.out.step hq).out
          obtain ⟨rfl, -⟩ := hq
          go_wp2
          go_end0
          exact D5
    · rw [if_neg hc]
      have H2 : Hid (s2.ar.contains t = false) := Bool.eq_false_iff.2 hc
      clear hc
      go_enter Tryz.func36, Tryz.ntmps36
      go_wp2_with fail
      refine CU.mono ?_
      rintro e w2 hq
      have D := HB.out.step hq
      obtain ⟨rfl, -⟩ := hq
      obtain ⟨x, hx⟩ := D.ck
      have b4 : w2.cell? ⟨b, 4, none⟩ = some x.vL := hx.bx.c 4 _ rfl
      have b6 : w2.cell? ⟨b, 6, none⟩ = some x.vA := hx.bx.c 6 _ rfl
      obtain ⟨q0, q1, q2, q3, q4⟩ := D.bx.five
      have C1 := fun V => containsT_all s2.lo t x.vL V
      have C2 := fun V => containsT_all s2.ar t x.vA V
      have hlr := hx.lr
      have har := hx.ar
      rw [H1.out] at C1
      rw [H2.out] at C2
      have HD : Hid (Cy No b s2 W X #[.int .i64 k, .string ⟨t.toArray⟩, .int .i64 n, .int .i64 p, v] w2) := D
      clear CU D hx HB p0 p1 p2 p3 p4 hlo
      go_wp2_with fail
      go_cut [14] (fun bv wx => bv = .bool false ∧ wx = w2.drew)
      case first =>
        go_region_with (refine (C1 _ (by exact hlr)).mono ?_; rintro e w3 ⟨rfl, hw⟩; rw [hw])
        all_goals
          go_wp2_with fail
          go_meet
          exact ⟨rfl, rfl⟩
      case rest =>
        obtain ⟨rfl, rfl⟩ := hcut
        clear C1
        have CG := global_any HD.out.drew.drew.ck t ht hl3
        go_wp2_with fail
        go_cut [21] (fun bv wx => bv = .bool false ∧ wx = w2.drew.drew)
        case first =>
          go_region_with (refine (C2 _ (by exact har)).mono ?_; rintro e w3 ⟨rfl, hw⟩; rw [hw])
          all_goals
            go_wp2_with fail
            go_meet
            exact ⟨rfl, rfl⟩
        case rest =>
          obtain ⟨rfl, rfl⟩ := hcut
          go_wp2_with fail
          refine CG.mono ?_
          rintro e w5 hq
          have D5 := (HD.out.drew.drew.step hq).out
          obtain ⟨rfl, -⟩ := hq
          go_wp2
          go_end0
          exact D5
end Go.Proofs.YtmejlldabdjpjaaGreat
