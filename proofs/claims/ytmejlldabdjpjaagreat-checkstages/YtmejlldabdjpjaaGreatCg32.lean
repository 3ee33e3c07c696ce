/- The walk of CheckStages, out of the contracts of what it calls. -/
import Derived.Test.YtmejlldabdjpjaaGreatCg31
import Derived.Test.YtmejlldabdjpjaaGreatCg22
import Derived.Test.YtmejlldabdjpjaaGreatCg24
import Derived.Test.YtmejlldabdjpjaaGreatCg23
import Derived.Test.YtmejlldabdjpjaaGreatCg16
import Derived.Test.YtmejlldabdjpjaaGreatCg20
import Derived.Test.YtmejlldabdjpjaaGreatCg30
namespace Go.Proofs.YtmejlldabdjpjaaGreat
open Go.RowKit

theorem F.fcn_len : ∀ f : F, f.fcn ≤ f.len
  | .nil => Nat.le_refl _
  | .cons k t n p ks r => by have := F.fcn_len r; simp only [F.fcn, F.len]; split <;> omega
theorem own_one1 {w : World} {e : TypeId} {z : Nat} {v : Value} {n : Nat} {xs : List Value} (h : w.ownsRow 0 e z v n xs) (hn : 0 < n) : ∃ g c, v = .slice (some ⟨g, 0, none⟩) n c ∧ g < w.heap.size ∧ ∀ j u, xs[j]? = some u → w.cell? ⟨g, j, none⟩ = some u := by
  rcases h.2 with ⟨_, h0⟩ | ⟨g, cap, cur, e, _⟩
  · omega
  · refine ⟨g, cap, e, (h.lt g (by rw [e]; rfl)).2, fun j u hu => ?_⟩
    obtain ⟨g', e1, e2⟩ := own_at h j u hu
    have e3 : g = g' := by rw [e] at e1; simpa [Value.ownBlock] using e1
    rw [e3]; exact e2
set_option maxRecDepth 20000 in
set_option maxHeartbeats 8000000 in
theorem stages_walk (s : ByteArray) (W : World)
    (C1 : Calls Tryz.prog 9 #[.string s] W fun e w' => ∃ vF vG, e = .returned (.tuple #[.agg #[vF, vG], .agg #[.int .i64 (chT s.data.toList).2.1, .int .i64 (chT s.data.toList).2.2]]) ∧ Rp w' vF vG (chT s.data.toList).1.1 (chT s.data.toList).1.2 ∧ Below W.heap.size W w')
    (P1 : ∀ w, Calls Tryz.prog 15 #[.string s] w fun e W' => ∃ k t n p a c ks, e = .returned (.tuple #[(.agg #[.int .i64 (k), .string ⟨(t).toArray⟩, .int .i64 (n), .int .i64 (p), .slice a ks.len c]), .agg #[.int .i64 (prT s.data.toList).2.1, .int .i64 (prT s.data.toList).2.2]]) ∧ (prT s.data.toList).1 = one k t n p ks ∧ TN 42 W' (fun g => w.heap.size ≤ g) k t n p (.slice a ks.len c) ks ∧ Below w.heap.size w W')
    (FX : ∀ w, Calls Tryz.prog 11 #[] w fun e w' => e = .returned (.bool true) ∧ Below w.heap.size w w') :
    Calls Tryz.prog 5 #[.string s] W fun e w' => e = .returned (.bool true) ∧ Below W.heap.size W w' := by
  have SP := fun k t n p ks => @stages_plain s.data.toList k t n p ks
  have hz := prT_siz s.data.toList
  generalize chT s.data.toList = r at C1 SP
  generalize prT s.data.toList = y at P1 SP hz
  obtain ⟨⟨fs, gl⟩, rc, ra⟩ := r
  obtain ⟨yf, yc, ya⟩ := y
  simp only [] at SP hz P1
  simp only [] at C1
  go_enter Tryz.func5, Tryz.ntmps5
  go_wp2_with fail
  refine C1.mono ?_
  rintro e w1 ⟨vF, vG, rfl, hRp, hB1⟩
  obtain ⟨⟨vs, hF, hvs, hcs⟩, hG⟩ := hRp
  obtain ⟨aF, cF, rfl⟩ := slice_shape hF
  obtain ⟨aG, cG, rfl⟩ := slice_shape hG
  have HQ : Hid (w1.ownsRow 0 48 5 (.slice aF fs.length cF) fs.length (fcl fs vs) ∧ vs.length = fs.length ∧ Below W.heap.size W w1) := ⟨hF, hvs, hB1⟩
  clear C1 hF hG hcs hvs hB1
  go_wp2_with fail
  refine (P1 _).mono ?_
  rintro e w2 ⟨k, t, n, p, a, c, ks, rfl, hpf, hT, hB2⟩
  have X1 := ((Bx.new w1 25 #[.slice aF fs.length cF, .slice aG gl.length cG]).alloc (.cells #[.int .i64 rc, .int .i64 ra] 28)).below hB2
  have X2 := (Bx.new (w1.alloc (.cells #[.slice aF fs.length cF, .slice aG gl.length cG] 25)) 28 #[.int .i64 rc, .int .i64 ra]).below hB2
  have e1 : (w1.alloc (.cells #[.slice aF fs.length cF, .slice aG gl.length cG] 25)).heap.size = w1.heap.size + 1 := by simp
  rw [e1] at X2
  have B2 := bthen (b2 w1 (.cells #[.slice aF fs.length cF, .slice aG gl.length cG] 25) (.cells #[.int .i64 rc, .int .i64 ra] 28)) (by simp; omega) hB2
  obtain ⟨s1, s2, s3, s4⟩ := SP k t n p ks hpf
  have HR : Hid (∃ PP, Rw w2 PP a 0 ks ∧ ks.siz ≤ 60010) := ⟨_, hT.rw0, by rw [hpf] at hz; simp only [one, F.siz] at hz; omega⟩
  have HX : Hid (Bx w1.heap.size 25 #[.slice aF fs.length cF, .slice aG gl.length cG] w2 ∧ Bx (w1.heap.size + 1) 28 #[.int .i64 rc, .int .i64 ra] w2 ∧ Below w1.heap.size w1 w2) := ⟨X1, X2, B2⟩
  clear P1 SP hpf hT hB2 X1 X2 B2 e1
  go_wp2_with fail
  refine (FX _).mono ?_
  rintro e w3 ⟨rfl, hB3⟩
  have Y1 := ((Bx.new w2 42 #[.int .i64 k, .string ⟨t.toArray⟩, .int .i64 n, .int .i64 p, .slice a ks.len c]).alloc (.cells #[.int .i64 yc, .int .i64 ya] 28)).below hB3
  have Y2 := (Bx.new (w2.alloc (.cells #[.int .i64 k, .string ⟨t.toArray⟩, .int .i64 n, .int .i64 p, .slice a ks.len c] 42)) 28 #[.int .i64 yc, .int .i64 ya]).below hB3
  have e2 : (w2.alloc (.cells #[.int .i64 k, .string ⟨t.toArray⟩, .int .i64 n, .int .i64 p, .slice a ks.len c] 42)).heap.size = w2.heap.size + 1 := by simp
  rw [e2] at Y2
  have B3 := bthen (b2 w2 (.cells #[.int .i64 k, .string ⟨t.toArray⟩, .int .i64 n, .int .i64 p, .slice a ks.len c] 42) (.cells #[.int .i64 yc, .int .i64 ya] 28)) (by simp; omega) hB3
  have X1 := HX.out.1.below B3
  have X2 := HX.out.2.1.below B3
  have BA := bthen HX.out.2.2 HX.out.2.2.size B3
  have l1 : w1.heap.size < w3.heap.size := (Array.getElem?_eq_some_iff.1 X1.blk).1
  have l2 : w2.heap.size < w3.heap.size := (Array.getElem?_eq_some_iff.1 Y1.blk).1
  have x0 := X1.c 0 _ rfl
  have x1 := X1.c 1 _ rfl
  have x2 := X2.c 0 _ rfl
  have x3 := X2.c 1 _ rfl
  obtain ⟨y0, y1, y2, y3, y4⟩ := Y1.five
  have g0 := Y2.c 0 _ rfl
  have g1 := Y2.c 1 _ rfl
  obtain ⟨PP, hR2, hsz⟩ := HR.out
  have hR3 := hR2.below B3
  have hF3 := own_keep HQ.out.1 fun g hg => BA.block g (HQ.out.1.lt g hg).2
  have HE : Hid (Below W.heap.size W w3) := bthen HQ.out.2.2 HQ.out.2.2.size BA
  have hvs := HQ.out.2.1
  clear HQ HX HR hR2 hB3 Y1 Y2 X1 X2 B3 BA e2 FX hz
  by_cases hy : yc = 0
  · subst hy
    by_cases hr : rc = 0
    · subst hr
      obtain ⟨h1, h2, f, h3, h4, h5⟩ := s4 rfl rfl
      obtain ⟨gF, cF', e3, hg, hc⟩ := own_one1 hF3 (by omega)
      injection e3 with e3 _ e4
      subst e3 e4
      have FN := fun V (h : Rw V PP a 0 ks) => functions_any ks (by omega) V PP k t n p a c h
      have HT := fun V (h : Rw V PP a 0 ks) => height_any 1000000 ks (by omega) (Nat.le_refl _) V PP k t n p a c h
      obtain ⟨fr, hfr⟩ : ∃ fr, fs = f :: fr := by
        cases fs with
        | nil => simp at h3
        | cons f0 l => simp only [List.getElem?_cons_zero, Option.some.injEq] at h3; exact ⟨l, by rw [h3]⟩
      obtain ⟨v0, vr, hvr⟩ : ∃ v0 vr, vs = v0 :: vr := by
        cases vs with
        | nil => rw [hfr] at hvs; simp at hvs
        | cons v0 l => exact ⟨v0, l, rfl⟩
      have d0 := hc 0 (.string ⟨#[]⟩) (by rw [hfr, hvr]; simp [fcl, h4])
      have d1 := hc 1 (.int .i64 p) (by rw [hfr, hvr]; simp [fcl, h5])
      rw [h2] at x0 ⊢
      have hlz := ks.len_siz
      have hfz : ks.fcn ≤ ks.len := F.fcn_len ks
      have hh := ks.hgt_siz
      have wf : IntKind.i64.wrap (1 + (ks.fcn : Int)) = 1 + (ks.fcn : Int) := by rw [IntKind.wrap_i64]; omega
      have hpos : (0 : Int) < ((1 + ks.fcn : Nat) : Int) := by omega
      obtain ⟨Yc, Fw, F1, F2⟩ := class_of w3
      have HC : Hid (∃ x, w3.drew = Fw x) := F2 _ (Below.refl _ _).drew
      haveI : Nonempty Yc := HC.out.elim fun x _ => ⟨x⟩
      have hFN : ∀ x, Calls Tryz.prog 16 #[(.agg #[.int .i64 (k), .string ⟨(t).toArray⟩, .int .i64 (n), .int .i64 (p), .slice a ks.len c])] (Fw x) fun e w'' => e = .returned (.int .i64 ((ks.fcn : Nat) : Int)) ∧ ∃ y, w'' = Fw y := fun x => (FN (Fw x) (hR3.below (F1 x))).mono fun e w' ⟨he, hw⟩ => ⟨he, F2 w' ((F1 x).trans (hw.mono (F1 x).size))⟩
      have hHT : ∀ x, Calls Tryz.prog 17 #[(.agg #[.int .i64 (k), .string ⟨(t).toArray⟩, .int .i64 (n), .int .i64 (p), .slice a ks.len c])] (Fw x) fun e w'' => e = .returned (.int .i64 ((ks.hgt + 1 : Nat) : Int)) ∧ ∃ y, w'' = Fw y := fun x => (HT (Fw x) (hR3.below (F1 x))).mono fun e w' ⟨he, hw⟩ => ⟨he, F2 w' ((F1 x).trans (hw.mono (F1 x).size))⟩
      have HF : Hid (∀ x, Below W.heap.size W (Fw x)) := fun x => HE.out.trans ((F1 x).mono HE.out.size)
      have z0 := fun x => ((F1 x).cell (p := ⟨gF, 0, none⟩) hg).trans d0
      have z1 := fun x => ((F1 x).cell (p := ⟨gF, 1, none⟩) hg).trans d1
      have zx := fun x => ((F1 x).cell (p := ⟨w1.heap.size, 0, none⟩) l1).trans x0
      have q0 := fun x => ((F1 x).cell (p := ⟨w2.heap.size, 0, none⟩) l2).trans y0
      have q1 := fun x => ((F1 x).cell (p := ⟨w2.heap.size, 1, none⟩) l2).trans y1
      have q2 := fun x => ((F1 x).cell (p := ⟨w2.heap.size, 2, none⟩) l2).trans y2
      have q3 := fun x => ((F1 x).cell (p := ⟨w2.heap.size, 3, none⟩) l2).trans y3
      have q4 := fun x => ((F1 x).cell (p := ⟨w2.heap.size, 4, none⟩) l2).trans y4
      have hq : ((1 + ks.fcn : Nat) : Int) = 1 + (ks.fcn : Int) := by omega
      clear h2 h3 hc hF3 hfr hvr hvs s1 s2 s3 s4 F1 F2 hR3 FN HT d0 d1 hg
      go_wp2_with fail
      refine wp_class (F := Fw) (by kernel_rfl) (by kernel_rfl) HC.out ?_
      repeat (go_big_quiet_step (first | exact hFN _ | exact hHT _))
      refine wpQuiet_nil ?_
      intro _ hw'
      obtain ⟨x9, rfl⟩ := hw'
      go_wp2_with fail
      go_ret
      exact ⟨(by have hle : decide ((ks.hgt : Int) + 1 ≤ 100) = true := (by simp; omega)
                 exact (congrArg (fun z => Ending.returned (.bool z)) hle)), HF.out x9⟩
    · obtain ⟨h1, h2⟩ := s3 rfl hr
      have h3 := s1 hr
      injection h3 with h3 h4
      subst h3 h4
      have BG := begins_any ra 1000000 ks (by omega) (Nat.le_refl _) w3 _ k t n p a c hR3
      rw [h2] at BG
      rcases h1 with h1 | h1
      · subst h1
        simp only [List.length_nil] at x0 x1 ⊢
        go_wp2_with fail
        refine BG.mono ?_
        rintro e w4 ⟨rfl, hB4⟩
        go_wp2
        go_ret
        exact ⟨rfl, bthen HE.out HE.out.size hB4⟩
      · subst h1
        simp only [List.length_nil] at x0 x1 ⊢
        go_wp2_with fail
        refine BG.mono ?_
        rintro e w4 ⟨rfl, hB4⟩
        go_wp2
        go_ret
        exact ⟨rfl, bthen HE.out HE.out.size hB4⟩
  · have h1 := s2 hy
    injection h1 with h1 h2
    subst h1 h2
    have h3 := s1 hy
    injection h3 with h3 h4
    subst h3 h4
    have E := eql27 rc ra rc ra
    simp only [and_self, decide_true] at E
    have hn : (rc != 0) = true := by simpa using hy
    clear s1 s2 s3 s4
    simp only [List.length_nil] at x0 x1 ⊢
    go_wp2
    go_ret
    exact ⟨rfl, HE.out⟩
end Go.Proofs.YtmejlldabdjpjaaGreat

/- CheckStages of any text. -/
namespace Go.Proofs.YtmejlldabdjpjaaGreat
open Go.RowKit
theorem stages_any (s : ByteArray) (W : World) (hs : s.size ≤ 9223372036854775807) : Calls Tryz.prog 5 #[.string s] W fun e w' => e = .returned (.bool true) ∧ Below W.heap.size W w' :=
  stages_walk s W (Check_any s W hs) (fun w => parse_any s w hs) fixedc_any
end Go.Proofs.YtmejlldabdjpjaaGreat
