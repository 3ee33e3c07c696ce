/- The document's examples, by the plain functions. -/
import Derived.Test.YtlgkfhipobdcfaaGreatDoorCg37
namespace Go.Proofs.YtlgkfhipobdcfaaGreatDoor
open Go.RowKit

def src1 : List UInt8 := [114, 101, 116, 117, 114, 110, 32, 45, 97, 32, 42, 32, 98, 32, 45, 32, 99]
def src2 : List UInt8 := [108, 111, 99, 97, 108, 32, 116, 32, 61, 32, 123, 49, 44, 32, 120, 32, 61, 32, 50, 59, 32, 91, 51, 93, 32, 61, 32, 52, 44, 125]
def src3 : List UInt8 := [97, 44, 32, 102, 40, 41, 32, 61, 32, 49]
def out2 : List UInt8 := [108, 111, 99, 97, 108, 32, 116, 32, 61, 32, 123, 32, 49, 32, 44, 32, 91, 32, 34, 120, 34, 32, 93, 32, 61, 32, 50, 32, 44, 32, 91, 32, 51, 32, 93, 32, 61, 32, 52, 32, 125, 32, 59]
def prTF (l : List UInt8) : F × Int × Int := if (scTF l).2.1 ≠ 0 then (noF, (scTF l).2.1, (scTF l).2.2) else outT (chk (scTF l).1)
theorem prTF_eq (l : List UInt8) : prTF l = prT l := by unfold prTF prT; rw [scTF_eq]
def tree1e : F := .cons 11 [42] 0 7 (.cons 10 [45] 0 7 (one 6 [97] 0 8 .nil) (one 6 [98] 0 12 .nil)) (one 6 [99] 0 16 .nil)
def tree1 : F := one 30 [] 0 0 (one 11 [45] 0 7 tree1e)
theorem pr_ex1 : prT src1 = (one 20 [] 0 0 tree1, 0, 0) := by
  rw [← prTF_eq]; kernel_rfl
theorem pr_ex3 : prT src3 = (noF, 4, 3) := by
  rw [← prTF_eq]; kernel_rfl
def tree2 : F := (prTF src2).1
def kids2 : F := match tree2 with | .cons _ _ _ _ ks _ => ks | .nil => .nil
theorem pr_ex2 : prT src2 = (one 20 [] 0 0 kids2, 0, 0) := by
  rw [← prTF_eq]; kernel_rfl
theorem wf_ex2 : (one 20 [] 0 0 kids2).wf = true := by kernel_rfl
theorem siz_ex2 : kids2.siz < 40 := of_decide_eq_true (by kernel_rfl)
def toks2 : Tks := tkB fmS quoQ 40 20 [] 0 kids2
theorem join_ex2 : Lib.join toks2 [32] = out2 := by kernel_rfl
theorem len_ex2 : toks2.length = 19 := by kernel_rfl
theorem hgt_ex1 : tree1.hgt = 5 := by kernel_rfl
theorem siz_ex1 : tree1.siz ≤ 40 := of_decide_eq_true (by kernel_rfl)

set_option maxRecDepth 20000 in
set_option maxHeartbeats 8000000 in
theorem fixed_any (W : World) : Calls Tryz.prog 11 #[] W fun e w' => e = .returned (.bool true) ∧ Below W.heap.size W w' := by
  have C1 := parse_any ⟨src1.toArray⟩ W (by decide)
  rw [show (⟨src1.toArray⟩ : ByteArray).data.toList = src1 from rfl, pr_ex1] at C1
  unfold src1 at C1
  go_enter Tryz.func11, Tryz.ntmps11
  go_wp2_with fail
  refine C1.mono ?_; rintro e w1 ⟨k', t', n', p', a, c, ks, rfl, he, hT, hB⟩
  simp only [one, F.cons.injEq] at he
  obtain ⟨rfl, rfl, rfl, rfl, rfl, -⟩ := he
  have hRw := hT.rw0
  have hRv := hT.rv
  rw [show tree1.len = 1 from rfl]
  clear hT
  unfold tree1 one at hRv
  obtain ⟨g1, o1, a1, c1, rfl, hg1, q0, q1, q2, q3, q4, hRv1, -, -⟩ := hRv.cons
  rw [show (F.cons 11 [45] 0 7 tree1e F.nil).len = 1 from rfl] at q4
  obtain ⟨g2, o2, a2, c2, rfl, hg2, r0, r1, r2, r3, r4, hRv2, -, -⟩ := hRv1.cons
  rw [show tree1e.len = 2 from rfl] at r4
  unfold tree1e at hRv2
  obtain ⟨g3, o3, a3, c3, rfl, hg3, u0, u1, u2, u3, u4, -, -, -⟩ := hRv2.cons
  obtain ⟨X, hX⟩ : ∃ X, w1.heap.size = X := ⟨_, rfl⟩
  have B1 := Bx.new w1 24 #[.int .i64 20, .string ⟨#[]⟩, .int .i64 0, .int .i64 0, .slice (some ⟨g1, o1, none⟩) 1 c]
  have e1 : (w1.alloc (.cells #[.int .i64 (20), .string ⟨#[]⟩, .int .i64 (0), .int .i64 (0), .slice (some ⟨g1, o1, none⟩) 1 c] 24)).heap.size = X + 1 := by simp [hX]
  have B2 := Bx.new (w1.alloc (.cells #[.int .i64 (20), .string ⟨#[]⟩, .int .i64 (0), .int .i64 (0), .slice (some ⟨g1, o1, none⟩) 1 c] 24)) 27 #[.int .i64 0, .int .i64 0]
  rw [e1] at B2
  have B1' := B1.alloc (.cells #[.int .i64 0, .int .i64 0] 27)
  rw [hX] at B1'
  have K1 : Below X w1 ((w1.alloc (.cells #[.int .i64 (20), .string ⟨#[]⟩, .int .i64 (0), .int .i64 (0), .slice (some ⟨g1, o1, none⟩) 1 c] 24)).alloc (.cells #[.int .i64 0, .int .i64 0] 27)) := ((Below.refl X w1).alloc (by omega) _).alloc (by rw [e1]; omega) _
  obtain ⟨V1, hV1⟩ : ∃ V1, (w1.alloc (.cells #[.int .i64 (20), .string ⟨#[]⟩, .int .i64 (0), .int .i64 (0), .slice (some ⟨g1, o1, none⟩) 1 c] 24)).alloc (.cells #[.int .i64 0, .int .i64 0] 27) = V1 := ⟨_, rfl⟩
  rw [hV1] at B2 B1' K1
  have C2 := Text_ok ⟨src2.toArray⟩ V1 (by decide) pr_ex2 40 (by omega) siz_ex2 wf_ex2 toks2 rfl (by rw [len_ex2]; omega) (by rw [len_ex2]; omega) (by rw [join_ex2]; decide)
  rw [join_ex2] at C2
  unfold src2 out2 at C2
  have HV1 : Hid ((w1.alloc (.cells #[.int .i64 (20), .string ⟨#[]⟩, .int .i64 (0), .int .i64 (0), .slice (some ⟨g1, o1, none⟩) 1 c] 24)).alloc (.cells #[.int .i64 0, .int .i64 0] 27) = V1) := hV1
  have H1 : Hid (Bx X 24 #[.int .i64 20, .string ⟨#[]⟩, .int .i64 0, .int .i64 0, .slice (some ⟨g1, o1, none⟩) 1 c] V1 ∧ Bx (X + 1) 27 #[.int .i64 0, .int .i64 0] V1 ∧ Below X w1 V1 ∧ Below W.heap.size W w1) := ⟨B1', B2, K1, hB⟩
  have HQ : Hid ((w1.cell? ⟨g1, o1 + 4, none⟩ = some (.slice (some ⟨g2, o2, none⟩) 1 c1) ∧ g1 < X) ∧ (w1.cell? ⟨g2, o2, none⟩ = some (.int .i64 11) ∧ w1.cell? ⟨g2, o2 + 1, none⟩ = some (.string ⟨#[45]⟩) ∧ w1.cell? ⟨g2, o2 + 2, none⟩ = some (.int .i64 0) ∧ w1.cell? ⟨g2, o2 + 3, none⟩ = some (.int .i64 7) ∧ w1.cell? ⟨g2, o2 + 4, none⟩ = some (.slice (some ⟨g3, o3, none⟩) 2 c2) ∧ g2 < X) ∧ (w1.cell? ⟨g3, o3 + 1, none⟩ = some (.string ⟨#[42]⟩) ∧ g3 < X) ∧ Rw w1 (fun g => W.heap.size ≤ g) (some ⟨g1, o1, none⟩) 0 tree1) := ⟨⟨q4, by omega⟩, ⟨r0, r1, r2, r3, r4, by omega⟩, ⟨u1, by omega⟩, hRw⟩
  clear C1 hB hRw hRv hRv1 hRv2 q0 q1 q2 q3 q4 r0 r1 r2 r3 r4 u0 u1 u2 u3 u4 hg1 hg2 hg3 B1 B1' B2 K1 e1 hV1
  go_wp2_with fail
  rw [HV1.out]
  refine C2.mono ?_; rintro e w2 ⟨rfl, hb2⟩
  have b2X := H1.out.1.below hb2
  have b2Y := H1.out.2.1.below hb2
  have hX2 := b2Y.lt
  have K2 := H1.out.2.2.1.trans (hb2.mono (by have := H1.out.2.1.lt; omega))
  obtain ⟨Y, hY⟩ : ∃ Y, w2.heap.size = Y := ⟨_, rfl⟩
  have bY := Bx.new w2 27 #[.int .i64 0, .int .i64 0]
  rw [hY] at bY
  have K2' := K2.alloc (by omega) (.cells #[.int .i64 0, .int .i64 0] 27)
  obtain ⟨V2, hV2⟩ : ∃ V2, w2.alloc (.cells #[.int .i64 0, .int .i64 0] 27) = V2 := ⟨_, rfl⟩
  have b2X' := b2X.alloc (.cells #[.int .i64 0, .int .i64 0] 27)
  have b2Y' := b2Y.alloc (.cells #[.int .i64 0, .int .i64 0] 27)
  rw [hV2] at bY K2' b2X' b2Y'
  have C3 := parse_any ⟨src3.toArray⟩ V2 (by decide)
  rw [show (⟨src3.toArray⟩ : ByteArray).data.toList = src3 from rfl, pr_ex3] at C3
  unfold src3 at C3
  have HV2 : Hid (w2.alloc (.cells #[.int .i64 0, .int .i64 0] 27) = V2) := hV2
  have H2 : Hid (Bx X 24 #[.int .i64 20, .string ⟨#[]⟩, .int .i64 0, .int .i64 0, .slice (some ⟨g1, o1, none⟩) 1 c] V2 ∧ Bx (X + 1) 27 #[.int .i64 0, .int .i64 0] V2 ∧ Bx Y 27 #[.int .i64 0, .int .i64 0] V2 ∧ Below X w1 V2 ∧ Below W.heap.size W w1 ∧ X + 1 < Y) := ⟨b2X', b2Y', bY, K2', H1.out.2.2.2, by omega⟩
  clear C2 hb2 b2X b2Y K2 bY K2' b2X' b2Y' HV1 H1 hV2
  go_wp2_with fail
  rw [HV2.out]
  refine C3.mono ?_; rintro e w3 ⟨k', t', n', p', a', c', ks', rfl, he, -, hB3⟩
  simp only [noF, one, F.cons.injEq] at he
  obtain ⟨rfl, rfl, rfl, rfl, rfl, -⟩ := he
  rw [show F.nil.len = 0 from rfl]
  obtain ⟨Z, hZ⟩ : ∃ Z, w3.heap.size = Z := ⟨_, rfl⟩
  have hYl := (H2.out.2.2.1.below hB3).lt
  have e3 : (w3.alloc (.cells #[.int .i64 (0), .string ⟨#[]⟩, .int .i64 (0), .int .i64 (0), .slice a' 0 c'] 24)).heap.size = Z + 1 := by simp [hZ]
  have bZ := Bx.new (w3.alloc (.cells #[.int .i64 (0), .string ⟨#[]⟩, .int .i64 (0), .int .i64 (0), .slice a' 0 c'] 24)) 27 #[.int .i64 4, .int .i64 3]
  rw [e3] at bZ
  have bX := ((H2.out.1.below hB3).alloc (.cells #[.int .i64 (0), .string ⟨#[]⟩, .int .i64 (0), .int .i64 (0), .slice a' 0 c'] 24)).alloc (.cells #[.int .i64 4, .int .i64 3] 27)
  have bF := ((H2.out.2.1.below hB3).alloc (.cells #[.int .i64 (0), .string ⟨#[]⟩, .int .i64 (0), .int .i64 (0), .slice a' 0 c'] 24)).alloc (.cells #[.int .i64 4, .int .i64 3] 27)
  have bG := ((H2.out.2.2.1.below hB3).alloc (.cells #[.int .i64 (0), .string ⟨#[]⟩, .int .i64 (0), .int .i64 (0), .slice a' 0 c'] 24)).alloc (.cells #[.int .i64 4, .int .i64 3] 27)
  have K3 := ((H2.out.2.2.2.1.trans (hB3.mono (by have := H2.out.2.2.1.lt; have := H2.out.2.2.2.2.2; omega))).alloc (by have := H2.out.2.2.2.2.2; omega) (.cells #[.int .i64 (0), .string ⟨#[]⟩, .int .i64 (0), .int .i64 (0), .slice a' 0 c'] 24)).alloc (by rw [e3]; have := H2.out.2.2.2.2.2; omega) (.cells #[.int .i64 4, .int .i64 3] 27)
  obtain ⟨V3, hV3⟩ : ∃ V3, (w3.alloc (.cells #[.int .i64 (0), .string ⟨#[]⟩, .int .i64 (0), .int .i64 (0), .slice a' 0 c'] 24)).alloc (.cells #[.int .i64 4, .int .i64 3] 27) = V3 := ⟨_, rfl⟩
  rw [hV3] at bZ bX bF bG K3
  have hW : Below W.heap.size W V3 := H2.out.2.2.2.2.1.trans (K3.mono (by have := H2.out.2.2.2.2.1.size; omega))
  have hV3s : X < V3.heap.size := bX.lt
  obtain ⟨⟨s4, hg1⟩, ⟨t0, t1, t2, t3, t4, hg2⟩, ⟨v1, hg3⟩, hRw⟩ := HQ.out
  have s4' := (K3.cell (p := ⟨g1, o1 + 4, none⟩) hg1).trans s4
  have t0' := (K3.cell (p := ⟨g2, o2, none⟩) hg2).trans t0
  have t1' := (K3.cell (p := ⟨g2, o2 + 1, none⟩) hg2).trans t1
  have t2' := (K3.cell (p := ⟨g2, o2 + 2, none⟩) hg2).trans t2
  have t3' := (K3.cell (p := ⟨g2, o2 + 3, none⟩) hg2).trans t3
  have t4' := (K3.cell (p := ⟨g2, o2 + 4, none⟩) hg2).trans t4
  have v1' := fun o => alloc_cell (b := g3) (by omega) ((K3.cell (p := ⟨g3, o3 + 1, none⟩) hg3).trans v1) o
  have x4 := bX.c 4 _ rfl
  obtain ⟨x0A, x1A, x2A, x3A, x4A⟩ := bX.fiveA
  have z0 := fun o => (bZ.alloc o).c 0 _ rfl
  have z1 := fun o => (bZ.alloc o).c 1 _ rfl
  have f0 := bF.c 0 _ rfl
  have g0 := bG.c 0 _ rfl
  have hRw3 := hRw.below (by rw [hX]; exact K3)
  have KA := (Below.refl V3.heap.size V3).alloc (Nat.le_refl _) (.cells #[.int .i64 (11), .string ⟨([45]).toArray⟩, .int .i64 (0), .int .i64 (7), .slice (some ⟨g3, o3, none⟩) 2 c2] 24)
  have CH := height_any 40 tree1 siz_ex1 (by omega) (V3.alloc (.cells #[.int .i64 (11), .string ⟨([45]).toArray⟩, .int .i64 (0), .int .i64 (7), .slice (some ⟨g3, o3, none⟩) 2 c2] 24)) _ 20 [] 0 0 (some ⟨g1, o1, none⟩) c (hRw3.below KA)
  rw [hgt_ex1, show tree1.len = 1 from rfl] at CH
  have heq : ∀ W, (binOp .eql 27 (.agg #[.int .i64 4, .int .i64 3]) (.agg #[.int .i64 4, .int .i64 3])).run Tryz.prog W = .ok (.bool true) W := fun W => by rw [eql27]; simp
  have HF : Hid (Below W.heap.size W (V3.alloc (.cells #[.int .i64 (11), .string ⟨([45]).toArray⟩, .int .i64 (0), .int .i64 (7), .slice (some ⟨g3, o3, none⟩) 2 c2] 24))) := hW.alloc (by have := hW.size; omega) _
  clear C3 hB3 H2 HQ HV2 hYl e3 bZ bX bF bG K3 hW s4 t0 t1 t2 t3 t4 v1 hg1 hg2 hg3 hRw hRw3 KA
  go_wp2_with fail
  refine CH.mono ?_; rintro e w6 ⟨rfl, hb6⟩
  have HG : Hid (Below W.heap.size W w6) := HF.out.trans (hb6.mono HF.out.size)
  clear CH hb6 HF
  go_wp2
  go_ret
  exact ⟨rfl, HG.out⟩
end Go.Proofs.YtlgkfhipobdcfaaGreatDoor

/- The walk of ParsePlaces. -/
namespace Go.Proofs.YtlgkfhipobdcfaaGreatDoor
open Go.RowKit

set_option maxRecDepth 20000 in
set_option maxHeartbeats 4000000 in
theorem places_walk (s : ByteArray) (W : World) (hs : s.size ≤ 9223372036854775807) : Calls Tryz.prog 6 #[.string s] W fun e w' => e = .returned (.bool true) ∧ Below W.heap.size W w' := by
  have C1 := parse_any s W hs
  obtain ⟨⟨f, cd, x⟩, hq⟩ : ∃ r, prT s.data.toList = r := ⟨_, rfl⟩
  have hok := prT_ok s.data.toList
  have hbad := prT_bad s.data.toList
  rw [hq] at C1 hok hbad
  simp only at C1 hok hbad
  have hsl : s.data.toList.length = s.size := by rw [scT_len]
  rw [hsl] at hok hbad
  go_enter Tryz.func6, Tryz.ntmps6
  go_wp2_with fail
  refine C1.mono ?_; rintro e w1 ⟨k, t, n, p, a, c, ks, rfl, he, hT, hB⟩
  subst he
  obtain ⟨X, hX⟩ : ∃ X, w1.heap.size = X := ⟨_, rfl⟩
  have B1 := Bx.new w1 24 #[.int .i64 k, .string ⟨t.toArray⟩, .int .i64 n, .int .i64 p, .slice a ks.len c]
  have e1 : (w1.alloc (.cells #[.int .i64 k, .string ⟨t.toArray⟩, .int .i64 n, .int .i64 p, .slice a ks.len c] 24)).heap.size = X + 1 := by simp [hX]
  have B2 := Bx.new (w1.alloc (.cells #[.int .i64 k, .string ⟨t.toArray⟩, .int .i64 n, .int .i64 p, .slice a ks.len c] 24)) 27 #[.int .i64 cd, .int .i64 x]
  rw [e1] at B2
  have B1' := B1.alloc (.cells #[.int .i64 cd, .int .i64 x] 27)
  rw [hX] at B1'
  have K1 : Below X w1 ((w1.alloc (.cells #[.int .i64 k, .string ⟨t.toArray⟩, .int .i64 n, .int .i64 p, .slice a ks.len c] 24)).alloc (.cells #[.int .i64 cd, .int .i64 x] 27)) := ((Below.refl X w1).alloc (by omega) _).alloc (by rw [e1]; omega) _
  obtain ⟨V1, hV1⟩ : ∃ V1, (w1.alloc (.cells #[.int .i64 k, .string ⟨t.toArray⟩, .int .i64 n, .int .i64 p, .slice a ks.len c] 24)).alloc (.cells #[.int .i64 cd, .int .i64 x] 27) = V1 := ⟨_, rfl⟩
  rw [hV1] at B2 B1' K1
  have HV1 : Hid ((w1.alloc (.cells #[.int .i64 k, .string ⟨t.toArray⟩, .int .i64 n, .int .i64 p, .slice a ks.len c] 24)).alloc (.cells #[.int .i64 cd, .int .i64 x] 27) = V1) := hV1
  have H1 : Hid (Bx X 24 #[.int .i64 k, .string ⟨t.toArray⟩, .int .i64 n, .int .i64 p, .slice a ks.len c] V1 ∧ Bx (X + 1) 27 #[.int .i64 cd, .int .i64 x] V1 ∧ Below X w1 V1 ∧ Below W.heap.size W w1) := ⟨B1', B2, K1, hB⟩
  have HT : Hid (TN 24 w1 (fun g => W.heap.size ≤ g) k t n p (.slice a ks.len c) ks) := hT
  have Hok : Hid (cd = 0 → ∃ p' ks', one k t n p ks = one 20 [] 0 p' ks' ∧ ks'.ord true p' (p' - 1) ∧ 0 ≤ p' ∧ p' ≤ s.size) := hok
  have Hbad : Hid (cd ≠ 0 → one k t n p ks = noF ∧ -1 ≤ x ∧ x ≤ s.size) := hbad
  clear C1 hB hT B1 B1' B2 K1 e1 hV1 hok hbad hq
  go_wp2_with fail
  rw [HV1.out]
  refine (fixed_any V1).mono ?_; rintro e w2 ⟨rfl, hb2⟩
  have b2X := H1.out.1.below hb2
  have b2Y := H1.out.2.1.below hb2
  have hX2 := b2Y.lt
  have K2 : Hid (Below X w1 w2) := H1.out.2.2.1.trans (hb2.mono (by have := H1.out.2.1.lt; omega))
  have KW : Hid (Below W.heap.size W w2) := H1.out.2.2.2.trans (K2.out.mono (by have := H1.out.2.2.2.size; omega))
  obtain ⟨x0, x1, x2, x3, x4⟩ := b2X.five
  have y0 : w2.cell? ⟨X + 1, 0, none⟩ = some (.int .i64 cd) := b2Y.c 0 _ rfl
  have y1 : w2.cell? ⟨X + 1, 1, none⟩ = some (.int .i64 x) := b2Y.c 1 _ rfl
  clear hb2 HV1
  by_cases hcd : cd = 0
  · obtain ⟨p', ks', he, ho, -, -⟩ := Hok.out hcd
    simp only [one, F.cons.injEq] at he
    obtain ⟨rfl, rfl, rfl, rfl, rfl, -⟩ := he
    subst hcd
    have hTN := HT.out
    have C3 := fun w hw => ordered_any ks.siz ks (Nat.le_refl _) (Nat.le_trans hTN.cap.1 hTN.cap.2) w (fun g => W.heap.size ≤ g) 20 [] 0 p a c hw ho
    have hRw : Rw w2 (fun g => W.heap.size ≤ g) a 0 ks := hTN.rw0.below (hX ▸ K2.out)
    have C4 := C3 w2 hRw
    clear C3 hRw hTN HT Hok Hbad ho
    go_wp2_with fail
    refine C4.mono ?_; rintro e w3 ⟨rfl, hb3⟩
    have KF : Hid (Below W.heap.size W w3) := KW.out.trans (hb3.mono KW.out.size)
    clear C4 hb3
    go_wp2
    go_ret
    exact ⟨rfl, KF.out⟩
  · obtain ⟨he, l1, l2⟩ := Hbad.out hcd
    unfold noF at he
    simp only [one, F.cons.injEq] at he
    obtain ⟨rfl, rfl, rfl, rfl, rfl, -⟩ := he
    have hne : (cd == 0) = false := by simpa using hcd
    have g1 : decide (-1 ≤ x) = true := decide_eq_true l1
    have g2 : decide (x ≤ (s.size : Int)) = true := decide_eq_true l2
    clear HT Hok Hbad
    go_wp2
    go_ret
    exact ⟨rfl, KW.out⟩
end Go.Proofs.YtlgkfhipobdcfaaGreatDoor
