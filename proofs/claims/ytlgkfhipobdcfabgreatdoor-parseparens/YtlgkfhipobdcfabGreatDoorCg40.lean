/- The walk of ParseParens. -/
import Derived.Test.YtlgkfhipobdcfabGreatDoorCg39
namespace Go.Proofs.YtlgkfhipobdcfabGreatDoor
open Go.RowKit

theorem F.one_of (f : F) (h : f.len = 1) : ∃ k t n p ks, f = one k t n p ks := by
  cases f with
  | nil => cases h
  | cons k t n p ks r =>
    cases r with
    | nil => exact ⟨k, t, n, p, ks, rfl⟩
    | cons _ _ _ _ _ _ => simp [F.len] at h

set_option maxRecDepth 20000 in
set_option maxHeartbeats 8000000 in
theorem parens_walk (s : ByteArray) (W : World) (hs : s.size ≤ 140737488351232) : Calls Tryz.prog 3 #[.string s] W fun e w' => e = .returned (.bool true) ∧ Below W.heap.size W w' := by
  obtain ⟨S, hS⟩ : ∃ S : ByteArray, (⟨#[114, 101, 116, 117, 114, 110, 32]⟩ : ByteArray) ++ s = S := ⟨_, rfl⟩
  have hSl : S.data.toList = retS ++ 32 :: s.data.toList := by rw [← hS]; simp
  have hSz : S.size = s.size + 7 := by rw [← hS, ByteArray.size_append]; have : (⟨#[114, 101, 116, 117, 114, 110, 32]⟩ : ByteArray).size = 7 := rfl; omega
  obtain ⟨⟨f, cd, x⟩, hq⟩ : ∃ r, prT S.data.toList = r := ⟨_, rfl⟩
  have hok := prT_ok S.data.toList
  have hsz0 := prT_siz S.data.toList
  rw [hq] at hok hsz0
  simp only at hok hsz0
  have hsl : s.data.toList.length = s.size := by rw [scT_len]
  go_enter Tryz.func3, Tryz.ntmps3
  go_wp2_with fail
  refine (fixed_any W).mono ?_; rintro e w0 ⟨rfl, hb0⟩
  have C1 := parse_any S w0 (by omega)
  rw [hq] at C1
  simp only at C1
  have HB0 : Hid (Below W.heap.size W w0) := hb0
  clear hb0
  go_wp2_with fail
  refine C1.mono ?_; rintro e w1 ⟨k, t, n, p, a, c, ks, rfl, he, hT, hB⟩
  subst he
  obtain ⟨X, hX⟩ : ∃ X, w1.heap.size = X := ⟨_, rfl⟩
  have B1 := Bx.new w1 25 #[.int .i64 k, .string ⟨t.toArray⟩, .int .i64 n, .int .i64 p, .slice a ks.len c]
  have e1 : (w1.alloc (.cells #[.int .i64 k, .string ⟨t.toArray⟩, .int .i64 n, .int .i64 p, .slice a ks.len c] 25)).heap.size = X + 1 := by simp [hX]
  have B2 := Bx.new (w1.alloc (.cells #[.int .i64 k, .string ⟨t.toArray⟩, .int .i64 n, .int .i64 p, .slice a ks.len c] 25)) 28 #[.int .i64 cd, .int .i64 x]
  rw [e1] at B2
  have B1' := B1.alloc (.cells #[.int .i64 cd, .int .i64 x] 28)
  rw [hX] at B1'
  have K1 : Below X w1 ((w1.alloc (.cells #[.int .i64 k, .string ⟨t.toArray⟩, .int .i64 n, .int .i64 p, .slice a ks.len c] 25)).alloc (.cells #[.int .i64 cd, .int .i64 x] 28)) := ((Below.refl X w1).alloc (by omega) _).alloc (by rw [e1]; omega) _
  obtain ⟨V1, hV1⟩ : ∃ V1, (w1.alloc (.cells #[.int .i64 k, .string ⟨t.toArray⟩, .int .i64 n, .int .i64 p, .slice a ks.len c] 25)).alloc (.cells #[.int .i64 cd, .int .i64 x] 28) = V1 := ⟨_, rfl⟩
  rw [hV1] at B2 B1' K1
  have hTN : TN 25 V1 (fun g => g < X) k t n p (.slice a ks.len c) ks := (hT.mono (Q := fun g => g < X) fun g _ hg => hX ▸ hg).keep fun g _ hg => K1.block g (hX ▸ hg)
  have H1 : Hid (Bx X 25 #[.int .i64 k, .string ⟨t.toArray⟩, .int .i64 n, .int .i64 p, .slice a ks.len c] V1 ∧ Bx (X + 1) 28 #[.int .i64 cd, .int .i64 x] V1 ∧ Below W.heap.size W V1 ∧ TN 25 V1 (fun g => g < X) k t n p (.slice a ks.len c) ks ∧ ks.len ≤ maxLen) := ⟨B1', B2, (HB0.out.trans (hB.mono HB0.out.size)).trans (K1.mono (by have := HB0.out.size; have := hB.size; omega)), hTN, Nat.le_trans hT.cap.1 hT.cap.2⟩
  have hX2 := B1'.lt
  obtain ⟨a0, a1, a2', a3, a4⟩ := B1'.five
  have f0 : V1.cell? ⟨X + 1, 0, none⟩ = some (.int .i64 cd) := B2.c 0 _ rfl
  have HW : Hid (Below W.heap.size W V1) := H1.out.2.2.1
  have HXW : Hid (W.heap.size ≤ X) := by have := HB0.out.size; have := hB.size; show _ ≤ _; omega
  have HZ : Hid (ks.siz ≤ 60010) := Nat.le_trans (by rw [siz_one]; omega) hsz0
  clear hB hT B1 B1' B2 K1 e1 hTN C1 HB0 hsz0
  go_upto_region 4 with fail
  clear hV1
  by_cases hcd : cd = 0
  case neg =>
    have hne : (cd == 0) = false := by simpa using hcd
    clear hok
    go_wp2
    go_ret
    exact ⟨rfl, HW.out⟩
  subst hcd
  obtain rfl : x = 0 := prT_zero _ _ _ hq
  obtain ⟨p', ks', he, -, -, -⟩ := hok rfl
  simp only [one, F.cons.injEq] at he
  obtain ⟨rfl, rfl, rfl, rfl, rfl, -⟩ := he
  clear hok
  by_cases hl1 : ks.len = 1
  case neg =>
    have hne : ((ks.len : Int) == 1) = false := by simp; omega
    have hne' : ¬ (ks.len : Int) = 1 := by omega
    have hne2 : (ks.len == 1) = false := by simpa using hl1
    clear hq
    go_wp2
    go_ret
    exact ⟨rfl, HW.out⟩
  obtain ⟨k1, t1, n1, q1, kk, rfl⟩ := F.one_of ks hl1
  have ol : (one k1 t1 n1 q1 kk).len = 1 := rfl
  have HTN : Hid (TN 25 V1 (fun g => g < X) 20 [] 0 p (.slice a 1 c) (one k1 t1 n1 q1 kk)) := H1.out.2.2.2.1
  have HBX : Hid (Bx X 25 #[.int .i64 20, .string ⟨#[]⟩, .int .i64 0, .int .i64 p, .slice a 1 c] V1 ∧ Bx (X + 1) 28 #[.int .i64 0, .int .i64 0] V1) := ⟨H1.out.1, H1.out.2.1⟩
  rw [ol] at a4 ⊢
  clear H1 ol hl1
  obtain ⟨g, a', c', rfl, hgl, m0, m1, m2, m3, m4, hT1, -⟩ := Rw.next (TN.rw0 (c := c) (show TN 25 V1 (fun g => g < X) 20 [] 0 p (.slice a (one k1 t1 n1 q1 kk).len c) (one k1 t1 n1 q1 kk) from HTN.out))
  simp only [Nat.zero_mul, Nat.zero_add] at m0 m1 m2 m3 m4
  by_cases hl2 : kk.len = 1
  case neg =>
    have hne : ((kk.len : Int) == 1) = false := by simp; omega
    have hne' : ¬ (kk.len : Int) = 1 := by omega
    have hne2 : (kk.len == 1) = false := by simpa using hl2
    clear hq
    go_wp2
    go_ret
    exact ⟨rfl, HW.out⟩
  by_cases hk1 : k1 = 30
  case neg =>
    have hne : (k1 == 30) = false := by simpa using hk1
    rw [hl2] at m4
    clear hq
    go_wp2
    go_ret
    exact ⟨rfl, HW.out⟩
  subst hk1
  by_cases hsz : s.size ≤ 9000
  case neg =>
    have h9 : (9000 : Int) < (s.size : Int) := by omega
    rw [hl2] at m4
    clear hq hsz
    go_wp2
    go_ret
    exact ⟨rfl, HW.out⟩
  have h9 : ¬ (9000 : Int) < (s.size : Int) := by omega
  obtain ⟨ke, te, ne, pe, ee, rfl⟩ := F.one_of kk hl2
  rw [show (one ke te ne pe ee).len = 1 from rfl] at m4 hT1
  have HT1 : Hid (TN 25 V1 (fun g => g < X) 30 t1 n1 q1 (.slice a' 1 c') (one ke te ne pe ee)) := hT1
  clear hT1 hl2
  obtain ⟨g2, a2, c2, rfl, hgl2, n0, n1', n2, n3, n4, hT2, -⟩ := Rw.next (TN.rw0 (c := c') (show TN 25 V1 (fun g => g < X) 30 t1 n1 q1 (.slice a' (one ke te ne pe ee).len c') (one ke te ne pe ee) from HT1.out))
  simp only [Nat.zero_mul, Nat.zero_add] at n0 n1' n2 n3 n4
  have HT2 : Hid (TN 25 V1 (fun g => g < X) ke te ne pe (.slice a2 ee.len c2) ee) := hT2
  clear hT2
  have CE := ends_any s V1 hsz
  go_wp2_with fail
  refine CE.mono ?_; intro e w2 hE
  cases hE with
  | yes =>
    clear hq CE
    go_wp2
    go_ret
    exact ⟨rfl, HW.out⟩
  | no hno =>
    obtain ⟨p1, p2, p3, K, hC, hCs⟩ := prT_paren s.data.toList (by rw [hsl]; exact hsz) hno.1 hno.2 (by rw [← hSl]; exact hq) rfl
    have hcat : (((⟨#[114, 101, 116, 117, 114, 110, 32, 40]⟩ : ByteArray) ++ s) ++ ⟨#[41]⟩).data.toList = retS ++ 32 :: 40 :: (s.data.toList ++ [41]) := by simp
    have C3 := parse_any (((⟨#[114, 101, 116, 117, 114, 110, 32, 40]⟩ : ByteArray) ++ s) ++ ⟨#[41]⟩) V1 (by simp only [ByteArray.size_append]; have : (⟨#[114, 101, 116, 117, 114, 110, 32, 40]⟩ : ByteArray).size = 8 := rfl; have : (⟨#[41]⟩ : ByteArray).size = 1 := rfl; omega)
    rw [hcat, hC] at C3
    simp only at C3
    obtain ⟨pe', ee', rfl, hee⟩ : ∃ pe' ee', K = one ke te ne pe' ee' ∧ ee'.sam ee := by
      cases K with
      | nil => exact hCs.elim
      | cons kA tA nA pA ksA rA =>
        obtain ⟨⟨rfl, rfl, rfl, h4⟩, h5⟩ := hCs
        cases rA with
        | nil => exact ⟨pA, ksA, rfl, h4⟩
        | cons _ _ _ _ _ _ => exact h5.elim
    have Hs : Hid (ee'.sam ee ∧ ee'.siz ≤ 60010) := ⟨hee, by have := prT_siz (retS ++ 32 :: 40 :: (s.data.toList ++ [41])); rw [hC] at this; simp only [siz_one] at this; omega⟩
    clear hC hCs hcat hq hsl h9 hno hee CE hSl
    go_wp2_with fail
    refine C3.mono ?_; rintro e w3 ⟨k3, t3, n3', p4, a5, c3, ks4, rfl, he, hT, hB⟩
    simp only [one, F.cons.injEq] at he
    obtain ⟨rfl, rfl, rfl, rfl, rfl, -⟩ := he
    rw [show (F.cons 30 [] 0 p2 (F.cons 9 [] 0 p3 (F.cons ke te ne pe' ee' F.nil) F.nil) F.nil).len = 1 from rfl]
    have hXw := HBX.out.1.below hB
    have hFw := HBX.out.2.below hB
    have hKw : Below W.heap.size W w3 := HW.out.trans (hB.mono HW.out.size)
    obtain ⟨Z, hZ⟩ : ∃ Z, w3.heap.size = Z := ⟨_, rfl⟩
    have D3 := Bx.new w3 25 #[.int .i64 20, .string ⟨#[]⟩, .int .i64 0, .int .i64 p1, .slice a5 1 c3]
    have DX := hXw.alloc (.cells #[.int .i64 20, .string ⟨#[]⟩, .int .i64 0, .int .i64 p1, .slice a5 1 c3] 25)
    have DF := hFw.alloc (.cells #[.int .i64 20, .string ⟨#[]⟩, .int .i64 0, .int .i64 p1, .slice a5 1 c3] 25)
    have K1 : Below w3.heap.size w3 (w3.alloc (.cells #[.int .i64 20, .string ⟨#[]⟩, .int .i64 0, .int .i64 p1, .slice a5 1 c3] 25)) := (Below.refl _ w3).alloc (Nat.le_refl _) _
    obtain ⟨V4, hV4⟩ : ∃ V4, w3.alloc (.cells #[.int .i64 20, .string ⟨#[]⟩, .int .i64 0, .int .i64 p1, .slice a5 1 c3] 25) = V4 := ⟨_, rfl⟩
    rw [hV4] at D3 DX DF K1
    rw [hZ] at D3
    have hFlt := hFw.lt
    have f0 := DF.f 0
    have f1 := DF.f 1
    have d0 : V4.cell? ⟨X + 1, 0, none⟩ = some (.int .i64 0) := DF.c 0 _ rfl
    have d1 : V4.cell? ⟨X + 1, 1, none⟩ = some (.int .i64 0) := DF.c 1 _ rfl
    have DF5 := (DF.put (j := 0) (.int .i64 0)).put (j := 1) (.int .i64 0)
    have hXF : X ≠ X + 1 := by omega
    have hZF : Z ≠ X + 1 := by omega
    have DX5 := (DX.set (b := X + 1) (o := 0) hXF (.int .i64 0)).set (b := X + 1) (o := 1) hXF (.int .i64 0)
    have D35 := (D3.set (b := X + 1) (o := 0) hZF (.int .i64 0)).set (b := X + 1) (o := 1) hZF (.int .i64 0)
    have KF5 : Ky (fun k => k = X + 1) V4 ((V4.setCell ⟨X + 1, 0, none⟩ (.int .i64 0)).setCell ⟨X + 1, 1, none⟩ (.int .i64 0)) := ((Ky.refl _ _).setP _).setP _
    obtain ⟨V5, hV5⟩ : ∃ V5, (V4.setCell ⟨X + 1, 0, none⟩ (.int .i64 0)).setCell ⟨X + 1, 1, none⟩ (.int .i64 0) = V5 := ⟨_, rfl⟩
    rw [hV5] at DF5 DX5 D35 KF5
    have hkeep : ∀ gg, gg < X → gg < V1.heap.size → V5.heap[gg]? = V1.heap[gg]? := fun gg hg hgl => (KF5.block gg (by have := K1.size; have := hB.size; omega) (by omega)).trans ((K1.block gg (by have := hB.size; omega)).trans (hB.block gg hgl))
    have hTk := HTN.out.keep (w' := V5) hkeep
    have hTk1 := HT1.out.keep (w' := V5) hkeep
    have hTk2 := HT2.out.keep (w' := V5) hkeep
    have hTm : TN 25 V5 (fun g => V1.heap.size ≤ g) 20 [] 0 p1 (.slice a5 1 c3) (one 30 [] 0 p2 (one 9 [] 0 p3 (one ke te ne pe' ee'))) := TN.keep (w := w3) hT fun g hg hgl => (KF5.block g (by have := K1.size; omega) (by have := HBX.out.2.lt; omega)).trans (K1.block g hgl)
    have hRk : Rw V5 (fun g => g < X) (some ⟨g, 0, none⟩) 0 (one 30 t1 n1 q1 (one ke te ne pe ee)) := TN.rw0 (c := c) (k := 20) (t := []) (n := 0) (p := p) hTk
    have hRm : Rw V5 (fun g => V1.heap.size ≤ g) a5 0 (one 30 [] 0 p2 (one 9 [] 0 p3 (one ke te ne pe' ee'))) := TN.rw0 (c := c3) (k := 20) (t := []) (n := 0) (p := p1) hTm
    obtain ⟨h1, a6, c6, ha5, m1l, m1c0, m1c1, m1c2, m1c3, m1c4, hT6, -⟩ := Rw.next hRm
    obtain ⟨h2, a7, c7, ha6, m2l, m2c0, m2c1, m2c2, m2c3, m2c4, hT7, -⟩ := Rw.next hT6.rw0
    obtain ⟨h3, a8, c8, ha7, m3l, m3c0, m3c1, m3c2, m3c3, m3c4, hT8, -⟩ := Rw.next hT7.rw0
    have hgX : g < X := HTN.out.out.1 g rfl
    have hgX2 : g2 < X := HT1.out.out.1 g2 rfl
    have kg := fun j => World.cell?_of_block (a := ⟨g, j, none⟩) (hkeep g hgX hgl)
    have kg2 := fun j => World.cell?_of_block (a := ⟨g2, j, none⟩) (hkeep g2 hgX2 hgl2)
    have o1l : g < V5.heap.size := by have := K1.size; have := hB.size; have := KF5.size; omega
    have o2l : g2 < V5.heap.size := by have := K1.size; have := hB.size; have := KF5.size; omega
    have o1c4 := (kg 4).trans m4
    have o2c0 := (kg2 0).trans n0
    have o2c1 := (kg2 1).trans n1'
    have o2c2 := (kg2 2).trans n2
    have o2c3 := (kg2 3).trans n3
    have o2c4 := (kg2 4).trans n4
    subst ha5 ha6 ha7
    rw [show (one 9 [] 0 p3 (one ke te ne pe' ee')).len = 1 from rfl] at m1c4
    rw [show (one ke te ne pe' ee').len = 1 from rfl] at m2c4
    simp only [Nat.zero_mul, Nat.zero_add] at m1c0 m1c1 m1c2 m1c3 m1c4 m2c0 m2c1 m2c2 m2c3 m2c4 m3c0 m3c1 m3c2 m3c3 m3c4
    have HKW : Hid (Below W.heap.size W V5) := by
      have hx := HXW.out
      have h3 := hKw.size
      exact ⟨KF5.os.trans ((K1.os).trans hKw.os), KF5.tape.trans (K1.tape.trans hKw.tape), KF5.output.trans (K1.output.trans hKw.output), Nat.le_trans hKw.size (Nat.le_trans K1.size KF5.size), fun g hg => (KF5.block g (by have := K1.size; omega) (by omega)).trans ((K1.block g (by omega)).trans (hKw.block g hg))⟩
    obtain ⟨x0, x1, x2, x3, x4⟩ := DX5.five
    obtain ⟨z0, z1, z2, z3, z4⟩ := D35.five
    have k0 : V5.cell? ⟨X + 1, 0, none⟩ = some (.int .i64 0) := DF5.c 0 _ rfl
    have hXl := DX5.lt
    have hZl := D35.lt
    have hFl := DF5.lt
    obtain ⟨u, hu⟩ : ∃ u : Int, (((one 30 [] 0 p2 (one 9 [] 0 p3 (one ke te ne pe' ee'))).hgt + 1 : Nat) : Int) = u := ⟨_, rfl⟩
    obtain ⟨v, hv⟩ : ∃ v : Int, (((one 30 t1 n1 q1 (one ke te ne pe ee)).hgt + 1 : Nat) : Int) = v := ⟨_, rfl⟩
    have hsm : (one 30 t1 n1 q1 (one ke te ne pe ee)).siz ≤ 60010 := HZ.out
    have wu : IntKind.i64.wrap (v + 1) = u := by
      have h1 : (one 30 [] 0 p2 (one 9 [] 0 p3 (one ke te ne pe' ee'))).hgt = (one 30 t1 n1 q1 (one ke te ne pe ee)).hgt + 1 := by
        have := hgt_sam ee' ee Hs.out.1
        simp only [one, F.hgt]; omega
      have h2 := (one 30 t1 n1 q1 (one ke te ne pe ee)).hgt_siz
      rw [IntKind.wrap_i64]; rw [h1] at hu; omega
    have huu : (u == u) = true := by simp
    obtain ⟨Yc, F, F1, F2⟩ := class_of V5
    have HC : Hid (∃ x, V5.drew = F x) := F2 _ (Below.refl _ _).drew
    have HF1 : Hid (∀ x, Below V5.heap.size V5 (F x)) := F1
    have C8 : ∀ x, Calls Tryz.prog 8 #[(.agg #[.int .i64 ke, .string ⟨te.toArray⟩, .int .i64 ne, .int .i64 pe', .slice a8 ee'.len c8]), (.agg #[.int .i64 ke, .string ⟨te.toArray⟩, .int .i64 ne, .int .i64 pe, .slice a2 ee.len c2])] (F x) fun e w' => e = .returned (.bool true) ∧ ∃ y, w' = F y := fun x =>
      (same_any ee'.siz ee' ee (Nat.le_refl _) (Nat.le_trans hT8.cap.1 hT8.cap.2) (F x) _ _ ke te ne pe' pe a8 a2 c8 c2 (hT8.rw0.below (F1 x)) (hTk2.rw0.below (F1 x)) Hs.out.1).mono fun e w' ⟨he, hw⟩ => ⟨he, F2 w' ((F1 x).trans (hw.mono (F1 x).size))⟩
    have C9a : ∀ x, Calls Tryz.prog 9 #[(.agg #[.int .i64 20, .string ⟨#[]⟩, .int .i64 0, .int .i64 p1, .slice (some ⟨h1, 0, none⟩) 1 c3])] (F x) fun e w' => e = .returned (.int .i64 u) ∧ ∃ y, w' = F y := fun x => by
      have h2 : (one 30 [] 0 p2 (one 9 [] 0 p3 (one ke te ne pe' ee'))).siz ≤ 1000000 := by have := Hs.out.2; simp only [siz_one]; omega
      have := height_any 1000000 (one 30 [] 0 p2 (one 9 [] 0 p3 (one ke te ne pe' ee'))) h2 (Nat.le_refl _) (F x) _ 20 [] 0 p1 (some ⟨h1, 0, none⟩) c3 (hRm.below (F1 x))
      rw [hu] at this
      exact this.mono fun e w' ⟨he, hw⟩ => ⟨he, F2 w' ((F1 x).trans (hw.mono (F1 x).size))⟩
    have C9b : ∀ x, Calls Tryz.prog 9 #[(.agg #[.int .i64 20, .string ⟨#[]⟩, .int .i64 0, .int .i64 p, .slice (some ⟨g, 0, none⟩) 1 c])] (F x) fun e w' => e = .returned (.int .i64 v) ∧ ∃ y, w' = F y := fun x => by
      have := height_any 1000000 (one 30 t1 n1 q1 (one ke te ne pe ee)) (by omega) (Nat.le_refl _) (F x) _ 20 [] 0 p (some ⟨g, 0, none⟩) c (hRk.below (F1 x))
      rw [hv] at this
      exact this.mono fun e w' ⟨he, hw⟩ => ⟨he, F2 w' ((F1 x).trans (hw.mono (F1 x).size))⟩
    have xx0 : ∀ x, (F x).cell? ⟨X, 0, none⟩ = some (.int .i64 20) := fun x => ((F1 x).cell hXl).trans x0
    have xx1 : ∀ x, (F x).cell? ⟨X, 1, none⟩ = some (.string ⟨#[]⟩) := fun x => ((F1 x).cell hXl).trans x1
    have xx2 : ∀ x, (F x).cell? ⟨X, 2, none⟩ = some (.int .i64 0) := fun x => ((F1 x).cell hXl).trans x2
    have xx3 : ∀ x, (F x).cell? ⟨X, 3, none⟩ = some (.int .i64 p) := fun x => ((F1 x).cell hXl).trans x3
    have xx4 : ∀ x, (F x).cell? ⟨X, 4, none⟩ = some (.slice (some ⟨g, 0, none⟩) 1 c) := fun x => ((F1 x).cell hXl).trans x4
    have zz0 : ∀ x, (F x).cell? ⟨Z, 0, none⟩ = some (.int .i64 20) := fun x => ((F1 x).cell hZl).trans z0
    have zz1 : ∀ x, (F x).cell? ⟨Z, 1, none⟩ = some (.string ⟨#[]⟩) := fun x => ((F1 x).cell hZl).trans z1
    have zz2 : ∀ x, (F x).cell? ⟨Z, 2, none⟩ = some (.int .i64 0) := fun x => ((F1 x).cell hZl).trans z2
    have zz3 : ∀ x, (F x).cell? ⟨Z, 3, none⟩ = some (.int .i64 p1) := fun x => ((F1 x).cell hZl).trans z3
    have zz4 : ∀ x, (F x).cell? ⟨Z, 4, none⟩ = some (.slice (some ⟨h1, 0, none⟩) 1 c3) := fun x => ((F1 x).cell hZl).trans z4
    have kk0 : ∀ x, (F x).cell? ⟨X + 1, 0, none⟩ = some (.int .i64 0) := fun x => ((F1 x).cell hFl).trans k0
    have r14 : ∀ x, (F x).cell? ⟨h1, 4, none⟩ = some (.slice (some ⟨h2, 0, none⟩) 1 c6) := fun x => ((F1 x).cell m1l).trans m1c4
    have r20 : ∀ x, (F x).cell? ⟨h2, 0, none⟩ = some (.int .i64 9) := fun x => ((F1 x).cell m2l).trans m2c0
    have r24 : ∀ x, (F x).cell? ⟨h2, 4, none⟩ = some (.slice (some ⟨h3, 0, none⟩) 1 c7) := fun x => ((F1 x).cell m2l).trans m2c4
    have r30 : ∀ x, (F x).cell? ⟨h3, 0, none⟩ = some (.int .i64 ke) := fun x => ((F1 x).cell m3l).trans m3c0
    have r31 : ∀ x, (F x).cell? ⟨h3, 1, none⟩ = some (.string ⟨te.toArray⟩) := fun x => ((F1 x).cell m3l).trans m3c1
    have r32 : ∀ x, (F x).cell? ⟨h3, 2, none⟩ = some (.int .i64 ne) := fun x => ((F1 x).cell m3l).trans m3c2
    have r33 : ∀ x, (F x).cell? ⟨h3, 3, none⟩ = some (.int .i64 pe') := fun x => ((F1 x).cell m3l).trans m3c3
    have r34 : ∀ x, (F x).cell? ⟨h3, 4, none⟩ = some (.slice a8 ee'.len c8) := fun x => ((F1 x).cell m3l).trans m3c4
    have r44 : ∀ x, (F x).cell? ⟨g, 4, none⟩ = some ((.slice (some ⟨g2, 0, none⟩) 1 c')) := fun x => ((F1 x).cell o1l).trans o1c4
    have r50 : ∀ x, (F x).cell? ⟨g2, 0, none⟩ = some (.int .i64 ke) := fun x => ((F1 x).cell o2l).trans o2c0
    have r51 : ∀ x, (F x).cell? ⟨g2, 1, none⟩ = some (.string ⟨te.toArray⟩) := fun x => ((F1 x).cell o2l).trans o2c1
    have r52 : ∀ x, (F x).cell? ⟨g2, 2, none⟩ = some (.int .i64 ne) := fun x => ((F1 x).cell o2l).trans o2c2
    have r53 : ∀ x, (F x).cell? ⟨g2, 3, none⟩ = some (.int .i64 pe) := fun x => ((F1 x).cell o2l).trans o2c3
    have r54 : ∀ x, (F x).cell? ⟨g2, 4, none⟩ = some (.slice a2 ee.len c2) := fun x => ((F1 x).cell o2l).trans o2c4
    have HV4 : Hid (w3.alloc (.cells #[.int .i64 20, .string ⟨#[]⟩, .int .i64 0, .int .i64 p1, .slice (some ⟨h1, 0, none⟩) 1 c3] 25) = V4) := hV4
    haveI : Nonempty Yc := HC.out.elim fun x _ => ⟨x⟩
    clear F1 F2 hT6 hT7 hT8 hRm hRk hTm hTk hTk1 hTk2 m1c0 m1c1 m1c2 m1c3 m1c4 m2c0 m2c1 m2c2 m2c3 m2c4 m3c0 m3c1 m3c2 m3c3 m3c4 o1c4 o2c0 o2c1 o2c2 o2c3 o2c4 hT hB hKw K1 KF5 DX5 D35 DF5 DX D3 DF hXw hFw hu hv HXW HZ Hs x0 x1 x2 x3 x4 z0 z1 z2 z3 z4 k0 hsm hkeep HTN HT1 HT2 kg kg2
    go_upto_region 7 with fail
    clear hV4 hV5 HV4
    refine wp_class (F := F) (by kernel_rfl) (by kernel_rfl) HC.out ?_
    simp only [List.append_eq, List.cons_append, List.nil_append]
    repeat (go_big_quiet_step (exact C8 _))
    go_big_quiet_step (exact C9a _)
    repeat (go_big_quiet_step (fail))
    go_big_quiet_step (exact C9b _)
    repeat (go_big_quiet_step (fail))
    refine wpQuiet_nil ?_
    intro _ hw'
    obtain ⟨x, rfl⟩ := hw'
    have K3 : Hid (Below V5.heap.size V5 (F x)) := HF1.out x
    clear HF1 C8 C9a C9b HC
    generalize F x = w6 at *
    go_wp2
    go_ret
    exact ⟨rfl, HKW.out.trans (K3.out.mono HKW.out.size)⟩
end Go.Proofs.YtlgkfhipobdcfabGreatDoor
