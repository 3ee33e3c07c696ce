/- The walk of ParseJoins. -/
import Derived.Test.YtlgkfhipobdcfaaGreatDoorCg40
namespace Go.Proofs.YtlgkfhipobdcfaaGreatDoor
open Go.RowKit

set_option maxRecDepth 20000 in
set_option maxHeartbeats 8000000 in
theorem joins_walk (s u : ByteArray) (W : World) (hs : s.size ≤ 9223372036854775807) (hu : u.size ≤ 9223372036854775807) : Calls Tryz.prog 7 #[.string s, .string u] W fun e w' => e = .returned (.bool true) ∧ Below W.heap.size W w' := by
  obtain ⟨⟨f, cd, x⟩, hq⟩ : ∃ r, prT s.data.toList = r := ⟨_, rfl⟩
  obtain ⟨⟨f2, cd2, x2⟩, hq2⟩ : ∃ r, prT u.data.toList = r := ⟨_, rfl⟩
  have hok := prT_ok s.data.toList
  have hok2 := prT_ok u.data.toList
  have hbd := prT_bad s.data.toList
  rw [hq] at hok hbd
  rw [hq2] at hok2
  simp only at hok hok2 hbd
  have hsl : s.data.toList.length = s.size := by rw [scT_len]
  have hul : u.data.toList.length = u.size := by rw [scT_len]
  go_enter Tryz.func7, Tryz.ntmps7
  go_wp2_with fail
  refine (fixed_any W).mono ?_; rintro e w0 ⟨rfl, hb0⟩
  have C1 := parse_any s w0 hs
  rw [hq] at C1
  simp only at C1
  have HB0 : Hid (Below W.heap.size W w0) := hb0
  clear hb0
  go_wp2_with fail
  refine C1.mono ?_; rintro e w1 ⟨k, t, n, p, a, c, ks, rfl, he, hT, hB⟩
  subst he
  have C2 := fun w => parse_any u w hu
  rw [hq2] at C2
  simp only at C2
  obtain ⟨X, hX⟩ : ∃ X, w1.heap.size = X := ⟨_, rfl⟩
  have B1 := Bx.new w1 24 #[.int .i64 k, .string ⟨t.toArray⟩, .int .i64 n, .int .i64 p, .slice a ks.len c]
  have e1 : (w1.alloc (.cells #[.int .i64 k, .string ⟨t.toArray⟩, .int .i64 n, .int .i64 p, .slice a ks.len c] 24)).heap.size = X + 1 := by simp [hX]
  have B2 := Bx.new (w1.alloc (.cells #[.int .i64 k, .string ⟨t.toArray⟩, .int .i64 n, .int .i64 p, .slice a ks.len c] 24)) 27 #[.int .i64 cd, .int .i64 x]
  rw [e1] at B2
  have B1' := B1.alloc (.cells #[.int .i64 cd, .int .i64 x] 27)
  rw [hX] at B1'
  have K1 : Below X w1 ((w1.alloc (.cells #[.int .i64 k, .string ⟨t.toArray⟩, .int .i64 n, .int .i64 p, .slice a ks.len c] 24)).alloc (.cells #[.int .i64 cd, .int .i64 x] 27)) := ((Below.refl X w1).alloc (by omega) _).alloc (by rw [e1]; omega) _
  obtain ⟨V1, hV1⟩ : ∃ V1, (w1.alloc (.cells #[.int .i64 k, .string ⟨t.toArray⟩, .int .i64 n, .int .i64 p, .slice a ks.len c] 24)).alloc (.cells #[.int .i64 cd, .int .i64 x] 27) = V1 := ⟨_, rfl⟩
  rw [hV1] at B2 B1' K1
  have HV1 : Hid ((w1.alloc (.cells #[.int .i64 k, .string ⟨t.toArray⟩, .int .i64 n, .int .i64 p, .slice a ks.len c] 24)).alloc (.cells #[.int .i64 cd, .int .i64 x] 27) = V1) := hV1
  have hTN : TN 24 V1 (fun g => w0.heap.size ≤ g) k t n p (.slice a ks.len c) ks := hT.keep fun g _ hg => K1.block g (hX ▸ hg)
  have H1 : Hid (Bx X 24 #[.int .i64 k, .string ⟨t.toArray⟩, .int .i64 n, .int .i64 p, .slice a ks.len c] V1 ∧ Bx (X + 1) 27 #[.int .i64 cd, .int .i64 x] V1 ∧ Below W.heap.size W V1 ∧ Rw V1 (fun g => w0.heap.size ≤ g) a 0 ks ∧ ks.len ≤ maxLen) := ⟨B1', B2, (HB0.out.trans (hB.mono HB0.out.size)).trans (K1.mono (by have := HB0.out.size; have := hB.size; omega)), hTN.rw0, Nat.le_trans hT.cap.1 hT.cap.2⟩
  clear hB hT B1 B1' B2 K1 e1 hV1 hTN C1 HB0
  go_wp2_with fail
  rw [HV1.out]
  refine (C2 V1).mono ?_; rintro e v1 ⟨k2, t2, n2, p2, a2, c2, ks2, rfl, he, hT, hB⟩
  subst he
  obtain ⟨Y, hY⟩ : ∃ Y, v1.heap.size = Y := ⟨_, rfl⟩
  have B1 := Bx.new v1 24 #[.int .i64 k2, .string ⟨t2.toArray⟩, .int .i64 n2, .int .i64 p2, .slice a2 ks2.len c2]
  have e1 : (v1.alloc (.cells #[.int .i64 k2, .string ⟨t2.toArray⟩, .int .i64 n2, .int .i64 p2, .slice a2 ks2.len c2] 24)).heap.size = Y + 1 := by simp [hY]
  have B2 := Bx.new (v1.alloc (.cells #[.int .i64 k2, .string ⟨t2.toArray⟩, .int .i64 n2, .int .i64 p2, .slice a2 ks2.len c2] 24)) 27 #[.int .i64 cd2, .int .i64 x2]
  rw [e1] at B2
  have B1' := B1.alloc (.cells #[.int .i64 cd2, .int .i64 x2] 27)
  rw [hY] at B1'
  have K1 : Below Y v1 ((v1.alloc (.cells #[.int .i64 k2, .string ⟨t2.toArray⟩, .int .i64 n2, .int .i64 p2, .slice a2 ks2.len c2] 24)).alloc (.cells #[.int .i64 cd2, .int .i64 x2] 27)) := ((Below.refl Y v1).alloc (by omega) _).alloc (by rw [e1]; omega) _
  obtain ⟨V2, hV2⟩ : ∃ V2, (v1.alloc (.cells #[.int .i64 k2, .string ⟨t2.toArray⟩, .int .i64 n2, .int .i64 p2, .slice a2 ks2.len c2] 24)).alloc (.cells #[.int .i64 cd2, .int .i64 x2] 27) = V2 := ⟨_, rfl⟩
  rw [hV2] at B2 B1' K1
  have hTN : TN 24 V2 (fun g => V1.heap.size ≤ g) k2 t2 n2 p2 (.slice a2 ks2.len c2) ks2 := hT.keep fun g _ hg => K1.block g (hY ▸ hg)
  have KB : Below V1.heap.size V1 V2 := hB.trans (K1.mono (by have := hB.size; omega))
  have H2 : Hid (Bx Y 24 #[.int .i64 k2, .string ⟨t2.toArray⟩, .int .i64 n2, .int .i64 p2, .slice a2 ks2.len c2] V2 ∧ Bx (Y + 1) 27 #[.int .i64 cd2, .int .i64 x2] V2 ∧ Below W.heap.size W V2 ∧ Rw V2 (fun g => V1.heap.size ≤ g) a2 0 ks2 ∧ ks2.len ≤ maxLen) := ⟨B1', B2, H1.out.2.2.1.trans (KB.mono H1.out.2.2.1.size), hTN.rw0, Nat.le_trans hT.cap.1 hT.cap.2⟩
  have H3 : Hid (Bx X 24 #[.int .i64 k, .string ⟨t.toArray⟩, .int .i64 n, .int .i64 p, .slice a ks.len c] V2 ∧ Bx (X + 1) 27 #[.int .i64 cd, .int .i64 x] V2 ∧ Rw V2 (fun g => w0.heap.size ≤ g) a 0 ks ∧ ks.len ≤ maxLen) := ⟨H1.out.1.below KB, H1.out.2.1.below KB, H1.out.2.2.2.1.below KB, H1.out.2.2.2.2⟩
  have hX2 := H3.out.1.lt
  obtain ⟨a0, a1, a2', a3, a4⟩ := H3.out.1.five
  have f0 : V2.cell? ⟨X + 1, 0, none⟩ = some (.int .i64 cd) := H3.out.2.1.c 0 _ rfl
  have g0 : V2.cell? ⟨Y + 1, 0, none⟩ = some (.int .i64 cd2) := H2.out.2.1.c 0 _ rfl
  have HW : Hid (Below W.heap.size W V2) := H2.out.2.2.1
  clear hB hT B1 B1' B2 K1 e1 hTN C2 H1 KB HV1
  go_upto_region 5 with fail
  clear hV2
  by_cases hcd : cd = 0
  case neg =>
    have hne : (cd == 0) = false := by simpa using hcd
    clear hok hok2 hbd
    go_wp2
    go_ret
    exact ⟨rfl, HW.out⟩
  by_cases hcd2 : cd2 = 0
  case neg =>
    have hne : (cd2 == 0) = false := by simpa using hcd2
    clear hok hok2 hbd
    subst hcd
    go_wp2
    go_ret
    exact ⟨rfl, HW.out⟩
  subst hcd hcd2
  by_cases hsz : s.size ≤ 9000
  case neg =>
    have h9 : (9000 : Int) < (s.size : Int) := by omega
    clear hok hok2 hbd hsz
    go_wp2
    go_ret
    exact ⟨rfl, HW.out⟩
  by_cases huz : u.size ≤ 9000
  case neg =>
    have h9 : (9000 : Int) < (u.size : Int) := by omega
    have h8 : ¬ (9000 : Int) < (s.size : Int) := by omega
    clear hok hok2 hbd hsz huz
    go_wp2
    go_ret
    exact ⟨rfl, HW.out⟩
  have h9 : ¬ (9000 : Int) < (u.size : Int) := by omega
  have h8 : ¬ (9000 : Int) < (s.size : Int) := by omega
  obtain rfl : x = 0 := prT_zero _ _ _ hq
  obtain rfl : x2 = 0 := prT_zero _ _ _ hq2
  obtain ⟨p', ks', he, -, -, -⟩ := hok rfl
  simp only [one, F.cons.injEq] at he
  obtain ⟨rfl, rfl, rfl, rfl, rfl, -⟩ := he
  obtain ⟨p', ks', he, -, -, -⟩ := hok2 rfl
  simp only [one, F.cons.injEq] at he
  obtain ⟨rfl, rfl, rfl, rfl, rfl, -⟩ := he
  clear hok hok2 hbd
  by_cases hk : ks.lk = 30
  · have hl0 : ks.len ≠ 0 := fun hl => absurd ((F.lk_nil ks hl).symm.trans hk) (by decide)
    obtain ⟨m, hm⟩ : ∃ m, ks.len = m + 1 := ⟨ks.len - 1, by omega⟩
    obtain ⟨t', n', p', ks', hg⟩ := F.lk_get ks m hm
    obtain ⟨g, a', c', rfl, hgl, l0, -⟩ := H3.out.2.2.1.nth ks m 0 hg
    rw [hk, Nat.zero_add] at l0
    have hcap : ks.len ≤ 9223372036854775807 := H3.out.2.2.2
    have wi : IntKind.i64.wrap ((ks.len : Int) - 1) = (m : Int) := by rw [IntKind.wrap_i64]; omega
    have e1 : (0 : Int) < (ks.len : Int) := by omega
    have e1' : 0 < ks.len := by omega
    have e2 : (m : Int) < (ks.len : Int) := by omega
    have e2' : m < ks.len := by omega
    clear hg hk H2 H3 hm hl0
    go_wp2
    go_ret
    exact ⟨rfl, HW.out⟩
  go_cut [59] from 24 to 59 (fun v wx => v = .bool false ∧ wx = V2)
  case first =>
    by_cases hl : ks.len = 0
    · have e1 : ¬ (0 : Int) < (ks.len : Int) := by omega
      have e1' : ¬ 0 < ks.len := by omega
      clear H2 H3 hl
      go_wp2_with fail
      go_meet
      exact ⟨rfl, rfl⟩
    · obtain ⟨m, hm⟩ : ∃ m, ks.len = m + 1 := ⟨ks.len - 1, by omega⟩
      obtain ⟨t', n', p', ks', hg⟩ := F.lk_get ks m hm
      obtain ⟨g, a', c', rfl, hgl, l0, -⟩ := H3.out.2.2.1.nth ks m 0 hg
      rw [Nat.zero_add] at l0
      have hkb : (ks.lk == 30) = false := by simpa using hk
      have hcap : ks.len ≤ 9223372036854775807 := H3.out.2.2.2
      have wi : IntKind.i64.wrap ((ks.len : Int) - 1) = (m : Int) := by rw [IntKind.wrap_i64]; omega
      have e1 : (0 : Int) < (ks.len : Int) := by omega
      have e1' : 0 < ks.len := by omega
      have e2 : (m : Int) < (ks.len : Int) := by omega
      have e2' : m < ks.len := by omega
      clear hg H2 H3 hm hl
      go_wp2_with fail
      go_meet
      exact ⟨rfl, rfl⟩
  case rest =>
    obtain ⟨rfl, rfl⟩ := hcut
    obtain ⟨p3, ks3, hC, hCs⟩ := prT_join s.data.toList u.data.toList (by rw [hsl]; exact hsz) (by rw [hul]; exact huz) hq hq2 hk
    have hcat : ((s ++ ⟨#[10, 59, 10]⟩) ++ u).data.toList = s.data.toList ++ 10 :: 59 :: 10 :: u.data.toList := by simp
    have C3 := parse_any ((s ++ ⟨#[10, 59, 10]⟩) ++ u) wc (by simp only [ByteArray.size_append]; have : (⟨#[10, 59, 10]⟩ : ByteArray).size = 3 := rfl; omega)
    rw [hcat, hC] at C3
    simp only at C3
    have Hs : Hid (ks3.sam (ks.app ks2)) := hCs
    clear hC hCs hcat hq hq2 hsl hul h8 h9 a0 a1 a2' a3 a4 f0 g0 hX2 hk
    go_wp2_with fail
    refine C3.mono ?_; rintro e v3 ⟨k3, t3, n3, p4, a3, c3, ks4, rfl, he, hT, hB⟩
    simp only [one, F.cons.injEq] at he
    obtain ⟨rfl, rfl, rfl, rfl, rfl, -⟩ := he
    obtain ⟨Z, hZ⟩ : ∃ Z, v3.heap.size = Z := ⟨_, rfl⟩
    have B1 := Bx.new v3 24 #[.int .i64 20, .string ⟨#[]⟩, .int .i64 0, .int .i64 p3, .slice a3 ks3.len c3]
    have e1 : (v3.alloc (.cells #[.int .i64 20, .string ⟨#[]⟩, .int .i64 0, .int .i64 p3, .slice a3 ks3.len c3] 24)).heap.size = Z + 1 := by simp [hZ]
    have B2 := Bx.new (v3.alloc (.cells #[.int .i64 20, .string ⟨#[]⟩, .int .i64 0, .int .i64 p3, .slice a3 ks3.len c3] 24)) 27 #[.int .i64 0, .int .i64 0]
    rw [e1] at B2
    have B1' := B1.alloc (.cells #[.int .i64 0, .int .i64 0] 27)
    rw [hZ] at B1'
    have K1 : Below Z v3 ((v3.alloc (.cells #[.int .i64 20, .string ⟨#[]⟩, .int .i64 0, .int .i64 p3, .slice a3 ks3.len c3] 24)).alloc (.cells #[.int .i64 0, .int .i64 0] 27)) := ((Below.refl Z v3).alloc (by omega) _).alloc (by rw [e1]; omega) _
    obtain ⟨V3, hV3⟩ : ∃ V3, (v3.alloc (.cells #[.int .i64 20, .string ⟨#[]⟩, .int .i64 0, .int .i64 p3, .slice a3 ks3.len c3] 24)).alloc (.cells #[.int .i64 0, .int .i64 0] 27) = V3 := ⟨_, rfl⟩
    rw [hV3] at B2 B1' K1
    have HV3 : Hid ((v3.alloc (.cells #[.int .i64 20, .string ⟨#[]⟩, .int .i64 0, .int .i64 p3, .slice a3 ks3.len c3] 24)).alloc (.cells #[.int .i64 0, .int .i64 0] 27) = V3) := hV3
    have hTN : TN 24 V3 (fun g => wc.heap.size ≤ g) 20 [] 0 p3 (.slice a3 ks3.len c3) ks3 := hT.keep fun g _ hg => K1.block g (hZ ▸ hg)
    have KB : Below wc.heap.size wc V3 := hB.trans (K1.mono (by have := hB.size; omega))
    have D3 := B1'
    have D1 := H3.out.1.below KB
    have D2 := H2.out.1.below KB
    have R1 := H3.out.2.2.1.below KB
    have R2 := H2.out.2.2.2.1.below KB
    have R3 := hTN.rw0
    have HR : Hid (Rw V3 (fun g => w0.heap.size ≤ g) a 0 ks ∧ Rw V3 (fun g => V1.heap.size ≤ g) a2 0 ks2 ∧ Rw V3 (fun g => wc.heap.size ≤ g) a3 0 ks3 ∧ (Below W.heap.size W V3) ∧ Bx X 24 #[.int .i64 20, .string ⟨#[]⟩, .int .i64 0, .int .i64 p, .slice a ks.len c] V3 ∧ Bx Y 24 #[.int .i64 20, .string ⟨#[]⟩, .int .i64 0, .int .i64 p2, .slice a2 ks2.len c2] V3 ∧ Bx Z 24 #[.int .i64 20, .string ⟨#[]⟩, .int .i64 0, .int .i64 p3, .slice a3 ks3.len c3] V3) := ⟨R1, R2, R3, HW.out.trans (KB.mono HW.out.size), D1, D2, D3⟩
    have x4 : V3.cell? ⟨X, 4, none⟩ = some (.slice a ks.len c) := D1.c 4 _ rfl
    have y4 : V3.cell? ⟨Y, 4, none⟩ = some (.slice a2 ks2.len c2) := D2.c 4 _ rfl
    have z4 : V3.cell? ⟨Z, 4, none⟩ = some (.slice a3 ks3.len c3) := D3.c 4 _ rfl
    have f0 : V3.cell? ⟨Z + 1, 0, none⟩ = some (.int .i64 0) := B2.c 0 _ rfl
    have hlen : ks3.len = ks.len + ks2.len := by rw [F.sam_len _ _ Hs.out, F.len_app]
    have l1 : ks.len ≤ maxLen := H3.out.2.2.2
    have l2 : ks2.len ≤ maxLen := H2.out.2.2.2.2
    have l3 : ks3.len ≤ maxLen := Nat.le_trans hT.cap.1 hT.cap.2
    have wl : IntKind.i64.wrap ((ks.len : Int) + (ks2.len : Int)) = (ks3.len : Int) := by rw [IntKind.wrap_i64]; have : ks3.len ≤ 9223372036854775807 := l3; omega
    have HL : Hid (ks3.len = ks.len + ks2.len ∧ ks3.len ≤ 9223372036854775807) := ⟨hlen, l3⟩
    clear hlen l1 l2 l3 hT hB B1 B1' B2 K1 e1 hV3 hTN KB D1 D2 D3 R1 R2 R3 H2 H3 HW C3 hsz huz
    go_upto_region 8 with fail
    rw [HV3.out]
    clear HV3
    go_wp2_with fail
    go_loopw [11] (fun iv wx => ∃ i : Nat, iv = .int .i64 (i : Nat) ∧ i ≤ ks3.len ∧ Hid (Below V3.heap.size V3 wx)) (fun iv _ => ks3.len - (intOf iv).toNat)
    case atStart => exact ⟨0, rfl, Nat.zero_le _, Below.refl _ _⟩
    case round =>
      obtain ⟨i, rfl, hi, HB⟩ := hrel
      obtain ⟨r1, r2, r3, kW, d1, d2, d3⟩ := HR.out
      have x4 : wr.cell? ⟨X, 4, none⟩ = some (.slice a ks.len c) := (d1.below HB.out).c 4 _ rfl
      have y4 : wr.cell? ⟨Y, 4, none⟩ = some (.slice a2 ks2.len c2) := (d2.below HB.out).c 4 _ rfl
      have z4 : wr.cell? ⟨Z, 4, none⟩ = some (.slice a3 ks3.len c3) := (d3.below HB.out).c 4 _ rfl
      have hX' := (d1.below HB.out).lt
      have hY' := (d2.below HB.out).lt
      have hZ' := (d3.below HB.out).lt
      by_cases hlt : i < ks3.len
      case neg =>
        have h1 : ¬ (i : Int) < (ks3.len : Int) := by omega
        have KF : Hid (Below W.heap.size W wr) := kW.trans (HB.out.mono kW.size)
        clear hlt hi HB d1 d2 d3 r1 r2 r3 kW HR HL Hs
        go_wp2
        go_ret
        exact ⟨rfl, KF.out⟩
      have h1 : (i : Int) < (ks3.len : Int) := by omega
      have wi : IntKind.i64.wrap ((i : Int) + 1) = (i : Int) + 1 := by rw [IntKind.wrap_i64]; have := HL.out.2; omega
      obtain ⟨⟨k', t', n', p', kk⟩, hg⟩ := F.get_some ks3 i hlt
      obtain ⟨g, a', c', rfl, hgl, c0, c1, c2', c3', c4, hT⟩ := (r3.below HB.out).nth ks3 i 0 hg
      rw [Nat.zero_add] at c0 c1 c2' c3' c4
      obtain ⟨p'', kk2, hg2, hsam⟩ := F.sam_get _ _ i Hs.out hg
      rw [F.get_app] at hg2
      have hms : ks3.len - (i + 1) < ks3.len - i := by omega
      have HN : Hid (Below V3.heap.size V3 wr ∧ V3.heap.size ≤ wr.heap.size) := ⟨HB.out, HB.out.size⟩
      obtain ⟨Yc, F, F1, F2⟩ := class_of wr
      have HC : Hid (∃ x, wr.drew = F x) := F2 _ (Below.refl _ _).drew
      have HF1 : Hid (∀ x, Below wr.heap.size wr (F x)) := F1
      have v1' : ∀ x, (F x).cell? ⟨X, 4, none⟩ = some (.slice a ks.len c) := fun x => ((F1 x).cell hX').trans x4
      have v2' : ∀ x, (F x).cell? ⟨Y, 4, none⟩ = some (.slice a2 ks2.len c2) := fun x => ((F1 x).cell hY').trans y4
      have v3' : ∀ x, (F x).cell? ⟨Z, 4, none⟩ = some (.slice (some ⟨g, 0, none⟩) ks3.len c3) := fun x => ((F1 x).cell hZ').trans z4
      have d0 : ∀ x, (F x).cell? ⟨g, i * 5, none⟩ = some (.int .i64 k') := fun x => ((F1 x).cell hgl).trans c0
      have d1 : ∀ x, (F x).cell? ⟨g, i * 5 + 1, none⟩ = some (.string ⟨t'.toArray⟩) := fun x => ((F1 x).cell hgl).trans c1
      have d2 : ∀ x, (F x).cell? ⟨g, i * 5 + 2, none⟩ = some (.int .i64 n') := fun x => ((F1 x).cell hgl).trans c2'
      have d3 : ∀ x, (F x).cell? ⟨g, i * 5 + 3, none⟩ = some (.int .i64 p') := fun x => ((F1 x).cell hgl).trans c3'
      have d4 : ∀ x, (F x).cell? ⟨g, i * 5 + 4, none⟩ = some (.slice a' kk.len c') := fun x => ((F1 x).cell hgl).trans c4
      haveI : Nonempty Yc := HC.out.elim fun x _ => ⟨x⟩
      by_cases hA : i < ks.len
      · rw [if_pos hA] at hg2
        have b1 : (i : Int) < (ks.len : Int) := by omega
        have b2 : ¬ (ks.len : Int) ≤ (i : Int) := by omega
        have b5 : decide (i < ks.len) = true := decide_eq_true hA
        have b6 : decide (ks.len ≤ i) = false := decide_eq_false (by omega)
        obtain ⟨g2, a2'', cc2, rfl, hgl2, s0, s1, s2, s3, s4, hT2⟩ := (r1.below HB.out).nth ks i 0 hg2
        rw [Nat.zero_add] at s0 s1 s2 s3 s4
        have q0 : ∀ x, (F x).cell? ⟨g2, i * 5, none⟩ = some (.int .i64 k') := fun x => ((F1 x).cell hgl2).trans s0
        have q1 : ∀ x, (F x).cell? ⟨g2, i * 5 + 1, none⟩ = some (.string ⟨t'.toArray⟩) := fun x => ((F1 x).cell hgl2).trans s1
        have q2 : ∀ x, (F x).cell? ⟨g2, i * 5 + 2, none⟩ = some (.int .i64 n') := fun x => ((F1 x).cell hgl2).trans s2
        have q3 : ∀ x, (F x).cell? ⟨g2, i * 5 + 3, none⟩ = some (.int .i64 p'') := fun x => ((F1 x).cell hgl2).trans s3
        have q4 : ∀ x, (F x).cell? ⟨g2, i * 5 + 4, none⟩ = some (.slice a2'' kk2.len cc2) := fun x => ((F1 x).cell hgl2).trans s4
        have C : ∀ x, Calls Tryz.prog 17 #[(.agg #[.int .i64 (k'), .string ⟨(t').toArray⟩, .int .i64 (n'), .int .i64 (p'), .slice a' kk.len c']), (.agg #[.int .i64 (k'), .string ⟨(t').toArray⟩, .int .i64 (n'), .int .i64 (p''), .slice a2'' kk2.len cc2])] (F x) fun e w' => e = .returned (.bool true) ∧ ∃ y, w' = F y := fun x =>
          (same_any kk.siz kk kk2 (Nat.le_refl _) (Nat.le_trans hT.cap.1 hT.cap.2) (F x) _ _ k' t' n' p' p'' a' a2'' c' cc2 (hT.rw0.below (F1 x)) (hT2.rw0.below (F1 x)) hsam).mono fun e w' ⟨he, hw⟩ => ⟨he, F2 w' ((F1 x).trans (hw.mono (F1 x).size))⟩
        go_wp2_with fail
        clear F1 F2 c0 c1 c2' c3' c4 s0 s1 s2 s3 s4 hT hT2 hsam hg hg2 hlt hi HB r1 r2 r3 kW x4 y4 z4
        refine wp_class (F := F) (by kernel_rfl) (by kernel_rfl) HC.out ?_
        repeat (go_big_quiet_step (exact C _))
        refine wpQuiet_nil ?_
        intro _ hw'
        obtain ⟨x, rfl⟩ := hw'
        have K3 : Hid (Below wr.heap.size wr (F x)) := HF1.out x
        clear HF1 C v1' v2' v3' d0 d1 d2 d3 d4 q0 q1 q2 q3 q4 HC
        generalize F x = w3 at *
        go_wp2_with fail
        go_round
        case rel => exact ⟨i + 1, by first | rfl | simp, by omega, HN.out.1.trans (K3.out.mono HN.out.2)⟩
        case measure => first | omega | (simp only [intOf]; omega) | (simp; omega)
      · obtain ⟨j, hj⟩ : ∃ j, i - ks.len = j := ⟨_, rfl⟩
        rw [if_neg hA, hj] at hg2
        have b1 : ¬ (i : Int) < (ks.len : Int) := by omega
        have b2 : (ks.len : Int) ≤ (i : Int) := by omega
        have b5 : decide (i < ks.len) = false := decide_eq_false hA
        have b6 : decide (ks.len ≤ i) = true := decide_eq_true (by omega)
        have wj : IntKind.i64.wrap ((i : Int) - (ks.len : Int)) = (j : Int) := by rw [IntKind.wrap_i64]; have := HL.out.2; omega
        have hjl : j < ks2.len := by have := HL.out.1; omega
        have b3 : (j : Int) < (ks2.len : Int) := by omega
        clear hj
        obtain ⟨g2, a2'', cc2, rfl, hgl2, s0, s1, s2, s3, s4, hT2⟩ := (r2.below HB.out).nth ks2 j 0 hg2
        rw [Nat.zero_add] at s0 s1 s2 s3 s4
        have q0 : ∀ x, (F x).cell? ⟨g2, j * 5, none⟩ = some (.int .i64 k') := fun x => ((F1 x).cell hgl2).trans s0
        have q1 : ∀ x, (F x).cell? ⟨g2, j * 5 + 1, none⟩ = some (.string ⟨t'.toArray⟩) := fun x => ((F1 x).cell hgl2).trans s1
        have q2 : ∀ x, (F x).cell? ⟨g2, j * 5 + 2, none⟩ = some (.int .i64 n') := fun x => ((F1 x).cell hgl2).trans s2
        have q3 : ∀ x, (F x).cell? ⟨g2, j * 5 + 3, none⟩ = some (.int .i64 p'') := fun x => ((F1 x).cell hgl2).trans s3
        have q4 : ∀ x, (F x).cell? ⟨g2, j * 5 + 4, none⟩ = some (.slice a2'' kk2.len cc2) := fun x => ((F1 x).cell hgl2).trans s4
        have C : ∀ x, Calls Tryz.prog 17 #[(.agg #[.int .i64 (k'), .string ⟨(t').toArray⟩, .int .i64 (n'), .int .i64 (p'), .slice a' kk.len c']), (.agg #[.int .i64 (k'), .string ⟨(t').toArray⟩, .int .i64 (n'), .int .i64 (p''), .slice a2'' kk2.len cc2])] (F x) fun e w' => e = .returned (.bool true) ∧ ∃ y, w' = F y := fun x =>
          (same_any kk.siz kk kk2 (Nat.le_refl _) (Nat.le_trans hT.cap.1 hT.cap.2) (F x) _ _ k' t' n' p' p'' a' a2'' c' cc2 (hT.rw0.below (F1 x)) (hT2.rw0.below (F1 x)) hsam).mono fun e w' ⟨he, hw⟩ => ⟨he, F2 w' ((F1 x).trans (hw.mono (F1 x).size))⟩
        go_wp2_with fail
        clear F1 F2 c0 c1 c2' c3' c4 s0 s1 s2 s3 s4 hT hT2 hsam hg hg2 hlt hi HB r1 r2 r3 kW x4 y4 z4
        refine wp_class (F := F) (by kernel_rfl) (by kernel_rfl) HC.out ?_
        repeat (go_big_quiet_step (exact C _))
        refine wpQuiet_nil ?_
        intro _ hw'
        obtain ⟨x, rfl⟩ := hw'
        have K3 : Hid (Below wr.heap.size wr (F x)) := HF1.out x
        clear HF1 C v1' v2' v3' d0 d1 d2 d3 d4 q0 q1 q2 q3 q4 HC
        generalize F x = w3 at *
        go_wp2_with fail
        go_round
        case rel => exact ⟨i + 1, by first | rfl | simp, by omega, HN.out.1.trans (K3.out.mono HN.out.2)⟩
        case measure => first | omega | (simp only [intOf]; omega) | (simp; omega)
end Go.Proofs.YtlgkfhipobdcfaaGreatDoor
