/- The walk of CheckLocals. -/
import Derived.Test.YtmejlldabdjpjaaGreatCg33
import Derived.Test.YtmejlldabdjpjaaGreatCg30
namespace Go.Proofs.YtmejlldabdjpjaaGreat
open Go.RowKit
theorem fifty (a : Int) : ∃ A : Nat, wrap64 (1 + wrap64 ((IntKind.u64.wrap a).tmod 50)) = A ∧ 1 ≤ A ∧ A ≤ 50 := by
  have h0 : 0 ≤ IntKind.u64.wrap a := by rw [IntKind.wrap_u64]; omega
  have h1 := Int.tmod_nonneg 50 h0
  have h2 := Int.tmod_lt_of_pos (IntKind.u64.wrap a) (show (0 : Int) < 50 by omega)
  generalize (IntKind.u64.wrap a).tmod 50 = t at h1 h2
  refine ⟨(1 + t).toNat, ?_, by omega, by omega⟩
  rw [show wrap64 t = t by unfold wrap64; omega]
  unfold wrap64; omega
set_option maxRecDepth 20000 in
set_option maxHeartbeats 8000000 in
theorem locals_walk (a b : Int) (W : World) : Calls Tryz.prog 8 #[.int .i64 a, .int .i64 b] W fun e w' => e = .returned (.bool true) ∧ Below W.heap.size W w' := by
  have FX := fixedc_any W
  obtain ⟨A, eA, hA1, hA2⟩ := fifty a
  obtain ⟨B, eB, hB1', hB2'⟩ := fifty b
  obtain ⟨M, hM⟩ : ∃ M : ByteArray, (⟨(mnL 97 A).toArray⟩ : ByteArray) = M := ⟨_, rfl⟩
  obtain ⟨K, hK⟩ : ∃ K : ByteArray, (⟨(mnL 98 B).toArray⟩ : ByteArray) = K := ⟨_, rfl⟩
  have hMz : M.size ≤ 250 := by rw [← hM]; have := mnL_len 97 A hA2; simp only [ByteArray.size, List.size_toArray]; omega
  have hKz : K.size ≤ 250 := by rw [← hK]; have := mnL_len 98 B hB2'; simp only [ByteArray.size, List.size_toArray]; omega
  have C1 := fun V => many_any 97 A hA2 V
  have C2 := fun V => many_any 98 B hB2' V
  rw [hM] at C1
  rw [hK] at C2
  have HM : Hid ((⟨(mnL 97 A).toArray⟩ : ByteArray) = M ∧ (⟨(mnL 98 B).toArray⟩ : ByteArray) = K) := ⟨hM, hK⟩
  clear hM hK
  go_enter Tryz.func8, Tryz.ntmps8
  go_wp2_with fail
  refine FX.mono ?_
  rintro e w1 ⟨rfl, hB1⟩
  have HB1 : Hid (Below W.heap.size W w1) := hB1
  clear FX hB1
  go_wp2_with fail
  rw [eA, eB]
  refine (C1 _).mono ?_
  rintro e w2 ⟨rfl, hB2⟩
  have HB2 : Hid (Below W.heap.size W w2) := bthen HB1.out HB1.out.size hB2
  clear C1 hB2 HB1
  go_wp2_with fail
  refine (C2 _).mono ?_
  rintro e w3 ⟨rfl, hB3⟩
  have HB3 : Hid (Below W.heap.size W w3) := bthen HB2.out HB2.out.size hB3
  clear C2 hB3 HB2
  go_wp2_with fail
  have hS : (((((((⟨#[108, 111, 99, 97, 108, 32]⟩ : ByteArray) ++ M) ++ ⟨#[32]⟩) ++ ⟨#[102, 111, 114, 32, 105, 32, 61, 32, 49, 44, 32, 50, 32, 100, 111, 32]⟩) ++ ⟨#[108, 111, 99, 97, 108, 32]⟩) ++ K) ++ ⟨#[32, 101, 110, 100]⟩).data.toList = txL A B := by
    rw [← HM.out.1, ← HM.out.2]; simp [txL, kwL, kwF, kwD, kwE]
  have hSz : (((((((⟨#[108, 111, 99, 97, 108, 32]⟩ : ByteArray) ++ M) ++ ⟨#[32]⟩) ++ ⟨#[102, 111, 114, 32, 105, 32, 61, 32, 49, 44, 32, 50, 32, 100, 111, 32]⟩) ++ ⟨#[108, 111, 99, 97, 108, 32]⟩) ++ K) ++ ⟨#[32, 101, 110, 100]⟩).size ≤ 9223372036854775807 := by
    simp only [ByteArray.size_append]
    have : ∀ l : List UInt8, (⟨l.toArray⟩ : ByteArray).size = l.length := fun l => sz_list l
    have k1 := this [108, 111, 99, 97, 108, 32]
    have k2 := this [32]
    have k3 := this [102, 111, 114, 32, 105, 32, 61, 32, 49, 44, 32, 50, 32, 100, 111, 32]
    have k4 := this [32, 101, 110, 100]
    simp only [List.length_cons, List.length_nil] at k1 k2 k3 k4
    omega
  have C3 := Check_any _ w3 hSz
  rw [hS, chT_txL A B hA2 hB2' hA1 hB1'] at C3
  have hL : M.size = (mnL 97 A).length := by rw [← HM.out.1]; exact sz_list _
  have wA : IntKind.i64.wrap ((A : Int) + 4) = (A : Int) + 4 := by rw [IntKind.wrap_i64]; omega
  have wB : IntKind.i64.wrap ((A : Int) + 4 + (B : Int)) = (A : Int) + 4 + (B : Int) := by rw [IntKind.wrap_i64]; omega
  have n60 : ¬ (60 : Int) < (A : Int) + 4 := by omega
  clear hS hSz
  by_cases hc : A + 4 + B ≤ 60
  · rw [if_pos hc] at C3
    unfold ChP at C3
    simp only [] at C3
    refine C3.mono ?_
    rintro e w4 ⟨vF, vG, rfl, hRp, hB4⟩
    obtain ⟨⟨vs, hF, hvs, hcs⟩, hG⟩ := hRp
    obtain ⟨v0, rfl⟩ : ∃ v0, vs = [v0] := by
      match vs, hvs with
      | [v0], _ => exact ⟨v0, rfl⟩
    have hV := hcs 0 _ v0 rfl rfl
    obtain ⟨gF, cF, rfl, lF, cc⟩ := own_one hF (by simp)
    obtain ⟨gV, cV, rfl, lV, cv⟩ := own_one hV (by simp [c12])
    obtain ⟨aG, cG, rfl⟩ := slice_shape hG
    have n61 : ¬ (60 : Int) < (A : Int) + 4 + (B : Int) := by omega
    simp only [List.length_cons, List.length_nil, Nat.zero_add] at hF ⊢
    have k := b2 w4 (.cells #[.slice (some ⟨gF, 0, none⟩) 1 cF, .slice aG 0 cG] 25) (.cells #[.int .i64 0, .int .i64 0] 28)
    have eS : ((A + 4 + B : Nat) : Int) = (A : Int) + 4 + (B : Int) := by omega
    have d3 := (k.cell (p := ⟨gF, 3, none⟩) lF).trans (cc 3 _ rfl)
    have d4 := (k.cell (p := ⟨gF, 4, none⟩) lF).trans (cc 4 _ rfl)
    rw [eS] at d3
    have T := t2_any gV cV _ (Nat.lt_of_lt_of_le lV k.size) ((k.cell (p := ⟨gV, 0, none⟩) lV).trans (cv 0 _ rfl)) ((k.cell (p := ⟨gV, 1, none⟩) lV).trans (cv 1 _ rfl)) ((k.cell (p := ⟨gV, 2, none⟩) lV).trans (cv 2 _ rfl)) ((k.cell (p := ⟨gV, 3, none⟩) lV).trans (cv 3 _ rfl)) ((k.cell (p := ⟨gV, 4, none⟩) lV).trans (cv 4 _ rfl)) ((k.cell (p := ⟨gV, 5, none⟩) lV).trans (cv 5 _ rfl))
    have HB4 : Hid (Below W.heap.size W ((w4.alloc (.cells #[.slice (some ⟨gF, 0, none⟩) 1 cF, .slice aG 0 cG] 25)).alloc (.cells #[.int .i64 0, .int .i64 0] 28))) := bthen (bthen HB3.out HB3.out.size hB4) (bthen HB3.out HB3.out.size hB4).size k
    clear C3 hF hG hV hvs hcs hB4 HB3 cc cv k lF lV
    go_wp2_with fail
    refine T.mono ?_
    rintro e w5 ⟨rfl, hB5⟩
    go_wp2
    go_ret
    exact ⟨rfl, bthen HB4.out HB4.out.size hB5⟩
  · rw [if_neg hc] at C3
    unfold ChP at C3
    simp only [] at C3
    refine C3.mono ?_
    rintro e w4 ⟨vF, vG, rfl, hRp, hB4⟩
    obtain ⟨⟨vs, hF, hvs, hcs⟩, hG⟩ := hRp
    obtain ⟨aF, cF, rfl⟩ := slice_shape hF
    obtain ⟨aG, cG, rfl⟩ := slice_shape hG
    have HB4 : Hid (Below W.heap.size W w4) := bthen HB3.out HB3.out.size hB4
    have n61 : (60 : Int) < (A : Int) + 4 + (B : Int) := by omega
    clear C3 hF hG hvs hcs hB4 HB3
    go_wp2
    go_ret
    exact ⟨rfl, bthen HB4.out HB4.out.size (b2 w4 _ _)⟩
end Go.Proofs.YtmejlldabdjpjaaGreat
