/- The walk of the reference's Sizes. -/
import Derived.Test.YteknjkofmkigoaaRtw
import Derived.Test.YteknjkofmkigoaaSizes
namespace Go.Proofs.Yteknjkofmkigoaa
open Go.RowKit

theorem up2_unique (n : Int) (k : Nat) (h0 : 1 ≤ n) (h1 : n ≤ 65536) (ha : n ≤ 2 ^ k) (hb : k = 0 ∨ 2 ^ (k - 1) < n.toNat) : (2 : Int) ^ k = up2 n := by
  unfold up2 cl
  rw [if_neg (by omega), ← lgN_unique n k h0 (by omega) (by have := pow_int k; omega) hb]

set_option maxHeartbeats 2000000 in
theorem rsizes_any (l : List Int) (o : Int) (v : Value) (w : World) (h : Ints w.heap.size w v l) (hf : Fit l) (hlen : l.length ≤ 1000000) :
    Calls Try.prog 19 #[v, .int .i64 o] w fun e w' => e = .returned (.tuple #[.int .i64 (szA l o), .int .i64 (szH l o), .int .i64 (szE l o)]) ∧ Below w.heap.size w w' := by
  by_cases h0 : o < 0
  · have e1 : szE l o = 1 := by unfold szE; rw [if_pos h0]
    have e2 : szA l o = 0 := by unfold szA; rw [e1, if_neg (by omega)]
    have e3 : szH l o = 0 := by unfold szH; rw [e1, if_neg (by omega)]
    rw [e1, e2, e3]
    obtain ⟨a, cap, rfl, hcap, h⟩ := h
    clear h hf e1 e2 e3
    generalize l.length = L at *
    go_enter Try.func19, Try.ntmps19
    go_wp2
    go_ret3
    exact ⟨rfl, Below.refl _ _⟩
  have C1 := rtwice_any l v w h hlen
  by_cases hn : l.Nodup
  · have hd : decide (¬ l.Nodup) = false := by simpa using hn
    rw [hd] at C1
    have hok := okC_cnt l hlen
    have hN := chN_le l
    have C2 := fun w1 (hb : Below w.heap.size w w1) => rcount_any l v w1 (h.go hb) hf hlen
    have C3 : ∀ w2 G, Own17 G w2 (cnt l) → Calls Try.prog 17 #[.slice (some ⟨G, 0, none⟩) 17 17] w2 fun e w' => e = .returned (.tuple #[.int .i64 (chA (cntL l) 17), .int .i64 (chN (cntL l) 17), .int .i64 0]) ∧ w' = w2 := fun w2 G q => rchoose_ok (cntL l) _ w2 q.ints' hok
    have e1 : szE l o = if 65536 < o ∨ 65536 < o + rest l then 14 else 0 := by unfold szE; rw [if_neg h0, if_neg (by simpa using hn)]
    unfold szA szH
    rw [e1]
    unfold rest
    obtain ⟨a, cap, rfl, hcap, h⟩ := h
    clear h hf hcap hn hok hd e1
    generalize l.length = L at *
    generalize chN (cntL l) 17 = N at *
    generalize chA (cntL l) 17 = A at *
    obtain ⟨hN0, hN1⟩ := hN
    by_cases hb1 : 65536 < o
    · have e : (if 65536 < o ∨ 65536 < o + ((L : Int) - N) then (14 : Int) else 0) = 14 := if_pos (.inl hb1)
      rw [e, if_neg (by omega), if_neg (by omega)]
      clear e
      go_enter Try.func19, Try.ntmps19
      go_wp2_with fail
      refine C1.mono ?_
      rintro e w1 ⟨rfl, hb⟩
      go_wp2_with fail
      refine (C2 w1 hb).mono ?_
      rintro e w2 ⟨rfl, ho, hb2⟩
      go_wp2_with fail
      refine (C3 _ _ ho).mono ?_
      rintro e w3 ⟨rfl, rfl⟩
      clear ho C1 C2 C3
      go_wp2_with fail
      go_ret3
      exact ⟨rfl, bthen hb hb.size hb2⟩
    · by_cases hb2 : 65536 < o + (L - N)
      · have e : (if 65536 < o ∨ 65536 < o + ((L : Int) - N) then (14 : Int) else 0) = 14 := if_pos (.inr hb2)
        rw [e, if_neg (by omega), if_neg (by omega)]
        clear e
        go_enter Try.func19, Try.ntmps19
        go_wp2_with fail
        refine C1.mono ?_
        rintro e w1 ⟨rfl, hb⟩
        go_wp2_with fail
        refine (C2 w1 hb).mono ?_
        rintro e w2 ⟨rfl, ho, hb2⟩
        go_wp2_with fail
        refine (C3 _ _ ho).mono ?_
        rintro e w3 ⟨rfl, rfl⟩
        clear ho C1 C2 C3
        go_wp2_with fail
        go_ret3
        exact ⟨rfl, bthen hb hb.size hb2⟩
      · have e : (if 65536 < o ∨ 65536 < o + ((L : Int) - N) then (14 : Int) else 0) = 0 := if_neg (by omega)
        rw [e, if_pos rfl, if_pos rfl]
        clear e
        have HU : Hid (∀ k : Nat, 1 ≤ (L : Int) - N + o → (L : Int) - N + o ≤ 2 ^ k → (k = 0 ∨ 2 ^ (k - 1) < ((L : Int) - N + o).toNat) → (2 : Int) ^ k = up2 (o + (L - N))) := fun k h1 h2 h3 => by
          rw [show o + ((L : Int) - N) = (L : Int) - N + o by omega]
          exact up2_unique _ k h1 (by omega) h2 h3
        by_cases hz : (L : Int) - N + o = 0
        · have hz' : up2 (o + (L - N)) = 0 := by unfold up2; rw [if_pos (by omega)]
          rw [hz']
          clear HU hz'
          go_enter Try.func19, Try.ntmps19
          go_wp2_with fail
          refine C1.mono ?_
          rintro e w1 ⟨rfl, hb⟩
          go_wp2_with fail
          refine (C2 w1 hb).mono ?_
          rintro e w2 ⟨rfl, ho, hb2⟩
          go_wp2_with fail
          refine (C3 _ _ ho).mono ?_
          rintro e w3 ⟨rfl, rfl⟩
          clear ho C1 C2 C3
          go_wp2_with fail
          go_ret3
          exact ⟨rfl, bthen hb hb.size hb2⟩
        · have hz' : ((L : Int) - N + o == 0) = false := by simpa using hz
          have hM0 : 1 ≤ (L : Int) - N + o := by omega
          have hM1 : (L : Int) - N + o ≤ 65536 := by omega
          generalize up2 (o + (L - N)) = H at *
          go_enter Try.func19, Try.ntmps19
          go_wp2_with fail
          refine C1.mono ?_
          rintro e w1 ⟨rfl, hb⟩
          go_wp2_with fail
          refine (C2 w1 hb).mono ?_
          rintro e w2 ⟨rfl, ho, hb2⟩
          go_wp2_with fail
          refine (C3 _ _ ho).mono ?_
          rintro e w3 ⟨rfl, rfl⟩
          clear ho C1 C2 C3
          go_wp2_with fail
          generalize (L : Int) - N + o = M at *
          go_loop [12] (fun p => ∃ k : Nat, p = .int .i64 (2 ^ k) ∧ k ≤ 16 ∧ Hid (k = 0 ∨ 2 ^ (k - 1) < M.toNat)) (fun p => (65537 - intOf p).toNat)
          case atStart => exact ⟨0, rfl, by omega, .inl rfl⟩
          case round =>
            obtain ⟨k, rfl, hk, HT⟩ := hrel
            obtain ⟨hp0, hp1⟩ := pow16 k hk
            have hpi := pow_int k
            have HS : Hid (∀ P, (2 : Int) ^ k = P → P * 2 = 2 ^ (k + 1)) := fun P hP => by rw [Int.pow_succ, hP]
            have HQ : Hid ((2 : Int) ^ k < M → k ≤ 15 ∧ 2 ^ (k + 1 - 1) < M.toNat) := fun q => by
              refine ⟨?_, by rw [Nat.add_sub_cancel]; omega⟩
              by_cases h16 : k = 16
              · subst h16; omega
              · omega
            have HF : Hid (¬ (2 : Int) ^ k < M → (2 : Int) ^ k = H) := fun q => HU.out k hM0 (by omega) HT.out
            obtain ⟨P, hP⟩ : ∃ P, (2 : Int) ^ k = P := ⟨_, rfl⟩
            have HS2 : Hid _ := HS.out P hP
            rw [hP] at hp0 hp1 HQ HF ⊢
            clear hP HS hpi HT HU
            by_cases hq : P < M
            · have HQ2 : Hid _ := HQ.out hq
              clear HQ HF
              go_wp2_with fail
              go_round
              case rel => exact ⟨k + 1, congrArg (Value.int .i64) HS2.out, by have := HQ2.out.1; omega, .inr HQ2.out.2⟩
              case measure => simp [intOf]; omega
            · have HF2 : Hid _ := HF.out hq
              clear HQ HF
              go_wp2_with fail
              go_ret3
              exact ⟨ret3 rfl HF2.out rfl, bthen hb hb.size hb2⟩
  · have hd : decide (¬ l.Nodup) = true := by simpa using hn
    rw [hd] at C1
    have e1 : szE l o = 2 := by unfold szE; rw [if_neg h0, if_pos hn]
    have e2 : szA l o = 0 := by unfold szA; rw [e1, if_neg (by omega)]
    have e3 : szH l o = 0 := by unfold szH; rw [e1, if_neg (by omega)]
    rw [e1, e2, e3]
    obtain ⟨a, cap, rfl, hcap, h⟩ := h
    clear h hf e1 e2 e3
    generalize l.length = L at *
    go_enter Try.func19, Try.ntmps19
    go_wp2_with fail
    refine C1.mono ?_
    rintro e w1 ⟨rfl, hb⟩
    go_wp2_with fail
    go_ret3
    exact ⟨rfl, hb⟩

end Go.Proofs.Yteknjkofmkigoaa
