/- The walk of the reference's Dump. -/
import Derived.Test.YtbkgbojfjijalaaRda
namespace Go.Proofs.Ytbkgbojfjijalaa
open Go.RowKit

set_option maxRecDepth 100000 in
set_option maxHeartbeats 8000000 in
theorem rdump_any {S ka va ca z : Nat} {g : G} {cb : Nat → Nat} (w : World) (h : Rp w S ka va ca z g cb) (hi : Inv z (pl z) KOK g) (hz : Rt z) :
    Calls Try.prog 24 #[pp S] w fun e w' => e = .returned (.slice (some ⟨w.heap.size, 0, none⟩) z z) ∧ Rc w' w.heap.size z (nf (pl z) g) ∧ w.heap.size < w'.heap.size ∧ Below w.heap.size w w' := by
  have hzb := hz.le
  have mk := make_row z hzb w
  have s0 := h.s0
  have D1 := Ds.made h
  have HI : Hid _ := hi
  have HPL : Hid (0 < z → ∀ k, KOK k → pl z k < z) := fun h0 k _ => pl_lt (hz.resolve_left (by omega)) k
  obtain ⟨W1, hW1⟩ : ∃ W1, w.alloc (.cells (zeros7 z) 56) = W1 := ⟨_, rfl⟩
  rw [hW1] at mk D1
  have HD1 : Hid _ := D1
  clear h hi hz hW1 D1
  obtain ⟨D, hD⟩ : ∃ D, w.heap.size = D := ⟨_, rfl⟩
  have HSZ : Hid (w.heap.size = D) := hD
  rw [hD] at mk HD1 ⊢
  clear hD
  unfold pp
  go_enter Try.func24, Try.ntmps24
  go_wp2_with fail
  go_loopw [4] (fun iw wr => ∃ i : Nat, iw = .int .i64 (i : Nat) ∧ i ≤ z ∧ Hid (Ds w wr D S ka va ca z g cb (kf g i))) (fun iw _ => z - (intOf iw).toNat)
  case atStart => exact ⟨0, rfl, by omega, HD1⟩
  case round =>
    obtain ⟨i, rfl, hil, HDi⟩ := hrel
    clear HD1 mk s0
    by_cases hlt : i < z
    · have hlt' : (i : Int) < (z : Int) := by omega
      have q0 := HDi.out.rp.s0
      have q1 := HDi.out.rp.s1
      obtain ⟨x0, x1, x2⟩ := HDi.out.rp.k.at hlt
      obtain ⟨y0, y1, y2⟩ := HDi.out.rp.v.at hlt
      have c0 : wr.cell? ⟨D, i * 7, none⟩ = some (kf g i i 0) := HDi.out.rc.c i hlt 0 (by omega)
      have c1 := HDi.out.rc.c i hlt 1 (by omega)
      have c2 := HDi.out.rc.c i hlt 2 (by omega)
      have f0 := HDi.out.fd
      have HA := HDi.out.setA hlt
      obtain ⟨W2, hW2⟩ : ∃ W2, setA wr D i (g.K i) = W2 := ⟨_, rfl⟩
      rw [hW2] at HA
      have r0 := HA.rp.s0
      have r1 := HA.rp.s1
      obtain ⟨u0, u1, u2⟩ := HA.rp.k.at hlt
      obtain ⟨v0, v1, v2⟩ := HA.rp.v.at hlt
      have c3 := HA.rc.c i hlt 3 (by omega)
      have c4 := HA.rc.c i hlt 4 (by omega)
      have c5 := HA.rc.c i hlt 5 (by omega)
      have f1 := HA.fd
      have HB := HA.setB hlt
      obtain ⟨W3, hW3⟩ : ∃ W3, setB W2 D i (g.X i) = W3 := ⟨_, rfl⟩
      rw [hW3] at HB
      have HB3 : Hid _ := HB
      unfold setA at hW2
      unfold setB at hW3
      clear HA HB
      go_wp2_with fail
      go_region
      all_goals
        go_wp2_with fail
        go_round
        case rel => exact ⟨i + 1, by go_num, by omega, HB3.out.drew⟩
        case measure => simp [intOf]; omega
    · have hlt' : ¬ (i : Int) < (z : Int) := by omega
      have hiz : i = z := by omega
      subst hiz
      have HL : Hid _ := HDi.out.links (pl i)
      clear HDi hlt
      go_wp2_with fail
      go_loopw [5] (fun iw wr => ∃ c : Nat, iw = .int .i64 (c : Nat) ∧ c ≤ i ∧ Hid (Ds w wr D S ka va ca i g cb (lf (pl i) g c 0))) (fun iw _ => i - (intOf iw).toNat)
      case atStart => exact ⟨0, rfl, by omega, HL⟩
      case round =>
        obtain ⟨c, rfl, hcl, HC⟩ := hrel
        clear HL
        have q2 := HC.out.rp.s2
        by_cases hc : c < i
        · have hc' : (c : Int) < (i : Int) := by omega
          obtain ⟨u, hu, hul⟩ := HC.out.rp.c c hc
          rcases hul with ⟨he, rfl⟩ | ⟨cap, hne, rfl, hcb, hcf, hcc⟩
          · have HE : Hid _ := HC.out.endL HI.out hc (by rw [he]; simp)
            clear he HC
            go_wp2_with fail
            go_loopw [7] (fun iw wr' => iw = .int .i64 (0 : Nat) ∧ wr' = wr) (fun iw _ => 0)
            case atStart => exact ⟨rfl, rfl⟩
            case round =>
              obtain ⟨rfl, rfl⟩ := hrel
              go_wp2_with fail
              go_round
              case rel => exact ⟨c + 1, by go_num, by omega, HE⟩
              case measure => simp [intOf]; omega
          · have hlen : (g.C c).length ≤ i := nodup_len (HI.out.nd c hc) (fun x hx => (HI.out.cok c hc x hx).1)
            have hl0 : 0 < (g.C c).length := List.length_pos_iff.2 hne
            have HXZ : Hid (∀ t, t < (g.C c).length → (g.C c).getD t 0 < i) := fun t ht => (HI.out.cok c hc _ (by simp [List.getD, ht])).1
            have HSET : Hid (∀ k wr', k + 1 < (g.C c).length → Ds w wr' D S ka va ca i g cb (lf (pl i) g c k) → Ds w (wr'.setCell ⟨D, (g.C c).getD k 0 * 7 + 6, none⟩ (.int .i64 (((g.C c).getD (k + 1) 0 : Nat) - ((g.C c).getD k 0 : Nat)))) D S ka va ca i g cb (lf (pl i) g c (k + 1))) := fun k wr' hk hD => hD.setL HI.out hc hk
            have HEND : Hid (∀ k wr', (g.C c).length ≤ k + 1 → Ds w wr' D S ka va ca i g cb (lf (pl i) g c k) → Ds w wr' D S ka va ca i g cb (lf (pl i) g (c + 1) 0)) := fun k wr' hk hD => hD.endL HI.out hc hk
            have HCC : Hid (∀ wr' F, Ds w wr' D S ka va ca i g cb F → ∀ t, t < (g.C c).length → wr'.cell? ⟨cb c, t, none⟩ = some (.int .i64 (((g.C c).getD t 0 : Nat) : Int))) := fun wr' F hD t ht => by
              obtain ⟨u', hu', hul'⟩ := hD.rp.c c hc
              rcases hul' with ⟨e, _⟩ | ⟨_, _, _, _, _, q⟩
              · exact absurd e hne
              · exact q t ht
            clear hne hcb hcf hcc
            obtain ⟨l, hl⟩ : ∃ l, g.C c = l := ⟨_, rfl⟩
            rw [hl] at hlen hl0 HXZ HSET HEND HCC hu
            clear hl
            go_wp2_with fail
            go_loopw [7] (fun iw wr' => ∃ k : Nat, iw = .int .i64 (k : Nat) ∧ k + 1 ≤ l.length ∧ Hid (Ds w wr' D S ka va ca i g cb (lf (pl i) g c k))) (fun iw _ => l.length - (intOf iw).toNat)
            case atStart => exact ⟨0, rfl, by omega, HC⟩
            case round =>
              obtain ⟨k, rfl, hkl, HK⟩ := hrel
              clear HC
              by_cases hk : k + 1 < l.length
              · have hk' : (k : Int) < (l.length : Int) - 1 := by omega
                have a0 := HCC.out wr _ HK.out k (by omega)
                have a1 := HCC.out wr _ HK.out (k + 1) hk
                have b0 := HXZ.out k (by omega)
                have b1 := HXZ.out (k + 1) hk
                have HN : Hid _ := HSET.out k wr hk HK.out
                have l6 := HK.out.rc.c (l.getD k 0) b0 6 (by omega)
                have fd := HK.out.fd
                generalize l.getD k 0 = x at *
                generalize l.getD (k + 1) 0 = y at *
                have b0' : (x : Int) < (i : Int) := by omega
                have hk1 : (k : Int) < (l.length : Int) := by omega
                have hk2 : (k : Int) + 1 < (l.length : Int) := by omega
                clear HK
                go_wp2_with fail
                go_region
                all_goals
                  go_wp2_with fail
                  go_round
                  case rel => exact ⟨k + 1, by go_num, by omega, HN.out.drew⟩
                  case measure => simp [intOf]; omega
              · have hk' : ¬ (k : Int) < (l.length : Int) - 1 := by omega
                have HE : Hid _ := HEND.out k wr (by omega) HK.out
                clear HK hk
                go_wp2_with fail
                go_round
                case rel => exact ⟨c + 1, by go_num, by omega, HE⟩
                case measure => simp [intOf]; omega
        · have hc' : ¬ (c : Int) < (i : Int) := by omega
          have hci : c = i := by omega
          subst hci
          have HF : Hid (Rc wr D c (nf (pl c) g) ∧ D < wr.heap.size ∧ Below D w wr) := ⟨by
            by_cases h0 : 0 < c
            · exact HC.out.done HI.out (HPL.out h0)
            · exact ⟨fun i hi => by omega⟩, HC.out.lt, HC.out.kp.below (HSZ.out ▸ Nat.le_refl _) (fun g hg => hg)⟩
          clear HC
          go_wp2_with fail
          go_ret
          exact ⟨rfl, HF.out⟩
end Go.Proofs.Ytbkgbojfjijalaa
