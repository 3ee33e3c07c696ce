/- The walk of the law's ends. -/
import Derived.Test.YtlgkfhipobdcfabGreatDoorCg38
namespace Go.Proofs.YtlgkfhipobdcfabGreatDoor
open Go.RowKit

theorem pr_no (c : UInt8) (t : List UInt8) (h : c.toNat ≠ 45) : Lib.hasPrefix (c :: t) [45, 45] = false := by
  have hc : ¬ (45 : UInt8) = c := fun e => h (by rw [← e]; rfl)
  cases t <;> simp [Lib.hasPrefix, List.isPrefixOf, hc]
theorem pr_nil (c : UInt8) : Lib.hasPrefix [c] [45, 45] = false := by simp [Lib.hasPrefix, List.isPrefixOf]
theorem pr_two (c d : UInt8) (t : List UInt8) (h : d.toNat ≠ 45) : Lib.hasPrefix (c :: d :: t) [45, 45] = false := by
  have hd : ¬ (45 : UInt8) = d := fun e => h (by rw [← e]; rfl)
  simp [Lib.hasPrefix, List.isPrefixOf, hd]
/-- Up to i: no ';', no two signs of minus side by side. -/
structure NE (s : ByteArray) (i : Nat) : Prop where
  a : ∀ j (h : j < s.size), j < i → s[j].toNat ≠ 59
  b : ∀ p (h : p + 1 < s.size), p + 1 < i → ¬ (s[p].toNat = 45 ∧ s[p + 1].toNat = 45)
theorem NE.all {s : ByteArray} (h : NE s s.size) : (∀ x ∈ s.data.toList, x ≠ 59) ∧ ∀ p, Lib.hasPrefix (s.data.toList.drop p) [45, 45] = false := by
  have hlen : s.data.toList.length = s.size := Array.length_toList
  refine ⟨fun x hx e => ?_, fun p => ?_⟩
  · obtain ⟨j, hj, rfl⟩ := List.getElem_of_mem hx
    refine h.a j (by omega) (by omega) ?_
    have : s[j]'(by omega) = s.data.toList[j] := rfl
    rw [this, e]; rfl
  · by_cases h1 : p + 1 < s.size
    · have e0 : s.data.toList.drop p = s[p] :: s[p + 1] :: s.data.toList.drop (p + 2) := by
        rw [List.drop_eq_getElem_cons (by omega), List.drop_eq_getElem_cons (by omega)]; rfl
      rw [e0]
      by_cases h45 : s[p].toNat = 45
      · exact pr_two _ _ _ fun h46 => h.b p h1 h1 ⟨h45, h46⟩
      · exact pr_no _ _ h45
    · by_cases h2 : p < s.size
      · have e0 : s.data.toList.drop p = [s[p]] := by
          rw [List.drop_eq_getElem_cons (by omega), List.drop_eq_nil_of_le (by omega)]; rfl
        rw [e0, pr_nil]
      · rw [List.drop_eq_nil_of_le (by omega)]; decide

/-- What the law's ends tells. -/
inductive EB (s : ByteArray) (w : World) : Ending → World → Prop
  | yes : EB s w (.returned (.bool true)) w
  | no (h : (∀ x ∈ s.data.toList, x ≠ 59) ∧ ∀ p, Lib.hasPrefix (s.data.toList.drop p) [45, 45] = false) : EB s w (.returned (.bool false)) w

set_option maxRecDepth 20000 in
set_option maxHeartbeats 4000000 in
theorem ends_any (s : ByteArray) (w : World) (hs : s.size ≤ 9000) : Calls Tryz.prog 7 #[.string s] w fun e w' => EB s w e w' := by
  go_enter Tryz.func7, Tryz.ntmps7
  go_wp2_with fail
  go_loopw [3] (fun v3 wx => ∃ i : Nat, v3 = .int .i64 (i : Nat) ∧ i ≤ s.size ∧ wx = w ∧ Hid (NE s i)) (fun v3 _ => s.size - (intOf v3).toNat)
  case atStart => exact ⟨0, rfl, Nat.zero_le _, rfl, ⟨fun j _ h => absurd h (Nat.not_lt_zero j), fun p _ h => absurd h (Nat.not_lt_zero _)⟩⟩
  case round =>
    obtain ⟨i, rfl, hi, rfl, HN⟩ := hrel
    by_cases hlt : i < s.size
    case neg =>
      have h1 : ¬ (i : Int) < (s.size : Int) := by omega
      have HA : Hid ((∀ x ∈ s.data.toList, x ≠ 59) ∧ ∀ p, Lib.hasPrefix (s.data.toList.drop p) [45, 45] = false) := by
        have : i = s.size := by omega
        subst this
        exact HN.out.all
      clear HN
      go_wp2
      go_ret
      exact .no HA.out
    have h1 : (i : Int) < (s.size : Int) := by omega
    have wi : IntKind.i64.wrap ((i : Int) + 1) = (i : Int) + 1 := by rw [IntKind.wrap_i64]; omega
    have hms : s.size - (i + 1) < s.size - i := by omega
    obtain ⟨cn, hcn⟩ : ∃ cn, s[i].toNat = cn := ⟨_, rfl⟩
    by_cases h59 : cn = 59
    · have b59 : ((cn : Int) == 59) = true := by simp; omega
      clear HN h59
      go_wp2
      go_ret
      exact .yes
    have b59 : ((cn : Int) == 59) = false := by simp; omega
    have b59' : ¬ (cn : Int) = 59 := by omega
    by_cases h45 : cn = 45
    · have b45 : ((cn : Int) == 45) = true := by simp; omega
      have b45' : (cn : Int) = 45 := by omega
      cases i with
      | zero =>
        have HN2 : Hid (NE s 1) := ⟨(fun j h hj => (by obtain rfl : j = 0 := (by omega); rw [hcn]; exact h59)), (fun p h hp => (by omega))⟩
        clear HN h45 h59
        go_wp2_with fail
        go_round
        case rel => exact ⟨1, by first | rfl | simp, by omega, by first | rfl | trivial, HN2⟩
        case measure => first | omega | (simp only [intOf]; omega) | (simp; omega)
      | succ i' =>
        have wj : IntKind.i64.wrap (((i' + 1 : Nat) : Int) - 1) = (i' : Int) := by rw [IntKind.wrap_i64]; omega
        have wj' : IntKind.i64.wrap ((i' : Int) + 1 - 1) = (i' : Int) := by rw [IntKind.wrap_i64]; omega
        have hi' : i' < s.size := by omega
        have hi2 : (i' : Int) < (s.size : Int) := by omega
        have h0 : (0 : Int) < (i' : Int) + 1 := by omega
        obtain ⟨dn, hdn⟩ : ∃ dn, s[i'].toNat = dn := ⟨_, rfl⟩
        by_cases hd : dn = 45
        · have d45 : ((dn : Int) == 45) = true := by simp; omega
          have d45' : (dn : Int) = 45 := by omega
          clear HN h45 h59 hd
          go_wp2
          go_ret
          exact .yes
        · have HN2 : Hid (NE s (i' + 1 + 1)) := ⟨(fun j h hj => (by
            by_cases hji : j = i' + 1
            · subst hji; rw [hcn]; exact h59
            · exact HN.out.a j h (by omega))), (fun p h hp => (by
            by_cases hpi : p = i'
            · subst hpi; rw [hdn]; exact fun x => hd x.1
            · exact HN.out.b p h (by omega)))⟩
          have d45 : ((dn : Int) == 45) = false := by simp; omega
          have d45' : ¬ (dn : Int) = 45 := by omega
          clear HN h45 h59 hd
          go_wp2_with fail
          go_round
          case rel => exact ⟨i' + 1 + 1, by first | rfl | simp, by omega, by first | rfl | trivial, HN2⟩
          case measure => first | omega | (simp only [intOf]; omega) | (simp; omega)
    · have HN2 : Hid (NE s (i + 1)) := ⟨fun j h hj => by
          by_cases hji : j = i
          · subst hji; rw [hcn]; exact h59
          · exact HN.out.a j h (by omega), fun p h hp => by
          by_cases hpi : p + 1 = i
          · subst hpi; rw [hcn]; exact fun x => h45 x.2
          · exact HN.out.b p h (by omega)⟩
      have b45 : ((cn : Int) == 45) = false := by simp; omega
      have b45' : ¬ (cn : Int) = 45 := by omega
      clear HN h45 h59
      go_wp2_with fail
      go_round
      case rel => exact ⟨i + 1, by first | rfl | simp, by omega, by first | rfl | trivial, HN2⟩
      case measure => first | omega | (simp only [intOf]; omega) | (simp; omega)
end Go.Proofs.YtlgkfhipobdcfabGreatDoor
