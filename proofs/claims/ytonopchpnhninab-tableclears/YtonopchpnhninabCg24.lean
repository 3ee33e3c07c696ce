/- The walks of counts and full. -/
import Derived.Test.YtonopchpnhninabCg23
import Derived.Test.YtonopchpnhninabCg07
import Derived.Test.YtonopchpnhninabCg20
namespace Go.Proofs.Ytonopchpnhninab
open Go.RowKit

def cntF (F : Nat → V) (n : Int) : Nat → Nat
  | 0 => 0
  | i + 1 => cntF F n i + (if (F i).1 = 2 ∧ 1 ≤ (F i).2.1 ∧ (F i).2.1 ≤ n then 1 else 0)
theorem cntF_le (F : Nat → V) (n : Int) (i : Nat) : cntF F n i ≤ i := by
  induction i with
  | zero => exact Nat.le_refl _
  | succ i ih => rw [cntF]; split <;> omega
set_option maxRecDepth 20000 in
set_option maxHeartbeats 2000000 in
theorem counts_any {w : World} {B : Nat} {v : Value} {m : Nat} {F : Nat → V} (h : Lv w B v m F) (hm : m ≤ 200000) (n : Int) :
    Calls Try.prog 47 #[v, .int .i64 n] w fun e w' => e = .returned (.int .i64 (cntF F n m : Nat)) ∧ w' = w := by
  obtain ⟨a, c, rfl⟩ := h.form
  have HL : Hid (Lv w B (.slice a m c) m F) := h
  clear h
  go_enter Try.func47, Try.ntmps47
  go_wp2_with fail
  go_loopw [5, 6] (fun cw iw wr => ∃ i : Nat, iw = .int .i64 (i : Nat) ∧ cw = .int .i64 (cntF F n i : Nat) ∧ i ≤ m ∧ wr = w) (fun _ iw _ => m - (intOf iw).toNat)
  case atStart => exact ⟨0, rfl, rfl, by omega, rfl⟩
  case round =>
    obtain ⟨i, rfl, rfl, hi, hwr⟩ := hrel
    rw [hwr]
    by_cases hlt : i < m
    · have hlt' : (i : Int) < (m : Int) := by omega
      obtain ⟨g, c2, ha, _, _, _, y0, y1, y2⟩ := HL.out.at hlt
      obtain ⟨rfl, rfl⟩ : a = some ⟨g, 0, none⟩ ∧ c = c2 := by simpa using ha
      clear ha y2
      have hcl := cntF_le F n i
      have hwc : IntKind.i64.wrap ((cntF F n i : Int) + 1) = (cntF F n i : Int) + 1 := by rw [IntKind.wrap_i64]; omega
      have hs : cntF F n (i + 1) = cntF F n i + (if (F i).1 = 2 ∧ 1 ≤ (F i).2.1 ∧ (F i).2.1 ≤ n then 1 else 0) := rfl
      generalize cntF F n i = q at *
      by_cases h1 : (F i).1 = 2
      · rw [h1] at y0
        by_cases h2 : 1 ≤ (F i).2.1
        · by_cases h3 : (F i).2.1 ≤ n
          · rw [if_pos ⟨h1, h2, h3⟩] at hs
            clear h1
            go_wp2_with fail
            go_round
            case rel => exact ⟨i + 1, by go_num, by rw [hs]; go_num, by omega, trivial⟩
            case measure => simp [intOf]; omega
          · rw [if_neg (fun x => h3 x.2.2)] at hs
            clear h1
            go_wp2_with fail
            go_round
            case rel => exact ⟨i + 1, by go_num, by rw [hs]; rfl, by omega, trivial⟩
            case measure => simp [intOf]; omega
        · rw [if_neg (fun x => h2 x.2.1)] at hs
          clear h1
          go_wp2_with fail
          go_round
          case rel => exact ⟨i + 1, by go_num, by rw [hs]; rfl, by omega, trivial⟩
          case measure => simp [intOf]; omega
      · rw [if_neg (fun x => h1 x.1)] at hs
        have hb : ((F i).1 == 2) = false := by simpa using h1
        go_wp2_with fail
        go_round
        case rel => exact ⟨i + 1, by go_num, by rw [hs]; rfl, by omega, trivial⟩
        case measure => simp [intOf]; omega
    · obtain rfl : i = m := by omega
      have hlt' : ¬ (i : Int) < (i : Int) := by omega
      go_wp2_with fail
      go_ret
      exact ⟨rfl, rfl⟩

set_option maxRecDepth 20000 in
set_option maxHeartbeats 2000000 in
theorem full_any {w : World} {T A b a S : Nat} {t : TS} (h : Tm w T A b a S t) (ti : TI t.p) :
    Calls Try.prog 22 #[tp T] w fun e w' => e = .returned (.bool (decide (∀ i, i < t.p.z → t.p.g.K i ≠ nil))) ∧ Below w.heap.size w w' := by
  have CT := stats_any h
  have HH : Hid (Tm w T A b a S t) := h
  have hn := ti.le
  have hz := ti.rt.le
  have HK : Hid (∀ i, i < t.p.z → (t.p.g.K i).1 = 0 → t.p.g.K i = nil) := fun i hi e => by
    rcases ti.inv.key i hi with q | q
    · exact q
    · exact absurd e q.2.1
  unfold ts sv tp at CT
  have F0 := fun W => fld0 (t.p.n : Nat) (t.p.z : Nat) (t.p.g.f : Nat) t.hint W
  unfold sv at F0
  have hw1 : IntKind.i64.wrap ((t.p.n : Int) + 1) = (t.p.n : Int) + 1 := by rw [IntKind.wrap_i64]; omega
  clear h
  unfold tp
  go_enter Try.func22, Try.ntmps22
  go_wp2_with fail
  refine CT.mono ?_; rintro e w1 ⟨rfl, hb1⟩
  have HB1 : Hid (Below w.heap.size w w1) := hb1
  clear CT hb1
  go_wp2_with fail
  go_loopw [3] (fun jw wr => ∃ k : Nat, jw = .int .i64 ((t.p.n : Int) + 1 + k) ∧ k ≤ t.p.z ∧ Hid (∀ i, i < k → t.p.g.K i ≠ nil) ∧ Hid (Below w.heap.size w wr)) (fun jw _ => t.p.n + 1 + t.p.z - (intOf jw).toNat)
  case atStart => exact ⟨0, by simp, by omega, fun i hi => (by omega), HB1⟩
  case round =>
    obtain ⟨k, rfl, hk, HN, HB⟩ := hrel
    have CP := places_any (HH.out.below HB.out) hn hz
    unfold tp at CP
    by_cases hlt : k < t.p.z
    · have hle : (t.p.n : Int) + 1 + (k : Int) ≤ ((t.p.n + t.p.z : Nat) : Int) := by omega
      have CO := fun W (hW : Below w.heap.size w W) => pair_out (HH.out.below hW) hn hz k hlt
      unfold tp vv vl at CO
      have hwk : IntKind.i64.wrap ((t.p.n : Int) + 1 + (k : Int) + 1) = (t.p.n : Int) + 1 + (k : Int) + 1 := by rw [IntKind.wrap_i64]; omega
      go_wp2_with fail
      refine CP.mono ?_; rintro e w2 ⟨rfl, hb2⟩
      have HB2 : Hid (Below w.heap.size w w2) := bthen HB.out HB.out.size hb2
      clear hb2 CP
      go_wp2_with fail
      refine (CO _ HB2.out).mono ?_; rintro e w3 ⟨rfl, hb3⟩
      have HB3 : Hid (∀ o o', Below w.heap.size w ((w3.alloc o).alloc o')) := fun o o' => bthen (bthen HB2.out HB2.out.size hb3) (bthen HB2.out HB2.out.size hb3).size (b2 w3 o o')
      clear hb3 CO
      by_cases h0 : (t.p.g.K k).1 = 0
      · have hnil := HK.out k hlt h0
        have HD : Hid (decide (∀ i, i < t.p.z → t.p.g.K i ≠ nil) = false) := decide_eq_false (fun q => q k hlt hnil)
        have hb0 : ((t.p.g.K k).1 == 0) = true := by simp [h0]
        clear h0 hnil
        go_wp2_with fail
        go_ret
        exact ⟨(congrArg (fun q => Ending.returned (.bool q)) HD.out).symm, HB3.out _ _⟩
      · have hb0 : ((t.p.g.K k).1 == 0) = false := by simpa using h0
        have HNn : Hid (∀ i, i < k + 1 → t.p.g.K i ≠ nil) := fun i hi => by
          by_cases e : i = k
          · rw [e]; exact fun q => h0 (by rw [q]; rfl)
          · exact HN.out i (by omega)
        clear HN
        go_wp2_with fail
        go_round
        case rel => exact ⟨k + 1, by go_num, by omega, HNn, HB3.out _ _⟩
        case measure => simp [intOf]; omega
    · have hle : ¬ ((t.p.n : Int) + 1 + (k : Int) ≤ ((t.p.n + t.p.z : Nat) : Int)) := by omega
      have HD : Hid (decide (∀ i, i < t.p.z → t.p.g.K i ≠ nil) = true) := decide_eq_true (fun i hi => HN.out i (by omega))
      go_wp2_with fail
      refine CP.mono ?_; rintro e w2 ⟨rfl, hb2⟩
      have HB2 : Hid (Below w.heap.size w w2) := bthen HB.out HB.out.size hb2
      clear hb2 CP
      go_wp2_with fail
      go_ret
      exact ⟨(congrArg (fun q => Ending.returned (.bool q)) HD.out).symm, HB2.out⟩
end Go.Proofs.Ytonopchpnhninab

/- The walk of present. -/
namespace Go.Proofs.Ytonopchpnhninab
open Go.RowKit

/-- Who is present, place by place. -/
def prs (p : Pa) : Nat → List V
  | 0 => []
  | i + 1 => prs p i ++ (if (pairX p i).1 = 0 then [] else [pairK p i])
theorem prs_slots (p : Pa) : ∀ i, i ≤ p.n → prs p i = kA p.F i := by
  intro i
  induction i with
  | zero => intro _; rfl
  | succ i ih =>
    intro hi
    have e1 : pairX p i = p.F i := if_pos (by omega)
    have e2 : pairK p i = kn ((i : Int) + 1) := if_pos (by omega)
    rw [prs, kA, ih (by omega), e1, e2]
theorem prs_nodes (p : Pa) : ∀ i, prs p (p.n + i) = kA p.F p.n ++ kH p.g i := by
  intro i
  induction i with
  | zero => rw [Nat.add_zero, prs_slots p p.n (Nat.le_refl _)]; simp [kH]
  | succ i ih =>
    have e0 : p.n + i - p.n = i := by omega
    have e1 : pairX p (p.n + i) = p.g.X i := by rw [pairX, if_neg (show ¬ p.n + i < p.n by omega), e0]
    have e2 : pairK p (p.n + i) = p.g.K i := by rw [pairK, if_neg (show ¬ p.n + i < p.n by omega), e0]
    rw [← Nat.add_assoc, prs, kH, ih, e1, e2, List.append_assoc]
theorem prs_all (p : Pa) : prs p (p.n + p.z) = pres p := prs_nodes p p.z
theorem prs_len (p : Pa) (i : Nat) : (prs p i).length ≤ i := by
  induction i with
  | zero => simp [prs]
  | succ i ih => rw [prs, List.length_append]; split <;> simp <;> omega

theorem Lv.app2 {w : World} {B : Nat} {v : Value} {n : Nat} {F : Nat → V} (h : Lv w B v n F) {b : Nat} (x : V) (hx : Bx w b x) (hn : n ≤ 200000) (hB : B ≤ w.heap.size) :
    ∃ g c w', (Builtin.append_ #[44, 44] 44 #[v, .slice (some ⟨b, 0, none⟩) 1 1]).run Try.prog w = .ok (.slice (some ⟨g, 0, none⟩) (n + 1) c) w' ∧ Lv w' B (.slice (some ⟨g, 0, none⟩) (n + 1) c) (n + 1) (upd F n x) ∧ w.grownBy w' v.ownBlock ∧ (v.ownBlock = some g ∨ g = w.heap.size) ∧ g < w'.heap.size := by
  obtain ⟨i0, hi, hz0, hz1, hz2⟩ := info_parts info32
  obtain ⟨g, c, w', h1, h2, h3, h4, h5⟩ := run_append_lies (P := Try.prog) w 44 44 B 33 i0 (vl 0 0 ⟨#[]⟩) 3 32 Try.underlying44 hi hz0 hz1 hz2 rfl (by omega) v n (cellsV F n) h.own ⟨b, 0, none⟩ 1 1 [.int .i64 x.1, .int .i64 x.2.1, .string x.2.2] rfl (fun j u hu => by
    have hadd : (⟨b, 0, none⟩ : Addr).add j = ⟨b, j, none⟩ := by unfold Addr.add; split <;> simp_all
    rw [hadd]
    have hj : j < 3 := (List.getElem?_eq_some_iff.1 hu).1
    rcases lt3 hj with rfl | rfl | rfl
    · simp at hu; rw [← hu]; exact hx.c0
    · simp at hu; rw [← hu]; exact hx.c1
    · simp at hu; rw [← hu]; exact hx.c2) (by intro u hu; simp at hu; rcases hu with rfl | rfl | rfl <;> rfl) (by omega) (by simp only [maxLen]; omega) (by omega) hB _ rfl
  exact ⟨g, c, w', h1, ⟨by rw [← cellsV_snoc]; exact h2⟩, h3, h4, h5⟩

/-- The list F's first m are l. -/
def Is (F : Nat → V) (m : Nat) (l : List V) : Prop := l.length = m ∧ ∀ i, i < m → l[i]? = some (F i)
theorem Is.snoc {F : Nat → V} {m : Nat} {l : List V} (h : Is F m l) (x : V) : Is (upd F m x) (m + 1) (l ++ [x]) := by
  refine ⟨by simp [h.1], fun i hi => ?_⟩
  by_cases e : i = m
  · rw [e, upd_at, List.getElem?_append_right (by rw [h.1]; omega)]; simp [h.1]
  · rw [upd_ne _ _ e, List.getElem?_append_left (by rw [h.1]; omega)]; exact h.2 i (by omega)

/-- Pair, at any place. -/
theorem pair_at {w : World} {T A b a S : Nat} {t : TS} (h : Tm w T A b a S t) (hn : t.p.n ≤ 65536) (hz : t.p.z ≤ 65536) (i : Nat) (hi : i < t.p.n + t.p.z) :
    Calls Try.prog 20 #[tp T, .int .i64 ((i : Int) + 1)] w fun e w' => e = .returned (.tuple #[vv (pairK t.p i), vv (pairX t.p i)]) ∧ Below w.heap.size w w' := by
  unfold pairK pairX
  by_cases hq : i < t.p.n
  · rw [if_pos hq, if_pos hq]; exact pair_in h hn i hq
  · rw [if_neg hq, if_neg hq]
    have e : ((i : Int) + 1) = (t.p.n : Int) + 1 + ((i - t.p.n : Nat) : Int) := by omega
    rw [e]
    exact pair_out h hn hz (i - t.p.n) (by omega)

set_option maxRecDepth 20000 in
set_option maxHeartbeats 2000000 in
theorem present_any {w : World} {T A b a S : Nat} {t : TS} (h : Tm w T A b a S t) (ti : TI t.p) :
    Calls Try.prog 21 #[tp T] w fun e w' => ∃ v F, e = .returned v ∧ Lv w' w.heap.size v (pres t.p).length F ∧ Is F (pres t.p).length (pres t.p) ∧ Below w.heap.size w w' := by
  have HH : Hid (Tm w T A b a S t) := h
  have hn := ti.le
  have hz := ti.rt.le
  clear h
  unfold tp
  go_enter Try.func21, Try.ntmps21
  go_wp2_with fail
  go_loopw [3, 4] (fun lw jw wr => ∃ i m : Nat, jw = .int .i64 ((i : Int) + 1) ∧ i ≤ t.p.n + t.p.z ∧ m ≤ i ∧ Hid (∃ F, Lv wr w.heap.size lw m F ∧ Is F m (prs t.p i)) ∧ Hid (Below w.heap.size w wr)) (fun _ jw _ => 1 + (t.p.n + t.p.z) - (intOf jw).toNat)
  case atStart => exact ⟨0, 0, by go_num, by omega, by omega, ⟨fun _ => nil, Lv.nil _ _ _, rfl, fun i hi => (by omega)⟩, Below.refl _ _⟩
  case round =>
    obtain ⟨i, m, rfl, hi, hmi, HL, HB⟩ := hrel
    obtain ⟨F, hL, hI⟩ := HL.out
    obtain ⟨ak, ck, hvk⟩ := hL.form
    subst hvk
    have HLv : Hid (Lv wr w.heap.size (.slice ak m ck) m F) := hL
    have HIs : Hid (Is F m (prs t.p i)) := hI
    clear hL hI HL
    have CP := places_any (HH.out.below HB.out) hn hz
    unfold tp at CP
    by_cases hlt : i < t.p.n + t.p.z
    · have hle : (i : Int) + 1 ≤ ((t.p.n + t.p.z : Nat) : Int) := by omega
      have CO := fun W (hW : Below w.heap.size w W) => pair_at (HH.out.below hW) hn hz i hlt
      unfold tp vv vl at CO
      go_wp2_with fail
      refine CP.mono ?_; rintro e w2 ⟨rfl, hb2⟩
      have HB2 : Hid (Below w.heap.size w w2 ∧ Lv w2 w.heap.size (.slice ak m ck) m F) := ⟨bthen HB.out HB.out.size hb2, HLv.out.below hb2⟩
      clear hb2 CP
      go_wp2_with fail
      refine (CO _ HB2.out.1).mono ?_; rintro e w3 ⟨rfl, hb3⟩
      generalize hpk : pairK t.p i = k at *
      generalize hpx : pairX t.p i = x at *
      have b4 := b2 w3 (.cells #[.int .i64 k.1, .int .i64 k.2.1, .string k.2.2] 33) (.cells #[.int .i64 x.1, .int .i64 x.2.1, .string x.2.2] 33)
      have X4 := (Bx.made w3 k).below (b1 _ (.cells #[.int .i64 x.1, .int .i64 x.2.1, .string x.2.2] 33))
      have X4' : Bx ((w3.alloc (.cells #[.int .i64 k.1, .int .i64 k.2.1, .string k.2.2] 33)).alloc (.cells #[.int .i64 x.1, .int .i64 x.2.1, .string x.2.2] 33)) w3.heap.size k := X4
      obtain ⟨w4, hw4⟩ : ∃ w4, (w3.alloc (.cells #[.int .i64 k.1, .int .i64 k.2.1, .string k.2.2] 33)).alloc (.cells #[.int .i64 x.1, .int .i64 x.2.1, .string x.2.2] 33) = w4 := ⟨_, rfl⟩
      have e4 : (w3.alloc (.cells #[.int .i64 k.1, .int .i64 k.2.1, .string k.2.2] 33)).heap.size = w3.heap.size + 1 := by simp
      have xx : w4.cell? ⟨w3.heap.size + 1, 0, none⟩ = some (.int .i64 x.1) := by
        have := (Bx.made (w3.alloc (.cells #[.int .i64 k.1, .int .i64 k.2.1, .string k.2.2] 33)) x).c0
        rw [e4] at this
        rw [← hw4]; exact this
      rw [hw4] at b4 X4'
      have kc0 := X4'.c0
      have kc1 := X4'.c1
      have kc2 := X4'.c2
      have hb34 := bthen hb3 hb3.size b4
      have HB4 : Hid (Below w.heap.size w w4 ∧ Lv w4 w.heap.size (.slice ak m ck) m F) := ⟨bthen HB2.out.1 HB2.out.1.size hb34, HB2.out.2.below hb34⟩
      generalize hs3 : w3.heap.size = s3 at *
      clear hb3 CO b4 X4 hb34 X4'
      by_cases h0 : x.1 = 0
      · have hb0 : (x.1 != 0) = false := by simp [h0]
        have HE : Hid (prs t.p (i + 1) = prs t.p i) := by show _ = _; rw [prs, hpx, if_pos h0, List.append_nil]
        clear h0
        go_wp2_with fail
        go_round
        case rel => exact ⟨i + 1, m, by go_num, by omega, by omega, ⟨F, HB4.out.2, by rw [HE.out]; exact HIs.out⟩, HB4.out.1⟩
        case measure => simp [intOf]; omega
      · have hb0 : (x.1 != 0) = true := by simpa using h0
        have HE : Hid (prs t.p (i + 1) = prs t.p i ++ [k]) := by show _ = _; rw [prs, hpx, if_neg h0, hpk]
        have b5 := b1 w4 (.cells #[.int .i64 k.1, .int .i64 k.2.1, .string k.2.2] 33)
        have X5 : Bx (w4.alloc (.cells #[.int .i64 k.1, .int .i64 k.2.1, .string k.2.2] 33)) w4.heap.size k := Bx.made w4 k
        have hBB := HB4.out.1.size
        obtain ⟨g, c, w6, hr, l6, g6, at6, lt6⟩ := (HB4.out.2.below b5).app2 k X5 (by omega) (by have := b5.size; omega)
        have HB6 : Hid (Below w.heap.size w w6 ∧ Lv w6 w.heap.size (.slice (some ⟨g, 0, none⟩) (m + 1) c) (m + 1) (upd F m k)) := by
          refine ⟨bthen HB4.out.1 HB4.out.1.size b5 |>.trans ⟨g6.os, g6.tape, g6.output, g6.size, fun y hy => g6.block y (by have := b5.size; omega) (fun e => ?_)⟩, l6⟩
          have := (HB4.out.2.own.lt y e.symm).1
          omega
        clear h0 b5 X5 l6 g6 at6 lt6
        go_wp2_with (at_builtin; refine wp_app rfl _ _ 44 rfl 44 rfl _ _ rfl rfl hr ?_)
        go_round
        case rel => exact ⟨i + 1, m + 1, by go_num, by omega, by omega, ⟨_, HB6.out.2, by rw [HE.out]; exact HIs.out.snoc k⟩, HB6.out.1⟩
        case measure => simp [intOf]; omega
    · have hle : ¬ ((i : Int) + 1 ≤ ((t.p.n + t.p.z : Nat) : Int)) := by omega
      have HE : Hid (i = t.p.n + t.p.z) := by show _ = _; omega
      go_wp2_with fail
      refine CP.mono ?_; rintro e w2 ⟨rfl, hb2⟩
      have HB2 : Hid (Below w.heap.size w w2 ∧ Lv w2 w.heap.size (.slice ak m ck) m F) := ⟨bthen HB.out HB.out.size hb2, HLv.out.below hb2⟩
      clear hb2 CP
      go_wp2_with fail
      go_ret
      have hI := HIs.out
      rw [HE.out, prs_all] at hI
      have hl := hI.1
      rw [hl]
      exact ⟨_, F, rfl, HB2.out.2, hI, HB2.out.1⟩
end Go.Proofs.Ytonopchpnhninab

/- The walk of fits. -/
namespace Go.Proofs.Ytonopchpnhninab
open Go.RowKit

theorem Is.eq {F : Nat → V} {m : Nat} {l : List V} (h : Is F m l) : l = (List.range m).map F := by
  refine List.ext_getElem? fun i => ?_
  by_cases hi : i < m
  · rw [h.2 i hi, List.getElem?_map, List.getElem?_range hi]; rfl
  · rw [List.getElem?_eq_none (by rw [h.1]; omega), List.getElem?_eq_none (by simp; omega)]
theorem ints_cons (k : V) (l : List V) : ints (k :: l) = if k.1 = 2 then k.2.1 :: ints l else ints l := by
  unfold ints
  rw [List.filterMap_cons]
  by_cases q : k.1 = 2
  · rw [if_pos q, if_pos q]
  · rw [if_neg q, if_neg q]
theorem cntF_wi (F : Nat → V) (n : Int) (m : Nat) : (cntF F n m : Int) = C.wi (ints ((List.range m).map F)) n := by
  induction m with
  | zero => simp [cntF, ints, C.wi]
  | succ m ih =>
    rw [cntF, List.range_succ, List.map_append, ints_app]
    have ew : C.wi (ints ((List.range m).map F) ++ ints ([m].map F)) n = C.wi (ints ((List.range m).map F)) n + C.wi (ints [F m]) n := by simp [C.wi]
    rw [ew, ← ih]
    have : C.wi (ints [F m]) n = (if (F m).1 = 2 ∧ 1 ≤ (F m).2.1 ∧ (F m).2.1 ≤ n then 1 else 0 : Nat) := by
      rw [ints_cons]
      by_cases q : (F m).1 = 2
      · rw [if_pos q]
        by_cases q2 : 1 ≤ (F m).2.1 ∧ (F m).2.1 ≤ n
        · rw [if_pos ⟨q, q2⟩]; simp [C.wi, ints, q2]
        · rw [if_neg (fun x => q2 x.2)]
          simp only [C.wi, ints, List.filterMap_nil, List.countP_singleton, decide_eq_true_eq]
          rw [if_neg q2]
      · rw [if_neg q, if_neg (fun x => q x.1)]; simp [C.wi, ints]
    omega
theorem Is.wi {F : Nat → V} {m : Nat} {l : List V} (h : Is F m l) (n : Int) : (cntF F n m : Int) = C.wi (ints l) n := by rw [cntF_wi, ← h.eq]
theorem and_pow {z : Nat} (hz : z = 0 ∨ pw z = true) : bits .and .i64 (z : Int) ((z : Int) - 1) = 0 := by
  rcases hz with rfl | hz
  · kernel_rfl
  · have hb := pw_bounds _ hz
    have e : ((z : Int) - 1) = ((z - 1 : Nat) : Int) := by omega
    rw [e, i64_and_nat z (z - 1) (by omega) (by omega)]
    simp only [pw, Bool.and_eq_true, decide_eq_true_eq] at hz
    have := hz.2
    simp only [Int.toNat_natCast] at this
    rw [this]; rfl

/-- What fits asks, of a list that the sizes A, Z fit. -/
structure Ft (c : Int → Nat) (m A Z : Nat) : Prop where
  la : A ≤ 65536
  lz : Z ≤ 65536
  lm : m ≤ 200000
  cl : ∀ n, c n ≤ m
  aa : bits .and .i64 (A : Int) ((A : Int) - 1) = 0
  az : bits .and .i64 (Z : Int) ((Z : Int) - 1) = 0
  half : A ≠ 0 → A < 2 * c A
  most : ∀ j, j ≤ 16 → A < 2 ^ j → 2 * c ((2 ^ j : Nat) : Int) ≤ 2 ^ j
  rest0 : m - c A = 0 → Z = 0
  rest1 : m - c A ≠ 0 → m - c A ≤ Z ∧ Z / 2 < m - c A
theorem Fits.ft {l : List V} {A Z : Nat} (h : Fits l A Z) (hk : ∀ k, k ∈ l → KOK k) {F : Nat → V} {m : Nat} (hi : Is F m l) (hm : m ≤ 200000) : Ft (fun n => cntF F n m) m A Z := by
  have hout := outK_cnt A l hk
  have hlen := ints_len l
  have hw := hi.wi (A : Nat)
  have hml := hi.1
  have hrest : outK A l = m - cntF F (A : Nat) m := by omega
  have hup := h.up
  have hz : Z ≤ 65536 := h.z.le
  refine ⟨h.a, hz, hm, fun n => cntF_le F n m, and_pow ?_, and_pow h.z, fun q => ?_, fun j hj q => ?_, fun q => ?_, fun q => ?_⟩
  · rcases h.pow with q | ⟨i, q1, q2⟩
    · exact .inl q
    · right; rw [q2]; exact pw_pow i q1
  · have := h.dense.half (by omega)
    show A < 2 * cntF F (A : Nat) m
    omega
  · have := h.dense.most j hj (by
      have : ((2 : Int) ^ j) = ((2 ^ j : Nat) : Int) := by simp
      rw [this]; omega)
    have e : ((2 : Int) ^ j) = ((2 ^ j : Nat) : Int) := by simp
    rw [e] at this
    have h2 := hi.wi ((2 ^ j : Nat) : Int)
    show 2 * cntF F ((2 ^ j : Nat) : Int) m ≤ 2 ^ j
    omega
  · have q' : m - cntF F (A : Nat) m = 0 := q
    rw [hrest, q'] at hup
    have : C.up2 ((0 : Nat) : Int) = 0 := by simp [C.up2]
    omega
  · have q' : m - cntF F (A : Nat) m ≠ 0 := q
    rw [hrest] at hup
    have hr := h.room
    rw [hrest] at hr
    have hc : C.up2 ((m - cntF F (A : Nat) m : Nat) : Int) = C.cl ((m - cntF F (A : Nat) m : Nat) : Int) := by unfold C.up2; rw [if_neg (by omega)]
    obtain ⟨_, c1, c2, _⟩ := C.cl_facts ((m - cntF F (A : Nat) m : Nat) : Int) (by omega) (by omega)
    rw [hc] at hup
    refine ⟨hr, ?_⟩
    show Z / 2 < m - cntF F (A : Nat) m
    rw [← hup] at c2
    omega
end Go.Proofs.Ytonopchpnhninab
