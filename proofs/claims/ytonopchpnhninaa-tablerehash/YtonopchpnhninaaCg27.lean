/- The walk of fits, on. -/
import Derived.Test.YtonopchpnhninaaCg26
import Derived.Test.YtonopchpnhninaaCg22
import Derived.Test.YtonopchpnhninaaCg19
import Derived.Test.YtonopchpnhninaaCg20
namespace Go.Proofs.Ytonopchpnhninaa
open Go.RowKit

set_option maxRecDepth 20000 in
set_option maxHeartbeats 4000000 in
theorem fits_any {w : World} {B : Nat} {v : Value} {m : Nat} {F : Nat → V} (h : Lv w B v m F) {A Z f : Nat} {hint : Int} (ft : Ft (fun n => cntF F n m) m A Z) :
    Calls Try.prog 16 #[sv (A : Nat) (Z : Nat) (f : Nat) hint, v] w fun e w' => e = .returned (.bool true) ∧ Below w.heap.size w w' := by
  obtain ⟨a, c, rfl⟩ := h.form
  have la := ft.la
  have lz := ft.lz
  have lm := ft.lm
  have CC := fun W (hW : Lv W B (.slice a m c) m F) (n : Int) => counts_any hW lm n
  have R0 := R4.made w (.int .i64 (A : Nat)) (.int .i64 (Z : Nat)) (.int .i64 (f : Nat)) (.int .i64 hint) 42
  have B0 := b1 w (.cells #[.int .i64 (A : Nat), .int .i64 (Z : Nat), .int .i64 (f : Nat), .int .i64 hint] 42)
  obtain ⟨W0, hW0⟩ : ∃ W0, w.alloc (.cells #[.int .i64 (A : Nat), .int .i64 (Z : Nat), .int .i64 (f : Nat), .int .i64 hint] 42) = W0 := ⟨_, rfl⟩
  rw [hW0] at R0 B0
  have HL0 : Hid (Lv W0 B (.slice a m c) m F) := h.below B0
  have HB0 : Hid (Below w.heap.size w W0) := B0
  have c0 := R0.c0
  have c1 := R0.c1
  have hca : cntF F (A : Nat) m ≤ m := ft.cl A
  have haa := ft.aa
  have haz := ft.az
  have HFT : Hid (Ft (fun n => cntF F n m) m A Z) := ft
  have half : A ≠ 0 → A < 2 * cntF F (A : Nat) m := ft.half
  have C1 := fun i : Nat => CC (W0.drewN i) (HL0.out.below (bdrew _ _ i)) (A : Nat)
  have C2 := fun W (hW : Below W0.heap.size W0 W) => CC W (HL0.out.below hW) (A : Nat)
  have HCC : Hid (∀ W, Below W0.heap.size W0 W → ∀ n : Int, Calls Try.prog 37 #[.slice a m c, .int .i64 n] W fun e w' => e = .returned (.int .i64 (cntF F n m : Nat)) ∧ w' = W) := fun W hW n => CC W (HL0.out.below hW) n
  clear CC
  have HC0 : Hid (∀ W, Below W0.heap.size W0 W → W.cell? ⟨w.heap.size, 0, none⟩ = some (.int .i64 (A : Nat)) ∧ W.cell? ⟨w.heap.size, 1, none⟩ = some (.int .i64 (Z : Nat))) := fun W hW => ⟨(R0.below hW).c0, (R0.below hW).c1⟩
  have HBW : Hid (∀ W, Below W0.heap.size W0 W → Below w.heap.size w W) := fun W hW => bthen B0 B0.size hW
  generalize hca' : cntF F (A : Nat) m = ca at *
  have hw0 : IntKind.i64.wrap ((m : Int) - (ca : Int)) = ((m - ca : Nat) : Int) := by rw [IntKind.wrap_i64]; omega
  have hw1 : IntKind.i64.wrap ((A : Int) - 1) = (A : Int) - 1 := by rw [IntKind.wrap_i64]; omega
  have hw2 : IntKind.i64.wrap (2 * (ca : Int)) = 2 * (ca : Int) := by rw [IntKind.wrap_i64]; omega
  have hw3 : IntKind.i64.wrap ((Z : Int) - 1) = (Z : Int) - 1 := by rw [IntKind.wrap_i64]; omega
  clear h B0 R0 ft
  generalize hsz : w.heap.size = N at *
  unfold sv
  go_enter Try.func16, Try.ntmps16
  go_upto_region 1 with fail
  go_cut [5, 6] from 8 to 16 (fun aw rw wx => aw = .int .i64 (A : Nat) ∧ rw = .int .i64 ((m - ca : Nat) : Int) ∧ Hid (Below W0.heap.size W0 wx))
  case first =>
    go_quiet (exact Calls.quiet_of_same (C1 _))
    go_wp2_with fail
    go_meet
    exact ⟨rfl, rfl, bdrew _ _ _⟩
  case rest =>
    obtain ⟨rfl, rfl, HB⟩ := hcut
    obtain ⟨d0, d1⟩ := HC0.out wc HB.out
    have CA := C2 wc HB.out
    have HBl : Hid (Below N w wc) := HBW.out wc HB.out
    have HR0 : Hid (m - ca = 0 → Z = 0) := fun q => HFT.out.rest0 (by show m - cntF F (A : Nat) m = 0; rw [hca']; exact q)
    have HR1 : Hid (m - ca ≠ 0 → m - ca ≤ Z ∧ Z / 2 < m - ca) := fun q => by
      have := HFT.out.rest1 (by show m - cntF F (A : Nat) m ≠ 0; rw [hca']; exact q)
      have e : m - cntF F (A : Nat) m ≤ Z ∧ Z / 2 < m - cntF F (A : Nat) m := this
      rw [hca'] at e; exact e
    clear HC0 HBW c0 c1 hW0 C1 C2 HL0 HB0
    by_cases hA0 : A = 0
    · have hA0' : ¬ (0 : Int) < (A : Int) := by omega
      clear half hA0
      go_wp2_with fail
      go_loopw [7] (fun pw wr => ∃ q j : Nat, pw = .int .i64 (q : Nat) ∧ q = 2 ^ j ∧ j ≤ 17 ∧ wr = wc) (fun pw _ => 131072 - (intOf pw).toNat)
      case atStart => exact ⟨1, 0, rfl, rfl, by omega, rfl⟩
      case round =>
        obtain ⟨q, j, rfl, hq, hj, hwr⟩ := hrel
        rw [hwr]
        have hqp : 1 ≤ q := by rw [hq]; exact Nat.one_le_two_pow
        by_cases hle : q ≤ 65536
        · have hle' : (q : Int) ≤ 65536 := by omega
          have hj16 : j ≤ 16 := by
            rcases Nat.lt_or_ge 16 j with x | x
            · have := Nat.pow_le_pow_right (n := 2) (by omega) (show 17 ≤ j from x)
              omega
            · exact x
          have hwq : IntKind.i64.wrap ((q : Int) * 2) = ((q * 2 : Nat) : Int) := by rw [IntKind.wrap_i64]; omega
          have hq2 : Hid (q * 2 = 2 ^ (j + 1)) := by show _ = _; rw [hq, Nat.pow_succ]
          by_cases hgt : A < q
          · have hgt' : (A : Int) < (q : Int) := by omega
            have hms : 2 * cntF F (q : Nat) m ≤ q := by have := HFT.out.most j hj16 (by omega); rw [← hq] at this; exact this
            have CQ := HCC.out wc HB.out (q : Nat)
            have hcq : cntF F (q : Nat) m ≤ m := HFT.out.cl q
            generalize cntF F (q : Nat) m = cq at *
            have hwc : IntKind.i64.wrap (2 * (cq : Int)) = 2 * (cq : Int) := by rw [IntKind.wrap_i64]; omega
            have hng : ¬ ((q : Int) < 2 * (cq : Int)) := by omega
            clear hq hms
            go_wp2_with fail
            refine CQ.mono ?_; rintro e w5 ⟨rfl, hw5⟩; rw [hw5]; clear hw5 CQ
            go_wp2_with fail
            go_round
            case rel => exact ⟨q * 2, j + 1, rfl, hq2.out, by omega, trivial⟩
            case measure => simp [intOf]; omega
          · have hgt' : ¬ (A : Int) < (q : Int) := by omega
            clear hq
            go_wp2_with fail
            go_round
            case rel => exact ⟨q * 2, j + 1, rfl, hq2.out, by omega, trivial⟩
            case measure => simp [intOf]; omega
        · have hle' : ¬ (q : Int) ≤ 65536 := by omega
          clear hq
          by_cases hr : m - ca = 0
          · have hZ : Z = 0 := HR0.out hr
            have hr' : (((m - ca : Nat) : Int) == 0) = true := by rw [hr]; rfl
            have hZ' : ((Z : Int) == 0) = true := by rw [hZ]; rfl
            generalize ((m - ca : Nat) : Int) = rest at *
            clear hr hZ
            go_wp2_with fail
            go_ret
            exact ⟨rfl, HBl.out⟩
          · obtain ⟨r1, r2⟩ := HR1.out hr
            obtain ⟨rs, hrs⟩ : ∃ rs : Nat, m - ca = rs := ⟨_, rfl⟩
            rw [hrs] at hr r1 r2 ⊢
            have hr' : ((rs : Int) == 0) = false := by simp; omega
            have hr2 : (0 : Int) < (rs : Int) := by omega
            have hr3 : (rs : Int) ≤ (Z : Int) := by omega
            have hr5 : (Z : Int) / 2 < (rs : Int) := by omega
            clear hr
            by_cases h1 : Z = 1
            · have h1' : ((Z : Int) == 1) = true := by rw [h1]; rfl
              clear h1
              go_wp2_with fail
              go_ret
              exact ⟨rfl, HBl.out⟩
            · have h1' : ((Z : Int) == 1) = false := by simp; omega
              clear h1
              go_wp2_with fail
              go_ret
              exact ⟨rfl, HBl.out⟩
    · have hA0' : (0 : Int) < (A : Int) := by omega
      have hh := half hA0
      have hh' : ¬ 2 * (ca : Int) ≤ (A : Int) := by omega
      clear half hA0 hh
      go_wp2_with fail
      refine CA.mono ?_; rintro e w4 ⟨rfl, hw4⟩; rw [hw4]; clear hw4 CA
      go_wp2_with fail
      go_loopw [7] (fun pw wr => ∃ q j : Nat, pw = .int .i64 (q : Nat) ∧ q = 2 ^ j ∧ j ≤ 17 ∧ wr = wc) (fun pw _ => 131072 - (intOf pw).toNat)
      case atStart => exact ⟨1, 0, rfl, rfl, by omega, rfl⟩
      case round =>
        obtain ⟨q, j, rfl, hq, hj, hwr⟩ := hrel
        rw [hwr]
        have hqp : 1 ≤ q := by rw [hq]; exact Nat.one_le_two_pow
        by_cases hle : q ≤ 65536
        · have hle' : (q : Int) ≤ 65536 := by omega
          have hj16 : j ≤ 16 := by
            rcases Nat.lt_or_ge 16 j with x | x
            · have := Nat.pow_le_pow_right (n := 2) (by omega) (show 17 ≤ j from x)
              omega
            · exact x
          have hwq : IntKind.i64.wrap ((q : Int) * 2) = ((q * 2 : Nat) : Int) := by rw [IntKind.wrap_i64]; omega
          have hq2 : Hid (q * 2 = 2 ^ (j + 1)) := by show _ = _; rw [hq, Nat.pow_succ]
          by_cases hgt : A < q
          · have hgt' : (A : Int) < (q : Int) := by omega
            have hms : 2 * cntF F (q : Nat) m ≤ q := by have := HFT.out.most j hj16 (by omega); rw [← hq] at this; exact this
            have CQ := HCC.out wc HB.out (q : Nat)
            have hcq : cntF F (q : Nat) m ≤ m := HFT.out.cl q
            generalize cntF F (q : Nat) m = cq at *
            have hwc : IntKind.i64.wrap (2 * (cq : Int)) = 2 * (cq : Int) := by rw [IntKind.wrap_i64]; omega
            have hng : ¬ ((q : Int) < 2 * (cq : Int)) := by omega
            clear hq hms
            go_wp2_with fail
            refine CQ.mono ?_; rintro e w5 ⟨rfl, hw5⟩; rw [hw5]; clear hw5 CQ
            go_wp2_with fail
            go_round
            case rel => exact ⟨q * 2, j + 1, rfl, hq2.out, by omega, trivial⟩
            case measure => simp [intOf]; omega
          · have hgt' : ¬ (A : Int) < (q : Int) := by omega
            clear hq
            go_wp2_with fail
            go_round
            case rel => exact ⟨q * 2, j + 1, rfl, hq2.out, by omega, trivial⟩
            case measure => simp [intOf]; omega
        · have hle' : ¬ (q : Int) ≤ 65536 := by omega
          clear hq
          by_cases hr : m - ca = 0
          · have hZ : Z = 0 := HR0.out hr
            have hr' : (((m - ca : Nat) : Int) == 0) = true := by rw [hr]; rfl
            have hZ' : ((Z : Int) == 0) = true := by rw [hZ]; rfl
            generalize ((m - ca : Nat) : Int) = rest at *
            clear hr hZ
            go_wp2_with fail
            go_ret
            exact ⟨rfl, HBl.out⟩
          · obtain ⟨r1, r2⟩ := HR1.out hr
            obtain ⟨rs, hrs⟩ : ∃ rs : Nat, m - ca = rs := ⟨_, rfl⟩
            rw [hrs] at hr r1 r2 ⊢
            have hr' : ((rs : Int) == 0) = false := by simp; omega
            have hr2 : (0 : Int) < (rs : Int) := by omega
            have hr3 : (rs : Int) ≤ (Z : Int) := by omega
            have hr5 : (Z : Int) / 2 < (rs : Int) := by omega
            clear hr
            by_cases h1 : Z = 1
            · have h1' : ((Z : Int) == 1) = true := by rw [h1]; rfl
              clear h1
              go_wp2_with fail
              go_ret
              exact ⟨rfl, HBl.out⟩
            · have h1' : ((Z : Int) == 1) = false := by simp; omega
              clear h1
              go_wp2_with fail
              go_ret
              exact ⟨rfl, HBl.out⟩
end Go.Proofs.Ytonopchpnhninaa

/- The pure part of a table, on: when a Set rehashes, and what is behind it. -/
namespace Go.Proofs.Ytonopchpnhninaa
open Go.RowKit

theorem Fits.perm {l l' : List V} {A Z : Nat} (h : Fits l A Z) (hp : l.Perm l') : Fits l' A Z := by
  have ho : outK A l' = outK A l := (hp.countP_eq _).symm
  have hi : (ints l).Perm (ints l') := hp.filterMap _
  have hw : ∀ a, C.wi (ints l') a = C.wi (ints l) a := fun a => by unfold C.wi; rw [hi.countP_eq]
  have hd := h.dense
  refine ⟨h.a, h.z, by rw [ho]; exact h.room, ⟨hd.a0, hd.a1, rfl, ?_, fun j hj q => ?_⟩, by rw [ho]; exact h.up, h.pow⟩
  · rw [hw]; exact hd.half
  · rw [hw]; exact hd.most j hj q
/-- What due asks of a key and a value ahead of a Set. -/
def Due (p : Pa) (k v : V) : Prop := plc p k ≤ 0 ∧ (∀ i, i < p.z → p.g.K i ≠ nil) ∧ v.1 ≠ 0 ∧ fm k = true ∧ fm v = true ∧ k.1 ≠ 0
theorem tf_full {K : Nat → V} : ∀ f, (∀ i, i < f → K i ≠ nil) → tf K f = none := by
  intro f
  induction f with
  | zero => intro _; rfl
  | succ f ih => intro h; rw [tf, if_neg (h f (by omega))]; exact ih (fun i hi => h i (by omega))
theorem fnd_none {z : Nat} {g : G} {k : V} (hi : Inv z (pl z) KOK g) (hz : Rt z) (hk : KOK k) (h : (fnd z g k).1 = none) : ∀ i, i < z → g.K i ≠ k := fun i hiz e => by
  have hz0 : z ≠ 0 := by omega
  rw [fnd_good hz0 hk] at h
  cases hf : find (pl z) g k with
  | mk o n =>
    rw [hf] at h
    simp only at h
    subst h
    exact hi.find_none (fun k _ => pl_lt (hz.resolve_left hz0) k) hk.ne hf i hiz e
/-- A Set finds no node if and only if a rehash is due. -/
theorem due_iff {p : Pa} (h : TI p) {k v : V} (hr : Rng k) : Due p k v ↔ (fm k = true ∧ fm v = true ∧ k.1 ≠ 0 ∧ (pset p k v).2.2 = 12) := by
  constructor
  · rintro ⟨d1, d2, d3, d4, d5, d6⟩
    have hk : KOK k := ⟨d4, d6, hr.1, hr.2⟩
    refine ⟨d4, d5, d6, ?_⟩
    have hA : ¬ inA p.n k := fun q => by unfold plc at d1; rw [if_pos q] at d1; have := q.2.2.1; omega
    have hno : (fnd p.z p.g k).1 = none := by
      unfold plc at d1
      rw [if_neg hA] at d1
      cases hf : (fnd p.z p.g k).1 with
      | none => rfl
      | some i => rw [hf] at d1; simp only at d1; omega
    unfold pset
    rw [if_neg hA]
    show (put p.z p.g k v).2.2 = 12
    by_cases hz0 : p.z = 0
    · rw [put, if_pos ⟨d4, d5⟩, if_neg d6, if_pos hz0, if_neg d3]
    · rw [put, if_pos ⟨d4, d5⟩, if_neg d6, if_neg hz0]
      have hz' := h.rt.resolve_left hz0
      rw [fnd_good hz0 hk] at hno
      cases hf : find (pl p.z) p.g k with
      | mk o n =>
        rw [hf] at hno
        simp only at hno
        subst hno
        simp only
        rw [if_neg d3]
        have hpl := pl_lt hz' k
        have e : (ins (pl p.z) p.g k v).2 = false := by
          unfold ins
          rw [if_neg (d2 _ hpl), tf_full p.g.f (fun i hi => d2 i (by have := h.inv.fle; omega))]
        rw [e]; rfl
  · rintro ⟨d4, d5, d6, he⟩
    have hk : KOK k := ⟨d4, d6, hr.1, hr.2⟩
    obtain ⟨hA, _, hv0, hnew, hfull, _⟩ := h.full hk he
    refine ⟨?_, hfull, hv0, d4, d5, d6⟩
    unfold plc
    rw [if_neg hA]
    cases hf : fnd p.z p.g k with
    | mk o n =>
      cases o with
      | none => exact Int.le_refl _
      | some i =>
        exfalso
        have hz0 : p.z ≠ 0 := fun q => by
          have := (fnd_lt h.inv h.rt hr hf).1; omega
        rw [fnd_good hz0 hk] at hf
        obtain ⟨_, h2, h3⟩ := h.inv.find_some (fun k _ => pl_lt (h.rt.resolve_left hz0) k) hk hf
        exact hnew i (fnd_lt h.inv h.rt hr (by rw [fnd_good hz0 hk]; exact hf)).1 (by assumption)

theorem reh_err {u : TS} {s : H.St} {k : V} (h : (reh u s k).2.2 ≠ 0) : (reh u s k).1 = u := by
  unfold reh at h ⊢
  by_cases q : rsE u.p k = 0
  · rw [if_neg (fun x => x q)] at h ⊢
    by_cases q2 : tpE s (rsA u.p k) (rsZ u.p k) = 0
    · rw [if_neg (fun x => x q2)] at h; exact absurd rfl h
    · rw [if_pos q2]
  · rw [if_pos q]
theorem set_same {t : TS} {s : H.St} {k v : V} (h : TI t.p) (hr : Rng k) (hno : ¬ (Due t.p k v ∧ (tset t s k v).2.2 = 0)) : (tset t s k v).1.p.n = t.p.n ∧ (tset t s k v).1.p.z = t.p.z := by
  unfold tset at hno ⊢
  by_cases hf : fm k = true ∧ fm v = true
  · rw [if_neg (fun q => q hf)] at hno ⊢
    by_cases hk0 : k.1 = 0
    · rw [if_pos hk0]; exact ⟨rfl, rfl⟩
    · rw [if_neg hk0] at hno ⊢
      by_cases he : (pset t.p k v).2.2 = 12
      · rw [if_neg (fun q => q he)] at hno ⊢
        have hd := (due_iff h hr).2 ⟨hf.1, hf.2, hk0, he⟩
        by_cases hR : (reh (one t k v) s k).2.2 = 0
        · rw [if_neg (fun q => q hR)] at hno ⊢
          exfalso
          refine hno ⟨hd, ?_⟩
          have hk : KOK k := ⟨hf.1, hk0, hr.1, hr.2⟩
          have hs := tset_map (s := s) (k := k) (v := v) h hr
          have e : (tset t s k v).2.2 = (pset (reh (one t k v) s k).1.p k v).2.2 := by
            unfold tset
            rw [if_neg (fun q => q hf), if_neg hk0, if_neg (fun q => q he), if_neg (fun q => q hR)]
          show (pset (reh (one t k v) s k).1.p k v).2.2 = 0
          obtain ⟨hA, hv, hv0, hnew, _, _, _, ha⟩ := h.full hk he
          have h1 : TI (one t k v).p := h.set hr hv
          have hA1 : ¬ inA (one t k v).p.n k := by show ¬ inA (pset t.p k v).1.n k; rw [(pset_nz t.p k v).1]; exact hA
          have ep : pset t.p k v = ({ t.p with g := (put t.p.z t.p.g k v).1 }, (put t.p.z t.p.g k v).2.1, (put t.p.z t.p.g k v).2.2) := by unfold pset; rw [if_neg hA]
          have hnew1 : ∀ i, i < (one t k v).p.z → (one t k v).p.g.K i ≠ k := fun i hi e => by
            have hi2 : i < t.p.z := by rw [← (pset_nz t.p k v).2]; exact hi
            have he' : (put t.p.z t.p.g k v).2.2 = 12 := by rw [ep] at he; exact he
            have e2 := (put_12 h.inv h.rt hk he').2.2.2.2.1
            have e3 : (pset t.p k v).1.g.K i = k := e
            rw [ep] at e3
            have e4 : (put t.p.z t.p.g k v).1.K i = k := e3
            rw [e2] at e4
            exact hnew i hi2 e4
          have e0 : rsE (one t k v).p k = 0 := by
            unfold reh at hR
            by_cases q : rsE (one t k v).p k = 0
            · exact q
            · rw [if_pos q] at hR; exact absurd hR q
          have e1 : (reh (one t k v) s k).1.p = fill (one t k v).p (fresh (rsA (one t k v).p k) (rsZ (one t k v).p k)) := by
            unfold reh at hR ⊢
            rw [if_neg (fun q => q e0)] at hR ⊢
            by_cases q : tpE s (rsA (one t k v).p k) (rsZ (one t k v).p k) = 0
            · rw [if_neg (fun x => x q)]
            · rw [if_pos q] at hR; exact absurd hR q
          rw [e1]
          exact (h1.behind hk hv hv0 hA1 hnew1 ha e0).2.2.2.2.2
        · rw [if_pos hR, reh_err hR]
          exact pset_nz t.p k v
      · rw [if_pos he]; exact pset_nz t.p k v
  · rw [if_pos hf]; exact ⟨rfl, rfl⟩
theorem set_due {t : TS} {s : H.St} {k v : V} (h : TI t.p) (hr : Rng k) (hd : Due t.p k v) (hz : (tset t s k v).2.2 = 0) (ti' : TI (tset t s k v).1.p) :
    Fits (pres (tset t s k v).1.p) (tset t s k v).1.p.n (tset t s k v).1.p.z ∧ (tset t s k v).1.hint = 0 := by
  obtain ⟨d4, d5, d6, he⟩ := (due_iff h hr).1 hd
  have hk : KOK k := ⟨d4, d6, hr.1, hr.2⟩
  obtain ⟨mk1, _, mk2, mk3⟩ := (tset_map (s := s) (k := k) (v := v) h hr).1 hz
  obtain ⟨hA, hv, hv0, hnew, _, _, hpp, ha⟩ := h.full hk he
  have h1 : TI (one t k v).p := h.set hr hv
  have hb : ∀ k', pget (pset t.p k v).1 k' = pget t.p k' := pset_bad (by rw [he]; decide)
  have et : tset t s k v = if (reh (one t k v) s k).2.2 ≠ 0 then reh (one t k v) s k
      else ({ (reh (one t k v) s k).1 with p := (pset (reh (one t k v) s k).1.p k v).1 }, (reh (one t k v) s k).2.1, (pset (reh (one t k v) s k).1.p k v).2.2) := by
    unfold tset
    rw [if_neg (fun q => q ⟨d4, d5⟩), if_neg d6, if_neg (fun q => q he)]
  have hR : (reh (one t k v) s k).2.2 = 0 := by
    by_cases q : (reh (one t k v) s k).2.2 = 0
    · exact q
    · rw [et, if_pos q] at hz; exact absurd hz q
  rw [if_neg (fun q => q hR)] at et
  have e0 : rsE (one t k v).p k = 0 := by
    unfold reh at hR
    by_cases q : rsE (one t k v).p k = 0
    · exact q
    · rw [if_pos q] at hR; exact absurd hR q
  have e1 : (reh (one t k v) s k).1.p = fill (one t k v).p (fresh (rsA (one t k v).p k) (rsZ (one t k v).p k)) ∧ (reh (one t k v) s k).1.hint = 0 := by
    unfold reh at hR ⊢
    rw [if_neg (fun q => q e0)] at hR ⊢
    by_cases q : tpE s (rsA (one t k v).p k) (rsZ (one t k v).p k) = 0
    · rw [if_neg (fun x => x q)]; exact ⟨rfl, rfl⟩
    · rw [if_pos q] at hR; exact absurd hR q
  obtain ⟨_, F, _, _⟩ := (cens (p := (one t k v).p) ha.ok ha.nd).resolve_left (fun q => by rw [e0] at q; cases q)
  have hnz : (tset t s k v).1.p.n = rsA (one t k v).p k ∧ (tset t s k v).1.p.z = rsZ (one t k v).p k := by
    rw [et]
    show (pset (reh (one t k v) s k).1.p k v).1.n = _ ∧ (pset (reh (one t k v) s k).1.p k v).1.z = _
    rw [(pset_nz _ k v).1, (pset_nz _ k v).2, e1.1, (fill_nz _ _).1, (fill_nz _ _).2]
    exact ⟨rfl, rfl⟩
  refine ⟨?_, by rw [et]; exact e1.2⟩
  rw [hnz.1, hnz.2]
  refine F.perm ?_
  refine (List.perm_ext_iff_of_nodup ha.nd ti'.pres_nd).2 fun k' => ?_
  rw [ti'.mem_pres, List.mem_append, List.mem_singleton]
  have hm1 : ∀ k', k' ∈ pres (one t k v).p ↔ KOK k' ∧ (pget t.p k').1 ≠ 0 := fun k' => by rw [h1.mem_pres]; show _ ∧ (pget (pset t.p k v).1 k').1 ≠ 0 ↔ _; rw [hb]
  have hm2 := hm1 k'
  constructor
  · rintro (q | rfl)
    · obtain ⟨q1, q2⟩ := hm2.1 q
      refine ⟨q1, ?_⟩
      by_cases e : k' = k
      · subst e; rw [mk2]; exact hv0
      · rw [mk3 k' q1 e]; exact q2
    · exact ⟨hk, by rw [mk2]; exact hv0⟩
  · rintro ⟨q1, q2⟩
    by_cases e : k' = k
    · exact .inr e
    · left
      rw [mk3 k' q1 e] at q2
      exact hm2.2 ⟨q1, q2⟩
end Go.Proofs.Ytonopchpnhninaa

/- What a new table holds of its heap. -/
namespace Go.Proofs.Ytonopchpnhninaa
open Go.RowKit
theorem Okn.tb {s : H.St} {x y : Int} {n z : Nat} (o : Okn s x y n z) (iv : H.Inv 0 s) {t : TS} (et : t = newT n z t.sb t.nb) (e1 : t.sb = H.takeId (H.takeSt s 4) (n : Nat)) (e2 : t.nb = H.takeId (H.takeSt (H.takeSt s 4) (n : Nat)) (3 * (z : Nat))) : TB t (nS s x y) (s.live + 4) := by
  obtain ⟨m, rfl, hm, hz⟩ := o.hy
  have hn : t.p.n = n := by rw [et]; rfl
  have hzz : t.p.z = z := by rw [et]; rfl
  have hin : inP x ∧ inP (m : Int) := by
    rw [o.ex]
    exact ⟨⟨by omega, by have := o.hn; omega⟩, ⟨by omega, by omega⟩⟩
  have eS : nS s x (m : Nat) = H.takeSt (H.takeSt (H.takeSt s 4) (n : Nat)) (3 * (z : Nat)) := by
    unfold nS
    rw [if_neg (fun q => q hin), if_neg (fun q => q o.e1), hz, o.ex]
    obtain ⟨q1, q2⟩ | ⟨q1, q2, q3, q4⟩ | ⟨q1, q2, q3, q4⟩ := tp_cases (H.takeSt s 4) (n : Nat) (z : Nat)
    · exact absurd o.e2 q1
    · exact absurd o.e3 q2
    · rw [if_neg (fun q => q q3), q4]
  obtain ⟨a1, a2, a3, a4⟩ := blk_take iv o.e1
  obtain ⟨c1, c2, c3, c4⟩ := blk_take (iv.take 4) o.e2
  obtain ⟨d1, d2, d3, d4⟩ := blk_take ((iv.take 4).take (n : Nat)) o.e3
  have m1 := d4 _ _ c1
  rw [eS]
  refine ⟨by rw [hn, e1]; exact m1.1, by rw [hzz, e2]; exact d1, fun e => ?_, by rw [d2, c2, a2, hn, hzz]⟩
  rw [e1] at e ⊢
  rw [e2] at e
  exact m1.2 e
end Go.Proofs.Ytonopchpnhninaa

/- Where a law stands that plays on one table: its state, and each call's contract there. -/
namespace Go.Proofs.Ytonopchpnhninaa
open Go.RowKit

structure Ms (P : Nat → Prop) (W w : World) (X : Nat) (xs : Value) (T S hb c : Nat) (t : TS) (s : H.St) (L : Int) : Prop where
  tt : ∃ A b a, TT P w T A b a S hb c t s
  lo : ∀ g, g ≤ X → P g
  bel : Below X W w
  xc : w.cell? ⟨X, 3, none⟩ = some xs
  sz : X < w.heap.size
  tb : TB t s L
variable {P : Nat → Prop} {W w w' : World} {X : Nat} {xs : Value} {T S hb c : Nat} {t : TS} {s : H.St} {L : Int}
theorem Ms.ti (h : Ms P W w X xs T S hb c t s L) : TI t.p ∧ H.Inv 0 s := by obtain ⟨A, b, a, ht⟩ := h.tt; exact ⟨ht.ti, ht.iv⟩
theorem Ms.below (h : Ms P W w X xs T S hb c t s L) (k : Below w.heap.size w w') : Ms P W w' X xs T S hb c t s L := by
  obtain ⟨A, b, a, ht⟩ := h.tt
  exact ⟨⟨A, b, a, ht.below k⟩, h.lo, bthen h.bel (Nat.le_of_lt h.sz) k, by rw [k.cell (by exact h.sz)]; exact h.xc, Nat.lt_of_lt_of_le h.sz k.size, h.tb⟩
theorem Ms.news (h : Ms P W w X xs T S hb c t s L) (k : Below w.heap.size w w') : Ms (fun g => P g ∨ (w.heap.size ≤ g ∧ g < w'.heap.size)) W w' X xs T S hb c t s L := by
  obtain ⟨A, b, a, ht⟩ := h.tt
  exact ⟨⟨A, b, a, ht.news k⟩, fun g q => .inl (h.lo g q), bthen h.bel (Nat.le_of_lt h.sz) k, by rw [k.cell (by exact h.sz)]; exact h.xc, Nat.lt_of_lt_of_le h.sz k.size, h.tb⟩
theorem Ms.kept (h : Ms P W w X xs T S hb c t s L) {c' : Nat} {t' : TS} {s' : H.St} (ht : ∃ A b a, TT P w' T A b a S hb c' t' s') (k : Keep P w w') (tb : TB t' s' L) : Ms P W w' X xs T S hb c' t' s' L :=
  ⟨ht, h.lo, h.bel.trans (k.below (Nat.le_of_lt h.sz) (fun g hg => h.lo g (Nat.le_of_lt hg))), by rw [World.cell?_of_block (w := w) (k.block X h.sz (h.lo X (Nat.le_refl _)))]; exact h.xc, Nat.lt_of_lt_of_le h.sz k.size, tb⟩
theorem TB.pr (h : TB t s L) (r : Int) : TB { t with pr := r } s L := ⟨h.b1, h.b2, h.ne, h.live⟩
theorem Ms.set (h : Ms P W w X xs T S hb c t s L) (hc : c ≤ 700000) (k v : V) (hr : Rng k) :
    Calls Try.prog 9 #[tp T, vv k, vv v] w fun e w' => e = .returned (.int .i64 (tset t s k v).2.2) ∧ Ms P W w' X xs T S hb (c + 7) (tset t s k v).1 (tset t s k v).2.1 L ∧ Keep P w w' := by
  obtain ⟨A, b, a, ht⟩ := h.tt
  refine (tset_any ht hc k v hr).mono ?_
  rintro e w' ⟨rfl, h', kk⟩
  exact ⟨rfl, h.kept h' kk (h.tb.set ht.iv k v).1, kk⟩
theorem Ms.get (h : Ms P W w X xs T S hb c t s L) (hc : c ≤ 700000) (k : V) (hr : Rng k) :
    Calls Try.prog 10 #[tp T, vv k] w fun e w' => e = .returned (vv (pget t.p k)) ∧ Ms P W w' X xs T S hb (c + 1) { t with pr := t.pr + (prd t.p k : Nat) } s L ∧ Keep P w w' := by
  obtain ⟨A, b, a, ht⟩ := h.tt
  refine (tget_any ht (by omega) k hr).mono ?_
  rintro e w' ⟨rfl, h', kk⟩
  exact ⟨rfl, h.kept ⟨A, b, a, h'⟩ kk (h.tb.pr _), kk⟩
theorem Ms.place (h : Ms P W w X xs T S hb c t s L) (hc : c ≤ 700000) (k : V) (hr : Rng k) :
    Calls Try.prog 14 #[tp T, vv k] w fun e w' => e = .returned (.int .i64 (plc t.p k)) ∧ Ms P W w' X xs T S hb (c + 1) { t with pr := t.pr + (prd t.p k : Nat) } s L ∧ Keep P w w' := by
  obtain ⟨A, b, a, ht⟩ := h.tt
  refine (place_any ht (by omega) k hr).mono ?_
  rintro e w' ⟨rfl, h', kk⟩
  exact ⟨rfl, h.kept ⟨A, b, a, h'⟩ kk (h.tb.pr _), kk⟩
theorem Ms.stats (h : Ms P W w X xs T S hb c t s L) : Calls Try.prog 11 #[tp T] w fun e w' => e = .returned (ts t) ∧ Below w.heap.size w w' := by
  obtain ⟨A, b, a, ht⟩ := h.tt
  exact stats_any ht.tm
theorem Ms.live (h : Ms P W w X xs T S hb c t s L) : Calls Try.prog 12 #[tp S] w fun e w' => e = .returned (.int .i64 s.live) ∧ w' = w := by
  obtain ⟨A, b, a, ht⟩ := h.tt
  obtain ⟨v, hp⟩ := ht.hp
  exact H.live_any _ S _ hp.c1
theorem Ms.full (h : Ms P W w X xs T S hb c t s L) : Calls Try.prog 13 #[tp T] w fun e w' => e = .returned (.bool (decide (∀ i, i < t.p.z → t.p.g.K i ≠ nil))) ∧ Below w.heap.size w w' := by
  obtain ⟨A, b, a, ht⟩ := h.tt
  exact full_any ht.tm ht.ti
theorem Ms.present (h : Ms P W w X xs T S hb c t s L) : Calls Try.prog 17 #[tp T] w fun e w' => ∃ v F, e = .returned v ∧ Lv w' w.heap.size v (pres t.p).length F ∧ Is F (pres t.p).length (pres t.p) ∧ Below w.heap.size w w' := by
  obtain ⟨A, b, a, ht⟩ := h.tt
  exact present_any ht.tm ht.ti
/-- fits, of who is present behind a rehash that was due. -/
theorem Ms.fits (h : Ms P W w X xs T S hb c t s L) {v : Value} {F : Nat → V} {B : Nat} (hl : Lv w' B v (pres t.p).length F) (hi : Is F (pres t.p).length (pres t.p)) (hf : Fits (pres t.p) t.p.n t.p.z) : Calls Try.prog 16 #[ts t, v] w' fun e w'' => e = .returned (.bool true) ∧ Below w'.heap.size w' w'' := by
  have ti := h.ti.1
  have h1 := kA_len t.p.F t.p.n
  have h2 := kH_len t.p.g t.p.z
  have h3 := ti.le
  have h4 := ti.rt.le
  have hm : (pres t.p).length ≤ 200000 := by unfold pres; rw [List.length_append]; omega
  exact fits_any hl (hf.ft (fun k hk => (ti.mem_pres.1 hk).1) hi hm)
end Go.Proofs.Ytonopchpnhninaa
