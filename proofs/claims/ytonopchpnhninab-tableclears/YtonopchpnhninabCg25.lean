/- The walk of fits, on. -/
import Derived.Test.YtonopchpnhninabCg24
import Derived.Test.YtonopchpnhninabCg19
import Derived.Test.YtonopchpnhninabCg20
import Derived.Test.YtonopchpnhninabCg07
namespace Go.Proofs.Ytonopchpnhninab
open Go.RowKit

set_option maxRecDepth 20000 in
set_option maxHeartbeats 4000000 in
theorem fits_any {w : World} {B : Nat} {v : Value} {m : Nat} {F : Nat → V} (h : Lv w B v m F) {A Z f : Nat} {hint : Int} (ft : Ft (fun n => cntF F n m) m A Z) :
    Calls Try.prog 25 #[sv (A : Nat) (Z : Nat) (f : Nat) hint, v] w fun e w' => e = .returned (.bool true) ∧ Below w.heap.size w w' := by
  obtain ⟨a, c, rfl⟩ := h.form
  have la := ft.la
  have lz := ft.lz
  have lm := ft.lm
  have CC := fun W (hW : Lv W B (.slice a m c) m F) (n : Int) => counts_any hW lm n
  have R0 := R4.made w (.int .i64 (A : Nat)) (.int .i64 (Z : Nat)) (.int .i64 (f : Nat)) (.int .i64 hint) 41
  have B0 := b1 w (.cells #[.int .i64 (A : Nat), .int .i64 (Z : Nat), .int .i64 (f : Nat), .int .i64 hint] 41)
  obtain ⟨W0, hW0⟩ : ∃ W0, w.alloc (.cells #[.int .i64 (A : Nat), .int .i64 (Z : Nat), .int .i64 (f : Nat), .int .i64 hint] 41) = W0 := ⟨_, rfl⟩
  rw [hW0] at R0 B0
  have HL0 : Hid (Lv W0 B (.slice a m c) m F) := h.below B0
  have HB0 : Hid (Below w.heap.size w W0) := B0
  have c0 := R0.c0
  have c1 := R0.c1
  have hca : cntF F (A : Nat) m ≤ m := ft.cl A
  have haa := ft.aa
  have haz := ft.az
  have HFT : Hid (Ft (fun n => cntF F n m) m A Z) := ft
  have half : A ≠ 0 → A < 2 * cntF F (A : Nat) m := ft.half
  have C1 := fun i : Nat => CC (W0.drewN i) (HL0.out.below (bdrew _ _ i)) (A : Nat)
  have C2 := fun W (hW : Below W0.heap.size W0 W) => CC W (HL0.out.below hW) (A : Nat)
  have HCC : Hid (∀ W, Below W0.heap.size W0 W → ∀ n : Int, Calls Try.prog 47 #[.slice a m c, .int .i64 n] W fun e w' => e = .returned (.int .i64 (cntF F n m : Nat)) ∧ w' = W) := fun W hW n => CC W (HL0.out.below hW) n
  clear CC
  have HC0 : Hid (∀ W, Below W0.heap.size W0 W → W.cell? ⟨w.heap.size, 0, none⟩ = some (.int .i64 (A : Nat)) ∧ W.cell? ⟨w.heap.size, 1, none⟩ = some (.int .i64 (Z : Nat))) := fun W hW => ⟨(R0.below hW).c0, (R0.below hW).c1⟩
  have HBW : Hid (∀ W, Below W0.heap.size W0 W → Below w.heap.size w W) := fun W hW => bthen B0 B0.size hW
  generalize hca' : cntF F (A : Nat) m = ca at *
  have hw0 : IntKind.i64.wrap ((m : Int) - (ca : Int)) = ((m - ca : Nat) : Int) := by rw [IntKind.wrap_i64]; omega
  have hw1 : IntKind.i64.wrap ((A : Int) - 1) = (A : Int) - 1 := by rw [IntKind.wrap_i64]; omega
  have hw2 : IntKind.i64.wrap (2 * (ca : Int)) = 2 * (ca : Int) := by rw [IntKind.wrap_i64]; omega
  have hw3 : IntKind.i64.wrap ((Z : Int) - 1) = (Z : Int) - 1 := by rw [IntKind.wrap_i64]; omega
  clear h B0 R0 ft
  generalize hsz : w.heap.size = N at *
  unfold sv
  go_enter Try.func25, Try.ntmps25
  go_upto_region 1 with fail
  go_cut [5, 6] from 8 to 16 (fun aw rw wx => aw = .int .i64 (A : Nat) ∧ rw = .int .i64 ((m - ca : Nat) : Int) ∧ Hid (Below W0.heap.size W0 wx))
  case first =>
    go_quiet (exact Calls.quiet_of_same (C1 _))
    go_wp2_with fail
    go_meet
    exact ⟨rfl, rfl, bdrew _ _ _⟩
  case rest =>
    obtain ⟨rfl, rfl, HB⟩ := hcut
    obtain ⟨d0, d1⟩ := HC0.out wc HB.out
    have CA := C2 wc HB.out
    have HBl : Hid (Below N w wc) := HBW.out wc HB.out
    have HR0 : Hid (m - ca = 0 → Z = 0) := fun q => HFT.out.rest0 (by show m - cntF F (A : Nat) m = 0; rw [hca']; exact q)
    have HR1 : Hid (m - ca ≠ 0 → m - ca ≤ Z ∧ Z / 2 < m - ca) := fun q => by
      have := HFT.out.rest1 (by show m - cntF F (A : Nat) m ≠ 0; rw [hca']; exact q)
      have e : m - cntF F (A : Nat) m ≤ Z ∧ Z / 2 < m - cntF F (A : Nat) m := this
      rw [hca'] at e; exact e
    clear HC0 HBW c0 c1 hW0 C1 C2 HL0 HB0
    by_cases hA0 : A = 0
    · have hA0' : ¬ (0 : Int) < (A : Int) := by omega
      clear half hA0
      go_wp2_with fail
      go_loopw [7] (fun pw wr => ∃ q j : Nat, pw = .int .i64 (q : Nat) ∧ q = 2 ^ j ∧ j ≤ 17 ∧ wr = wc) (fun pw _ => 131072 - (intOf pw).toNat)
      case atStart => exact ⟨1, 0, rfl, rfl, by omega, rfl⟩
      case round =>
        obtain ⟨q, j, rfl, hq, hj, hwr⟩ := hrel
        rw [hwr]
        have hqp : 1 ≤ q := by rw [hq]; exact Nat.one_le_two_pow
        by_cases hle : q ≤ 65536
        · have hle' : (q : Int) ≤ 65536 := by omega
          have hj16 : j ≤ 16 := by
            rcases Nat.lt_or_ge 16 j with x | x
            · have := Nat.pow_le_pow_right (n := 2) (by omega) (show 17 ≤ j from x)
              omega
            · exact x
          have hwq : IntKind.i64.wrap ((q : Int) * 2) = ((q * 2 : Nat) : Int) := by rw [IntKind.wrap_i64]; omega
          have hq2 : Hid (q * 2 = 2 ^ (j + 1)) := by show _ = _; rw [hq, Nat.pow_succ]
          by_cases hgt : A < q
          · have hgt' : (A : Int) < (q : Int) := by omega
            have hms : 2 * cntF F (q : Nat) m ≤ q := by have := HFT.out.most j hj16 (by omega); rw [← hq] at this; exact this
            have CQ := HCC.out wc HB.out (q : Nat)
            have hcq : cntF F (q : Nat) m ≤ m := HFT.out.cl q
            generalize cntF F (q : Nat) m = cq at *
            have hwc : IntKind.i64.wrap (2 * (cq : Int)) = 2 * (cq : Int) := by rw [IntKind.wrap_i64]; omega
            have hng : ¬ ((q : Int) < 2 * (cq : Int)) := by omega
            clear hq hms
            go_wp2_with fail
            refine CQ.mono ?_; rintro e w5 ⟨rfl, hw5⟩; rw [hw5]; clear hw5 CQ
            go_wp2_with fail
            go_round
            case rel => exact ⟨q * 2, j + 1, rfl, hq2.out, by omega, trivial⟩
            case measure => simp [intOf]; omega
          · have hgt' : ¬ (A : Int) < (q : Int) := by omega
            clear hq
            go_wp2_with fail
            go_round
            case rel => exact ⟨q * 2, j + 1, rfl, hq2.out, by omega, trivial⟩
            case measure => simp [intOf]; omega
        · have hle' : ¬ (q : Int) ≤ 65536 := by omega
          clear hq
          by_cases hr : m - ca = 0
          · have hZ : Z = 0 := HR0.out hr
            have hr' : (((m - ca : Nat) : Int) == 0) = true := by rw [hr]; rfl
            have hZ' : ((Z : Int) == 0) = true := by rw [hZ]; rfl
            generalize ((m - ca : Nat) : Int) = rest at *
            clear hr hZ
            go_wp2_with fail
            go_ret
            exact ⟨rfl, HBl.out⟩
          · obtain ⟨r1, r2⟩ := HR1.out hr
            obtain ⟨rs, hrs⟩ : ∃ rs : Nat, m - ca = rs := ⟨_, rfl⟩
            rw [hrs] at hr r1 r2 ⊢
            have hr' : ((rs : Int) == 0) = false := by simp; omega
            have hr2 : (0 : Int) < (rs : Int) := by omega
            have hr3 : (rs : Int) ≤ (Z : Int) := by omega
            have hr5 : (Z : Int) / 2 < (rs : Int) := by omega
            clear hr
            by_cases h1 : Z = 1
            · have h1' : ((Z : Int) == 1) = true := by rw [h1]; rfl
              clear h1
              go_wp2_with fail
              go_ret
              exact ⟨rfl, HBl.out⟩
            · have h1' : ((Z : Int) == 1) = false := by simp; omega
              clear h1
              go_wp2_with fail
              go_ret
              exact ⟨rfl, HBl.out⟩
    · have hA0' : (0 : Int) < (A : Int) := by omega
      have hh := half hA0
      have hh' : ¬ 2 * (ca : Int) ≤ (A : Int) := by omega
      clear half hA0 hh
      go_wp2_with fail
      refine CA.mono ?_; rintro e w4 ⟨rfl, hw4⟩; rw [hw4]; clear hw4 CA
      go_wp2_with fail
      go_loopw [7] (fun pw wr => ∃ q j : Nat, pw = .int .i64 (q : Nat) ∧ q = 2 ^ j ∧ j ≤ 17 ∧ wr = wc) (fun pw _ => 131072 - (intOf pw).toNat)
      case atStart => exact ⟨1, 0, rfl, rfl, by omega, rfl⟩
      case round =>
        obtain ⟨q, j, rfl, hq, hj, hwr⟩ := hrel
        rw [hwr]
        have hqp : 1 ≤ q := by rw [hq]; exact Nat.one_le_two_pow
        by_cases hle : q ≤ 65536
        · have hle' : (q : Int) ≤ 65536 := by omega
          have hj16 : j ≤ 16 := by
            rcases Nat.lt_or_ge 16 j with x | x
            · have := Nat.pow_le_pow_right (n := 2) (by omega) (show 17 ≤ j from x)
              omega
            · exact x
          have hwq : IntKind.i64.wrap ((q : Int) * 2) = ((q * 2 : Nat) : Int) := by rw [IntKind.wrap_i64]; omega
          have hq2 : Hid (q * 2 = 2 ^ (j + 1)) := by show _ = _; rw [hq, Nat.pow_succ]
          by_cases hgt : A < q
          · have hgt' : (A : Int) < (q : Int) := by omega
            have hms : 2 * cntF F (q : Nat) m ≤ q := by have := HFT.out.most j hj16 (by omega); rw [← hq] at this; exact this
            have CQ := HCC.out wc HB.out (q : Nat)
            have hcq : cntF F (q : Nat) m ≤ m := HFT.out.cl q
            generalize cntF F (q : Nat) m = cq at *
            have hwc : IntKind.i64.wrap (2 * (cq : Int)) = 2 * (cq : Int) := by rw [IntKind.wrap_i64]; omega
            have hng : ¬ ((q : Int) < 2 * (cq : Int)) := by omega
            clear hq hms
            go_wp2_with fail
            refine CQ.mono ?_; rintro e w5 ⟨rfl, hw5⟩; rw [hw5]; clear hw5 CQ
            go_wp2_with fail
            go_round
            case rel => exact ⟨q * 2, j + 1, rfl, hq2.out, by omega, trivial⟩
            case measure => simp [intOf]; omega
          · have hgt' : ¬ (A : Int) < (q : Int) := by omega
            clear hq
            go_wp2_with fail
            go_round
            case rel => exact ⟨q * 2, j + 1, rfl, hq2.out, by omega, trivial⟩
            case measure => simp [intOf]; omega
        · have hle' : ¬ (q : Int) ≤ 65536 := by omega
          clear hq
          by_cases hr : m - ca = 0
          · have hZ : Z = 0 := HR0.out hr
            have hr' : (((m - ca : Nat) : Int) == 0) = true := by rw [hr]; rfl
            have hZ' : ((Z : Int) == 0) = true := by rw [hZ]; rfl
            generalize ((m - ca : Nat) : Int) = rest at *
            clear hr hZ
            go_wp2_with fail
            go_ret
            exact ⟨rfl, HBl.out⟩
          · obtain ⟨r1, r2⟩ := HR1.out hr
            obtain ⟨rs, hrs⟩ : ∃ rs : Nat, m - ca = rs := ⟨_, rfl⟩
            rw [hrs] at hr r1 r2 ⊢
            have hr' : ((rs : Int) == 0) = false := by simp; omega
            have hr2 : (0 : Int) < (rs : Int) := by omega
            have hr3 : (rs : Int) ≤ (Z : Int) := by omega
            have hr5 : (Z : Int) / 2 < (rs : Int) := by omega
            clear hr
            by_cases h1 : Z = 1
            · have h1' : ((Z : Int) == 1) = true := by rw [h1]; rfl
              clear h1
              go_wp2_with fail
              go_ret
              exact ⟨rfl, HBl.out⟩
            · have h1' : ((Z : Int) == 1) = false := by simp; omega
              clear h1
              go_wp2_with fail
              go_ret
              exact ⟨rfl, HBl.out⟩
end Go.Proofs.Ytonopchpnhninab

/- The pure part of a table, on: keys that follow one another, none of them small. -/
namespace Go.Proofs.Ytonopchpnhninab
open Go.RowKit

/-- The census has no error where few keys are present. -/
theorem rsE_few {p : Pa} {k : V} (h : ∀ k', k' ∈ pres p ++ [k] → KOK k') (hn : (pres p ++ [k]).Nodup) (hl : (pres p ++ [k]).length ≤ 65536) : rsE p k = 0 := by
  rcases cens h hn with q | q
  · exfalso
    unfold rsE at q
    generalize pres p ++ [k] = l at *
    have hf := ints_fit h
    have hd := (C.dense_of (ints l) hf).n
    have hw := (C.wi_bound (ints l) (C.chA (C.cntL (ints l)) 17)).1
    have hc := ints_len l
    unfold C.szE at q
    rw [if_neg (by omega), if_neg (by simpa using ints_nd h hn)] at q
    have : ¬ (65536 < ((oth l : Nat) : Int) ∨ 65536 < ((oth l : Nat) : Int) + C.rest (ints l)) := by unfold C.rest; omega
    rw [if_neg this] at q
    cases q
  · exact q.1
theorem up2_le (n : Int) (h0 : 0 ≤ n) (h1 : n ≤ 1024) : C.up2 n ≤ 1024 := by
  unfold C.up2
  by_cases q : n = 0
  · rw [if_pos q]; omega
  · rw [if_neg q]
    obtain ⟨a, b, c⟩ := C.lgN_spec n (by omega) (by omega)
    have hl : C.lgN n ≤ 10 := by
      rcases b with b | b
      · omega
      · rcases Nat.lt_or_ge 10 (C.lgN n) with q | q
        · have := Nat.pow_le_pow_right (n := 2) (by omega) (show 10 ≤ C.lgN n - 1 by omega)
          omega
        · exact q
    unfold C.cl
    have h2 := Nat.pow_le_pow_right (n := 2) (by omega) hl
    have e : ((2 : Int) ^ C.lgN n) = ((2 ^ C.lgN n : Nat) : Int) := by simp
    rw [e]; omega

/-- j keys are in, b + 1 to b + j; none has a slot. -/
structure RW (b : Int) (j : Nat) (t : TS) (s : H.St) : Prop where
  n0 : t.p.n = 0
  tb : TB t s 4
  lim : s.lim = 400000
  zb : t.p.z ≤ 1024
  keys : ∀ i, i < t.p.z → t.p.g.K i = nil ∨ ∃ q : Nat, 1 ≤ q ∧ q ≤ j ∧ t.p.g.K i = kn (b + q)
  get : ∀ q : Nat, 1 ≤ q → q ≤ j → pget t.p (kn (b + q)) = kn q
theorem kn_inj {a b : Int} (h : kn a = kn b) : a = b := by simpa using h
theorem KOK_row {b : Int} {q : Nat} (h0 : 0 ≤ b) (h1 : b < 4611686018427387904) (hq : q ≤ 701) : KOK (kn (b + q)) := by
  refine ⟨by simp [inF, ByteArray.toList_eq], by simp, by simp; omega, by simp; omega⟩
theorem fm_kn (n : Int) : fm (kn n) = true := by simp [fm, inF, ByteArray.toList_eq]
theorem not_inA0 (k : V) : ¬ inA 0 k := fun h => by have := h.2.2; omega
theorem RW.pres_len {b : Int} {j : Nat} {t : TS} {s : H.St} (h : RW b j t s) (ti : TI t.p) : (pres t.p).length ≤ j ∧ ∀ k, k ∈ pres t.p → ∃ q : Nat, 1 ≤ q ∧ q ≤ j ∧ k = kn (b + q) := by
  have hm : ∀ k, k ∈ pres t.p → ∃ q : Nat, 1 ≤ q ∧ q ≤ j ∧ k = kn (b + q) := fun k hk => by
    rw [pres, h.n0, List.mem_append] at hk
    rcases hk with hk | hk
    · cases hk
    · obtain ⟨i, hi, hx, rfl⟩ := mem_kH.1 hk
      exact (h.keys i hi).resolve_left (ti.live hi hx).1
  refine ⟨?_, hm⟩
  have hnd : ((pres t.p).map fun k => (k.2.1 - b - 1).toNat).Nodup := by
    unfold List.Nodup
    rw [List.pairwise_map]
    refine List.Pairwise.imp_of_mem ?_ ti.pres_nd
    intro k k' hk hk' hne e
    obtain ⟨q, q1, q2, rfl⟩ := hm k hk
    obtain ⟨q', q1', q2', rfl⟩ := hm k' hk'
    have e' : (b + (q : Int) - b - 1).toNat = (b + (q' : Int) - b - 1).toNat := e
    exact hne (by rw [show q = q' by omega])
  have := nodup_len (z := j) hnd (fun x hx => by
    obtain ⟨k, hk, rfl⟩ := List.mem_map.1 hx
    obtain ⟨q, q1, q2, rfl⟩ := hm k hk
    show (b + (q : Int) - b - 1).toNat < j
    omega)
  simpa using this

theorem RW.step {b : Int} {j m : Nat} {t : TS} {s : H.St} (h : RW b j t s) (ti : TI t.p) (iv : H.Inv 0 s) (hj : j + 1 ≤ m) (hm : m ≤ 700) (hb : 2 * (m : Int) ≤ b) (hb2 : b < 4611686018427387904) :
    (tset t s (kn (b + (j + 1 : Nat))) (kn ((j + 1 : Nat)))).2.2 = 0 ∧ RW b (j + 1) (tset t s (kn (b + (j + 1 : Nat))) (kn (j + 1 : Nat))).1 (tset t s (kn (b + (j + 1 : Nat))) (kn (j + 1 : Nat))).2.1 := by
  have hk : KOK (kn (b + (j + 1 : Nat))) := KOK_row (by omega) hb2 (by omega)
  have hv := fm_kn ((j + 1 : Nat) : Int)
  have hr : Rng (kn (b + (j + 1 : Nat))) := ⟨hk.2.2.1, hk.2.2.2⟩
  have hv0 : (kn ((j + 1 : Nat) : Int)).1 ≠ 0 := by simp
  obtain ⟨htb, hlim⟩ := h.tb.set iv (kn (b + (j + 1 : Nat))) (kn (j + 1 : Nat))
  obtain ⟨mp1, mp2⟩ := tset_map (s := s) (k := kn (b + (j + 1 : Nat))) (v := kn (j + 1 : Nat)) ti hr
  obtain ⟨hpl, hpm⟩ := h.pres_len ti
  have hold : ∀ q : Nat, 1 ≤ q → q ≤ j → kn (b + q) ≠ kn (b + (j + 1 : Nat)) := fun q _ q2 e => by have := kn_inj e; omega
  -- what is left to show
  have key : (tset t s (kn (b + (j + 1 : Nat))) (kn (j + 1 : Nat))).2.2 = 0 ∧ (tset t s (kn (b + (j + 1 : Nat))) (kn (j + 1 : Nat))).1.p.n = 0 ∧ (tset t s (kn (b + (j + 1 : Nat))) (kn (j + 1 : Nat))).1.p.z ≤ 1024 ∧
      ∀ i, i < (tset t s (kn (b + (j + 1 : Nat))) (kn (j + 1 : Nat))).1.p.z → (tset t s (kn (b + (j + 1 : Nat))) (kn (j + 1 : Nat))).1.p.g.K i = nil ∨ ∃ q : Nat, 1 ≤ q ∧ q ≤ j + 1 ∧ (tset t s (kn (b + (j + 1 : Nat))) (kn (j + 1 : Nat))).1.p.g.K i = kn (b + q) := by
    clear mp1 mp2 htb hlim
    generalize hkk : kn (b + (j + 1 : Nat)) = k at *
    generalize kn ((j + 1 : Nat) : Int) = v at *
    have hA : ¬ inA t.p.n k := by rw [h.n0]; exact not_inA0 k
    have ep : pset t.p k v = ({ t.p with g := (put t.p.z t.p.g k v).1 }, (put t.p.z t.p.g k v).2.1, (put t.p.z t.p.g k v).2.2) := by unfold pset; rw [if_neg hA]
    unfold tset
    rw [if_neg (fun q => q ⟨hk.1, hv⟩), if_neg hk.2.1]
    by_cases he : (pset t.p k v).2.2 = 12
    · rw [if_neg (fun q => q he)]
      obtain ⟨_, _, _, hnew, hfull, hg, hp, ha⟩ := ti.full hk he
      have h1 : TI (pset t.p k v).1 := ti.set hr hv
      have hA1 : ¬ inA (pset t.p k v).1.n k := by rw [(pset_nz t.p k v).1]; exact hA
      have hnew1 : ∀ i, i < (pset t.p k v).1.z → (pset t.p k v).1.g.K i ≠ k := fun i hi e => by
        rw [(pset_nz t.p k v).2] at hi
        have he' : (put t.p.z t.p.g k v).2.2 = 12 := by rw [ep] at he; exact he
        have e2 := (put_12 ti.inv ti.rt hk he').2.2.2.2.1
        rw [ep] at e
        have e3 : (put t.p.z t.p.g k v).1.K i = k := e
        rw [e2] at e3
        exact hnew i hi e3
      have hop : (one t k v).p = (pset t.p k v).1 := rfl
      have hos : (one t k v).sb = t.sb ∧ (one t k v).nb = t.nb := ⟨rfl, rfl⟩
      rw [← hop] at ha h1 hA1 hnew1 hp
      generalize one t k v = u at *
      have hlen : (pres u.p ++ [k]).length ≤ j + 1 := by rw [hp]; simp; omega
      have e0 := rsE_few ha.ok ha.nd (by omega)
      obtain ⟨F, i1, i2, i3, i4, i5⟩ := h1.behind hk hv hv0 hA1 hnew1 ha e0
      have hmem : ∀ k', k' ∈ pres u.p ++ [k] → ∃ q : Nat, 1 ≤ q ∧ q ≤ j + 1 ∧ k' = kn (b + q) := fun k' hk' => by
        rw [hp] at hk'
        rcases List.mem_append.1 hk' with q | q
        · obtain ⟨r, r1, r2, r3⟩ := hpm k' q
          exact ⟨r, r1, by omega, r3⟩
        · exact ⟨j + 1, by omega, by omega, by rw [List.mem_singleton.1 q, hkk]⟩
      have hA0 : rsA u.p k = 0 := by
        by_cases q : rsA u.p k = 0
        · exact q
        · exfalso
          have hh := F.dense.half (by omega)
          have hw := C.wi_bound (ints (pres u.p ++ [k])) (rsA u.p k)
          have hc := ints_len (pres u.p ++ [k])
          have hpos : 0 < C.wi (ints (pres u.p ++ [k])) (rsA u.p k) := by omega
          unfold C.wi at hpos
          have hp2 : 0 < (ints (pres u.p ++ [k])).countP (fun x => decide (1 ≤ x ∧ x ≤ ((rsA u.p k : Nat) : Int))) := by omega
          obtain ⟨x, hx, hx2⟩ := List.countP_pos_iff.1 hp2
          obtain ⟨k', hk', _, hx3⟩ := ints_mem hx
          obtain ⟨r, r1, r2, rfl⟩ := hmem k' hk'
          have hx3' : b + (r : Int) = x := hx3
          simp at hx2
          omega
      have hZ : rsZ u.p k ≤ 1024 := by
        have hup := F.up
        have ho : outK (rsA u.p k) (pres u.p ++ [k]) ≤ (pres u.p ++ [k]).length := List.countP_le_length
        have := up2_le (outK (rsA u.p k) (pres u.p ++ [k]) : Nat) (by omega) (by omega)
        omega
      have hlv := h.tb.live
      have hn0 := h.n0
      have hzb := h.zb
      have hl := h.lim
      have t1 : H.takeE s ((rsA u.p k : Nat) : Int) = 0 := by
        unfold H.takeE
        rw [if_neg (by omega), if_neg (by omega)]
      have ts : H.takeSt s ((rsA u.p k : Nat) : Int) = s := by
        rw [hA0]
        unfold H.takeSt
        rw [if_neg (by omega), if_neg (by omega), if_pos (by omega)]
      have t2 : H.takeE (H.takeSt s ((rsA u.p k : Nat) : Int)) (3 * ((rsZ u.p k : Nat) : Int)) = 0 := by
        rw [ts]
        unfold H.takeE
        rw [if_neg (by omega), if_neg (by omega)]
      have et : tpE s (rsA u.p k : Nat) (rsZ u.p k : Nat) = 0 := by unfold tpE; rw [if_neg (fun q => q t1), t2]
      have hroom : outK (rsA u.p k) (pres u.p) ≤ rsZ u.p k := by have := F.room; rw [outK_app] at this; omega
      obtain ⟨_, _, _, _, _, f6⟩ := h1.filled F.a F.z hroom
      have er : (Proofs.Ytonopchpnhninab.reh u s k).2.2 = 0 ∧ (Proofs.Ytonopchpnhninab.reh u s k).1.p = fill u.p (fresh (rsA u.p k) (rsZ u.p k)) := by
        unfold Proofs.Ytonopchpnhninab.reh
        rw [if_neg (fun q => q e0), if_neg (fun q => q et)]
        exact ⟨rfl, rfl⟩
      rw [if_neg (fun q => q er.1), er.2]
      refine ⟨i5, ?_, ?_, ?_⟩
      · show (pset _ k v).1.n = 0
        rw [(pset_nz _ k v).1, i2, hA0]
      · show (pset _ k v).1.z ≤ 1024
        rw [(pset_nz _ k v).2, i3]; exact hZ
      · intro i hi
        have hi' : i < rsZ u.p k := by
          have : (pset (fill u.p (fresh (rsA u.p k) (rsZ u.p k))) k v).1.z = rsZ u.p k := by rw [(pset_nz _ k v).2, i3]
          have hi2 : i < (pset (fill u.p (fresh (rsA u.p k) (rsZ u.p k))) k v).1.z := hi
          omega
        have hAf : ¬ inA (fill u.p (fresh (rsA u.p k) (rsZ u.p k))).n k := by rw [i2, hA0]; exact not_inA0 k
        show (pset (fill u.p (fresh (rsA u.p k) (rsZ u.p k))) k v).1.g.K i = nil ∨ ∃ q : Nat, 1 ≤ q ∧ q ≤ j + 1 ∧ (pset (fill u.p (fresh (rsA u.p k) (rsZ u.p k))) k v).1.g.K i = kn (b + q)
        have epf : (pset (fill u.p (fresh (rsA u.p k) (rsZ u.p k))) k v).1.g = (put (fill u.p (fresh (rsA u.p k) (rsZ u.p k))).z (fill u.p (fresh (rsA u.p k) (rsZ u.p k))).g k v).1 := by unfold pset; rw [if_neg hAf]
        rw [epf]
        rcases put_pairs (v := v) i1.inv i1.rt hr (i := i) (by rw [i3]; exact hi') with q | ⟨q, _⟩ | ⟨i', hi2, q, _⟩
        · exact .inl q
        · exact .inr ⟨j + 1, by omega, by omega, by rw [q, hkk]⟩
        · rw [q]
          rw [i3] at hi2
          rcases f6 i' hi2 with r | r
          · exact .inl r
          · obtain ⟨x, x1, x2, x3⟩ := hmem _ (List.mem_append.2 (.inl r))
            exact .inr ⟨x, x1, x2, x3⟩
    · rw [if_pos he]
      have he0 : (pset t.p k v).2.2 = 0 := by
        by_cases q : (pset t.p k v).2.2 = 0
        · exact q
        · rw [ep] at he q ⊢
          rcases (put_bad q).2 with r | ⟨_, r⟩ | ⟨_, _, _, r⟩
          · exact absurd r he
          · exact absurd ⟨hk.1, hv⟩ r
          · exact absurd r hk.2.1
      refine ⟨he0, ?_, ?_, ?_⟩
      · show (pset t.p k v).1.n = 0
        rw [(pset_nz t.p k v).1]; exact h.n0
      · show (pset t.p k v).1.z ≤ 1024
        rw [(pset_nz t.p k v).2]; exact h.zb
      · intro i hi
        have hi' : i < t.p.z := by
          have hi2 : i < (pset t.p k v).1.z := hi
          rwa [(pset_nz t.p k v).2] at hi2
        show (pset t.p k v).1.g.K i = nil ∨ ∃ q : Nat, 1 ≤ q ∧ q ≤ j + 1 ∧ (pset t.p k v).1.g.K i = kn (b + q)
        rw [ep]
        rcases put_pairs (v := v) ti.inv ti.rt hr hi' with q | ⟨q, _⟩ | ⟨i', hi2, q, _⟩
        · exact .inl q
        · exact .inr ⟨j + 1, by omega, by omega, q.trans hkk.symm⟩
        · rcases h.keys i' hi2 with r | ⟨x, x1, x2, x3⟩
          · exact .inl (q.trans r)
          · exact .inr ⟨x, x1, by omega, q.trans x3⟩
  obtain ⟨k1, k2, k3, k4⟩ := key
  obtain ⟨_, _, g1, g2⟩ := mp1 k1
  refine ⟨k1, k2, htb, by rw [hlim]; exact h.lim, k3, k4, fun q q1 q2 => ?_⟩
  by_cases e : q = j + 1
  · rw [e]; exact g1
  · rw [g2 _ (KOK_row (by omega) hb2 (by omega)) (hold q q1 (by omega))]
    exact h.get q q1 (by omega)
end Go.Proofs.Ytonopchpnhninab

/- The pure part of a table, on: when a Set rehashes, and what is behind it. -/
namespace Go.Proofs.Ytonopchpnhninab
open Go.RowKit

theorem Fits.perm {l l' : List V} {A Z : Nat} (h : Fits l A Z) (hp : l.Perm l') : Fits l' A Z := by
  have ho : outK A l' = outK A l := (hp.countP_eq _).symm
  have hi : (ints l).Perm (ints l') := hp.filterMap _
  have hw : ∀ a, C.wi (ints l') a = C.wi (ints l) a := fun a => by unfold C.wi; rw [hi.countP_eq]
  have hd := h.dense
  refine ⟨h.a, h.z, by rw [ho]; exact h.room, ⟨hd.a0, hd.a1, rfl, ?_, fun j hj q => ?_⟩, by rw [ho]; exact h.up, h.pow⟩
  · rw [hw]; exact hd.half
  · rw [hw]; exact hd.most j hj q
/-- What due asks of a key and a value ahead of a Set. -/
def Due (p : Pa) (k v : V) : Prop := plc p k ≤ 0 ∧ (∀ i, i < p.z → p.g.K i ≠ nil) ∧ v.1 ≠ 0 ∧ fm k = true ∧ fm v = true ∧ k.1 ≠ 0
theorem tf_full {K : Nat → V} : ∀ f, (∀ i, i < f → K i ≠ nil) → tf K f = none := by
  intro f
  induction f with
  | zero => intro _; rfl
  | succ f ih => intro h; rw [tf, if_neg (h f (by omega))]; exact ih (fun i hi => h i (by omega))
theorem fnd_none {z : Nat} {g : G} {k : V} (hi : Inv z (pl z) KOK g) (hz : Rt z) (hk : KOK k) (h : (fnd z g k).1 = none) : ∀ i, i < z → g.K i ≠ k := fun i hiz e => by
  have hz0 : z ≠ 0 := by omega
  rw [fnd_good hz0 hk] at h
  cases hf : find (pl z) g k with
  | mk o n =>
    rw [hf] at h
    simp only at h
    subst h
    exact hi.find_none (fun k _ => pl_lt (hz.resolve_left hz0) k) hk.ne hf i hiz e
/-- A Set finds no node if and only if a rehash is due. -/
theorem due_iff {p : Pa} (h : TI p) {k v : V} (hr : Rng k) : Due p k v ↔ (fm k = true ∧ fm v = true ∧ k.1 ≠ 0 ∧ (pset p k v).2.2 = 12) := by
  constructor
  · rintro ⟨d1, d2, d3, d4, d5, d6⟩
    have hk : KOK k := ⟨d4, d6, hr.1, hr.2⟩
    refine ⟨d4, d5, d6, ?_⟩
    have hA : ¬ inA p.n k := fun q => by unfold plc at d1; rw [if_pos q] at d1; have := q.2.2.1; omega
    have hno : (fnd p.z p.g k).1 = none := by
      unfold plc at d1
      rw [if_neg hA] at d1
      cases hf : (fnd p.z p.g k).1 with
      | none => rfl
      | some i => rw [hf] at d1; simp only at d1; omega
    unfold pset
    rw [if_neg hA]
    show (put p.z p.g k v).2.2 = 12
    by_cases hz0 : p.z = 0
    · rw [put, if_pos ⟨d4, d5⟩, if_neg d6, if_pos hz0, if_neg d3]
    · rw [put, if_pos ⟨d4, d5⟩, if_neg d6, if_neg hz0]
      have hz' := h.rt.resolve_left hz0
      rw [fnd_good hz0 hk] at hno
      cases hf : find (pl p.z) p.g k with
      | mk o n =>
        rw [hf] at hno
        simp only at hno
        subst hno
        simp only
        rw [if_neg d3]
        have hpl := pl_lt hz' k
        have e : (ins (pl p.z) p.g k v).2 = false := by
          unfold ins
          rw [if_neg (d2 _ hpl), tf_full p.g.f (fun i hi => d2 i (by have := h.inv.fle; omega))]
        rw [e]; rfl
  · rintro ⟨d4, d5, d6, he⟩
    have hk : KOK k := ⟨d4, d6, hr.1, hr.2⟩
    obtain ⟨hA, _, hv0, hnew, hfull, _⟩ := h.full hk he
    refine ⟨?_, hfull, hv0, d4, d5, d6⟩
    unfold plc
    rw [if_neg hA]
    cases hf : fnd p.z p.g k with
    | mk o n =>
      cases o with
      | none => exact Int.le_refl _
      | some i =>
        exfalso
        have hz0 : p.z ≠ 0 := fun q => by
          have := (fnd_lt h.inv h.rt hr hf).1; omega
        rw [fnd_good hz0 hk] at hf
        obtain ⟨_, h2, h3⟩ := h.inv.find_some (fun k _ => pl_lt (h.rt.resolve_left hz0) k) hk hf
        exact hnew i (fnd_lt h.inv h.rt hr (by rw [fnd_good hz0 hk]; exact hf)).1 (by assumption)

theorem reh_err {u : TS} {s : H.St} {k : V} (h : (reh u s k).2.2 ≠ 0) : (reh u s k).1 = u := by
  unfold reh at h ⊢
  by_cases q : rsE u.p k = 0
  · rw [if_neg (fun x => x q)] at h ⊢
    by_cases q2 : tpE s (rsA u.p k) (rsZ u.p k) = 0
    · rw [if_neg (fun x => x q2)] at h; exact absurd rfl h
    · rw [if_pos q2]
  · rw [if_pos q]
theorem set_same {t : TS} {s : H.St} {k v : V} (h : TI t.p) (hr : Rng k) (hno : ¬ (Due t.p k v ∧ (tset t s k v).2.2 = 0)) : (tset t s k v).1.p.n = t.p.n ∧ (tset t s k v).1.p.z = t.p.z := by
  unfold tset at hno ⊢
  by_cases hf : fm k = true ∧ fm v = true
  · rw [if_neg (fun q => q hf)] at hno ⊢
    by_cases hk0 : k.1 = 0
    · rw [if_pos hk0]; exact ⟨rfl, rfl⟩
    · rw [if_neg hk0] at hno ⊢
      by_cases he : (pset t.p k v).2.2 = 12
      · rw [if_neg (fun q => q he)] at hno ⊢
        have hd := (due_iff h hr).2 ⟨hf.1, hf.2, hk0, he⟩
        by_cases hR : (reh (one t k v) s k).2.2 = 0
        · rw [if_neg (fun q => q hR)] at hno ⊢
          exfalso
          refine hno ⟨hd, ?_⟩
          have hk : KOK k := ⟨hf.1, hk0, hr.1, hr.2⟩
          have hs := tset_map (s := s) (k := k) (v := v) h hr
          have e : (tset t s k v).2.2 = (pset (reh (one t k v) s k).1.p k v).2.2 := by
            unfold tset
            rw [if_neg (fun q => q hf), if_neg hk0, if_neg (fun q => q he), if_neg (fun q => q hR)]
          show (pset (reh (one t k v) s k).1.p k v).2.2 = 0
          obtain ⟨hA, hv, hv0, hnew, _, _, _, ha⟩ := h.full hk he
          have h1 : TI (one t k v).p := h.set hr hv
          have hA1 : ¬ inA (one t k v).p.n k := by show ¬ inA (pset t.p k v).1.n k; rw [(pset_nz t.p k v).1]; exact hA
          have ep : pset t.p k v = ({ t.p with g := (put t.p.z t.p.g k v).1 }, (put t.p.z t.p.g k v).2.1, (put t.p.z t.p.g k v).2.2) := by unfold pset; rw [if_neg hA]
          have hnew1 : ∀ i, i < (one t k v).p.z → (one t k v).p.g.K i ≠ k := fun i hi e => by
            have hi2 : i < t.p.z := by rw [← (pset_nz t.p k v).2]; exact hi
            have he' : (put t.p.z t.p.g k v).2.2 = 12 := by rw [ep] at he; exact he
            have e2 := (put_12 h.inv h.rt hk he').2.2.2.2.1
            have e3 : (pset t.p k v).1.g.K i = k := e
            rw [ep] at e3
            have e4 : (put t.p.z t.p.g k v).1.K i = k := e3
            rw [e2] at e4
            exact hnew i hi2 e4
          have e0 : rsE (one t k v).p k = 0 := by
            unfold reh at hR
            by_cases q : rsE (one t k v).p k = 0
            · exact q
            · rw [if_pos q] at hR; exact absurd hR q
          have e1 : (reh (one t k v) s k).1.p = fill (one t k v).p (fresh (rsA (one t k v).p k) (rsZ (one t k v).p k)) := by
            unfold reh at hR ⊢
            rw [if_neg (fun q => q e0)] at hR ⊢
            by_cases q : tpE s (rsA (one t k v).p k) (rsZ (one t k v).p k) = 0
            · rw [if_neg (fun x => x q)]
            · rw [if_pos q] at hR; exact absurd hR q
          rw [e1]
          exact (h1.behind hk hv hv0 hA1 hnew1 ha e0).2.2.2.2.2
        · rw [if_pos hR, reh_err hR]
          exact pset_nz t.p k v
      · rw [if_pos he]; exact pset_nz t.p k v
  · rw [if_pos hf]; exact ⟨rfl, rfl⟩
theorem set_due {t : TS} {s : H.St} {k v : V} (h : TI t.p) (hr : Rng k) (hd : Due t.p k v) (hz : (tset t s k v).2.2 = 0) (ti' : TI (tset t s k v).1.p) :
    Fits (pres (tset t s k v).1.p) (tset t s k v).1.p.n (tset t s k v).1.p.z ∧ (tset t s k v).1.hint = 0 := by
  obtain ⟨d4, d5, d6, he⟩ := (due_iff h hr).1 hd
  have hk : KOK k := ⟨d4, d6, hr.1, hr.2⟩
  obtain ⟨mk1, _, mk2, mk3⟩ := (tset_map (s := s) (k := k) (v := v) h hr).1 hz
  obtain ⟨hA, hv, hv0, hnew, _, _, hpp, ha⟩ := h.full hk he
  have h1 : TI (one t k v).p := h.set hr hv
  have hb : ∀ k', pget (pset t.p k v).1 k' = pget t.p k' := pset_bad (by rw [he]; decide)
  have et : tset t s k v = if (reh (one t k v) s k).2.2 ≠ 0 then reh (one t k v) s k
      else ({ (reh (one t k v) s k).1 with p := (pset (reh (one t k v) s k).1.p k v).1 }, (reh (one t k v) s k).2.1, (pset (reh (one t k v) s k).1.p k v).2.2) := by
    unfold tset
    rw [if_neg (fun q => q ⟨d4, d5⟩), if_neg d6, if_neg (fun q => q he)]
  have hR : (reh (one t k v) s k).2.2 = 0 := by
    by_cases q : (reh (one t k v) s k).2.2 = 0
    · exact q
    · rw [et, if_pos q] at hz; exact absurd hz q
  rw [if_neg (fun q => q hR)] at et
  have e0 : rsE (one t k v).p k = 0 := by
    unfold reh at hR
    by_cases q : rsE (one t k v).p k = 0
    · exact q
    · rw [if_pos q] at hR; exact absurd hR q
  have e1 : (reh (one t k v) s k).1.p = fill (one t k v).p (fresh (rsA (one t k v).p k) (rsZ (one t k v).p k)) ∧ (reh (one t k v) s k).1.hint = 0 := by
    unfold reh at hR ⊢
    rw [if_neg (fun q => q e0)] at hR ⊢
    by_cases q : tpE s (rsA (one t k v).p k) (rsZ (one t k v).p k) = 0
    · rw [if_neg (fun x => x q)]; exact ⟨rfl, rfl⟩
    · rw [if_pos q] at hR; exact absurd hR q
  obtain ⟨_, F, _, _⟩ := (cens (p := (one t k v).p) ha.ok ha.nd).resolve_left (fun q => by rw [e0] at q; cases q)
  have hnz : (tset t s k v).1.p.n = rsA (one t k v).p k ∧ (tset t s k v).1.p.z = rsZ (one t k v).p k := by
    rw [et]
    show (pset (reh (one t k v) s k).1.p k v).1.n = _ ∧ (pset (reh (one t k v) s k).1.p k v).1.z = _
    rw [(pset_nz _ k v).1, (pset_nz _ k v).2, e1.1, (fill_nz _ _).1, (fill_nz _ _).2]
    exact ⟨rfl, rfl⟩
  refine ⟨?_, by rw [et]; exact e1.2⟩
  rw [hnz.1, hnz.2]
  refine F.perm ?_
  refine (List.perm_ext_iff_of_nodup ha.nd ti'.pres_nd).2 fun k' => ?_
  rw [ti'.mem_pres, List.mem_append, List.mem_singleton]
  have hm1 : ∀ k', k' ∈ pres (one t k v).p ↔ KOK k' ∧ (pget t.p k').1 ≠ 0 := fun k' => by rw [h1.mem_pres]; show _ ∧ (pget (pset t.p k v).1 k').1 ≠ 0 ↔ _; rw [hb]
  have hm2 := hm1 k'
  constructor
  · rintro (q | rfl)
    · obtain ⟨q1, q2⟩ := hm2.1 q
      refine ⟨q1, ?_⟩
      by_cases e : k' = k
      · subst e; rw [mk2]; exact hv0
      · rw [mk3 k' q1 e]; exact q2
    · exact ⟨hk, by rw [mk2]; exact hv0⟩
  · rintro ⟨q1, q2⟩
    by_cases e : k' = k
    · exact .inr e
    · left
      rw [mk3 k' q1 e] at q2
      exact hm2.2 ⟨q1, q2⟩
end Go.Proofs.Ytonopchpnhninab

/- Where a law stands that plays on one table: its state, and each call's contract there. -/
namespace Go.Proofs.Ytonopchpnhninab
open Go.RowKit

structure Ms (P : Nat → Prop) (W w : World) (X : Nat) (xs : Value) (T S hb c : Nat) (t : TS) (s : H.St) (L : Int) : Prop where
  tt : ∃ A b a, TT P w T A b a S hb c t s
  lo : ∀ g, g ≤ X → P g
  bel : Below X W w
  xc : w.cell? ⟨X, 3, none⟩ = some xs
  sz : X < w.heap.size
  tb : TB t s L
variable {P : Nat → Prop} {W w w' : World} {X : Nat} {xs : Value} {T S hb c : Nat} {t : TS} {s : H.St} {L : Int}
theorem Ms.ti (h : Ms P W w X xs T S hb c t s L) : TI t.p ∧ H.Inv 0 s := by obtain ⟨A, b, a, ht⟩ := h.tt; exact ⟨ht.ti, ht.iv⟩
theorem Ms.below (h : Ms P W w X xs T S hb c t s L) (k : Below w.heap.size w w') : Ms P W w' X xs T S hb c t s L := by
  obtain ⟨A, b, a, ht⟩ := h.tt
  exact ⟨⟨A, b, a, ht.below k⟩, h.lo, bthen h.bel (Nat.le_of_lt h.sz) k, by rw [k.cell (by exact h.sz)]; exact h.xc, Nat.lt_of_lt_of_le h.sz k.size, h.tb⟩
theorem Ms.news (h : Ms P W w X xs T S hb c t s L) (k : Below w.heap.size w w') : Ms (fun g => P g ∨ (w.heap.size ≤ g ∧ g < w'.heap.size)) W w' X xs T S hb c t s L := by
  obtain ⟨A, b, a, ht⟩ := h.tt
  exact ⟨⟨A, b, a, ht.news k⟩, fun g q => .inl (h.lo g q), bthen h.bel (Nat.le_of_lt h.sz) k, by rw [k.cell (by exact h.sz)]; exact h.xc, Nat.lt_of_lt_of_le h.sz k.size, h.tb⟩
theorem Ms.kept (h : Ms P W w X xs T S hb c t s L) {c' : Nat} {t' : TS} {s' : H.St} (ht : ∃ A b a, TT P w' T A b a S hb c' t' s') (k : Keep P w w') (tb : TB t' s' L) : Ms P W w' X xs T S hb c' t' s' L :=
  ⟨ht, h.lo, h.bel.trans (k.below (Nat.le_of_lt h.sz) (fun g hg => h.lo g (Nat.le_of_lt hg))), by rw [World.cell?_of_block (w := w) (k.block X h.sz (h.lo X (Nat.le_refl _)))]; exact h.xc, Nat.lt_of_lt_of_le h.sz k.size, tb⟩
theorem TB.pr (h : TB t s L) (r : Int) : TB { t with pr := r } s L := ⟨h.b1, h.b2, h.ne, h.live⟩
theorem Ms.set (h : Ms P W w X xs T S hb c t s L) (hc : c ≤ 700000) (k v : V) (hr : Rng k) :
    Calls Try.prog 11 #[tp T, vv k, vv v] w fun e w' => e = .returned (.int .i64 (tset t s k v).2.2) ∧ Ms P W w' X xs T S hb (c + 7) (tset t s k v).1 (tset t s k v).2.1 L ∧ Keep P w w' := by
  obtain ⟨A, b, a, ht⟩ := h.tt
  refine (tset_any ht hc k v hr).mono ?_
  rintro e w' ⟨rfl, h', kk⟩
  exact ⟨rfl, h.kept h' kk (h.tb.set ht.iv k v).1, kk⟩
theorem Ms.get (h : Ms P W w X xs T S hb c t s L) (hc : c ≤ 700000) (k : V) (hr : Rng k) :
    Calls Try.prog 26 #[tp T, vv k] w fun e w' => e = .returned (vv (pget t.p k)) ∧ Ms P W w' X xs T S hb (c + 1) { t with pr := t.pr + (prd t.p k : Nat) } s L ∧ Keep P w w' := by
  obtain ⟨A, b, a, ht⟩ := h.tt
  refine (tget_any ht (by omega) k hr).mono ?_
  rintro e w' ⟨rfl, h', kk⟩
  exact ⟨rfl, h.kept ⟨A, b, a, h'⟩ kk (h.tb.pr _), kk⟩
theorem Ms.place (h : Ms P W w X xs T S hb c t s L) (hc : c ≤ 700000) (k : V) (hr : Rng k) :
    Calls Try.prog 23 #[tp T, vv k] w fun e w' => e = .returned (.int .i64 (plc t.p k)) ∧ Ms P W w' X xs T S hb (c + 1) { t with pr := t.pr + (prd t.p k : Nat) } s L ∧ Keep P w w' := by
  obtain ⟨A, b, a, ht⟩ := h.tt
  refine (place_any ht (by omega) k hr).mono ?_
  rintro e w' ⟨rfl, h', kk⟩
  exact ⟨rfl, h.kept ⟨A, b, a, h'⟩ kk (h.tb.pr _), kk⟩
theorem Ms.stats (h : Ms P W w X xs T S hb c t s L) : Calls Try.prog 12 #[tp T] w fun e w' => e = .returned (ts t) ∧ Below w.heap.size w w' := by
  obtain ⟨A, b, a, ht⟩ := h.tt
  exact stats_any ht.tm
theorem Ms.live (h : Ms P W w X xs T S hb c t s L) : Calls Try.prog 18 #[tp S] w fun e w' => e = .returned (.int .i64 s.live) ∧ w' = w := by
  obtain ⟨A, b, a, ht⟩ := h.tt
  obtain ⟨v, hp⟩ := ht.hp
  exact H.live_any _ S _ hp.c1
theorem Ms.full (h : Ms P W w X xs T S hb c t s L) : Calls Try.prog 22 #[tp T] w fun e w' => e = .returned (.bool (decide (∀ i, i < t.p.z → t.p.g.K i ≠ nil))) ∧ Below w.heap.size w w' := by
  obtain ⟨A, b, a, ht⟩ := h.tt
  exact full_any ht.tm ht.ti
theorem Ms.present (h : Ms P W w X xs T S hb c t s L) : Calls Try.prog 21 #[tp T] w fun e w' => ∃ v F, e = .returned v ∧ Lv w' w.heap.size v (pres t.p).length F ∧ Is F (pres t.p).length (pres t.p) ∧ Below w.heap.size w w' := by
  obtain ⟨A, b, a, ht⟩ := h.tt
  exact present_any ht.tm ht.ti
/-- fits, of who is present behind a rehash that was due. -/
theorem Ms.fits (h : Ms P W w X xs T S hb c t s L) {v : Value} {F : Nat → V} {B : Nat} (hl : Lv w' B v (pres t.p).length F) (hi : Is F (pres t.p).length (pres t.p)) (hf : Fits (pres t.p) t.p.n t.p.z) : Calls Try.prog 25 #[ts t, v] w' fun e w'' => e = .returned (.bool true) ∧ Below w'.heap.size w' w'' := by
  have ti := h.ti.1
  have h1 := kA_len t.p.F t.p.n
  have h2 := kH_len t.p.g t.p.z
  have h3 := ti.le
  have h4 := ti.rt.le
  have hm : (pres t.p).length ≤ 200000 := by unfold pres; rw [List.length_append]; omega
  exact fits_any hl (hf.ft (fun k hk => (ti.mem_pres.1 hk).1) hi hm)
end Go.Proofs.Ytonopchpnhninab

/- The pure part of a table: its layout hangs on the keys and on what is Nil alone. -/
namespace Go.Proofs.Ytonopchpnhninab
open Go.RowKit

/-- The text that stands in every value's place. -/
def ot : V := (3, 0, ⟨#[111, 116, 104, 101, 114]⟩)
theorem fm_ot : fm ot = true := by kernel_rfl
/-- The other value. -/
def oo (v : V) : V := if fm v = true ∧ v.1 ≠ 0 then ot else v
theorem oo_fm (v : V) : fm (oo v) = fm v := by
  unfold oo
  by_cases h : fm v = true ∧ v.1 ≠ 0
  · rw [if_pos h, fm_ot, h.1]
  · rw [if_neg h]
theorem oo_0 (v : V) : (oo v).1 = 0 ↔ v.1 = 0 := by
  unfold oo
  by_cases h : fm v = true ∧ v.1 ≠ 0
  · rw [if_pos h]; exact ⟨fun q => absurd q (by decide), fun q => absurd q h.2⟩
  · rw [if_neg h]
theorem oo_nil : oo nil = nil := by unfold oo; rw [if_neg (fun h => h.2 rfl)]
theorem upd_oo (f : Nat → V) (m : Nat) (v : V) : (fun i => oo (upd f m v i)) = upd (fun i => oo (f i)) m (oo v) := by
  funext i; unfold upd; split <;> rfl
def mG (g : G) : G := { g with X := fun i => oo (g.X i) }
def mP (p : Pa) : Pa := { p with F := fun i => oo (p.F i), g := mG p.g }
def mT (t : TS) : TS := { t with p := mP t.p }
theorem ins_oo (pl : V → Nat) (g : G) (k v : V) : ins pl (mG g) k (oo v) = (mG (ins pl g k v).1, (ins pl g k v).2) := by
  unfold ins
  show (if g.K (pl k) = nil then _ else _) = _
  by_cases h : g.K (pl k) = nil
  · rw [if_pos h, if_pos h]
    simp only [mG, ins0, upd_oo]
  · rw [if_neg h, if_neg h]
    show (match tf g.K g.f with | none => _ | some a => _) = _
    cases tf g.K g.f with
    | none => rfl
    | some a =>
      simp only
      show (if pl (g.K (pl k)) = pl k then _ else _) = _
      by_cases h2 : pl (g.K (pl k)) = pl k
      · rw [if_pos h2, if_pos h2]
        simp only [mG, ins1, upd_oo]
      · rw [if_neg h2, if_neg h2]
        simp only [mG, ins2, upd_oo]
theorem put_oo (z : Nat) (g : G) (k v : V) : put z (mG g) k (oo v) = (mG (put z g k v).1, (put z g k v).2.1, (put z g k v).2.2) := by
  unfold put
  rw [oo_fm]
  by_cases hf : fm k = true ∧ fm v = true
  · rw [if_pos hf, if_pos hf]
    by_cases hk : k.1 = 0
    · rw [if_pos hk, if_pos hk]
    · rw [if_neg hk, if_neg hk]
      by_cases hz : z = 0
      · rw [if_pos hz, if_pos hz]
        by_cases h0 : v.1 = 0
        · rw [if_pos h0, if_pos ((oo_0 v).2 h0)]
        · rw [if_neg h0, if_neg (fun q => h0 ((oo_0 v).1 q))]
      · rw [if_neg hz, if_neg hz]
        show (match find (pl z) g k with | (some i, n) => _ | (none, n) => _) = _
        cases find (pl z) g k with
        | mk o n =>
          cases o with
          | some i => simp only [mG, setX, upd_oo]
          | none =>
            simp only
            by_cases h0 : v.1 = 0
            · rw [if_pos h0, if_pos ((oo_0 v).2 h0)]
            · rw [if_neg h0, if_neg (fun q => h0 ((oo_0 v).1 q)), ins_oo]
  · rw [if_neg hf, if_neg hf]
theorem pset_oo (p : Pa) (k v : V) : pset (mP p) k (oo v) = (mP (pset p k v).1, (pset p k v).2.1, (pset p k v).2.2) := by
  unfold pset
  show (if inA p.n k then _ else _) = _
  by_cases h : inA p.n k
  · rw [if_pos h, if_pos h]
    simp only [mP, upd_oo]
  · rw [if_neg h, if_neg h]
    show ({ mP p with g := (put p.z (mG p.g) k (oo v)).1 }, (put p.z (mG p.g) k (oo v)).2.1, (put p.z (mG p.g) k (oo v)).2.2) = _
    rw [put_oo]
    rfl
theorem stp_oo (p : Pa) (k v : V) : stp (mP p) k (oo v) = mP (stp p k v) := by
  unfold stp
  by_cases h0 : v.1 = 0
  · rw [if_pos h0, if_pos ((oo_0 v).2 h0)]
  · rw [if_neg h0, if_neg (fun q => h0 ((oo_0 v).1 q)), pset_oo]
theorem flA_oo (old : Pa) (s : Nat) (p : Pa) (m : Nat) : flA (mP old) s (mP p) m = mP (flA old s p m) := by
  induction m with
  | zero => rfl
  | succ m ih =>
    rw [flA, flA, ih]
    exact stp_oo _ _ _
theorem flH_oo (old p : Pa) (m : Nat) : flH (mP old) (mP p) m = mP (flH old p m) := by
  induction m with
  | zero => rfl
  | succ m ih =>
    rw [flH, flH, ih]
    exact stp_oo _ _ _
theorem fresh_oo (A Z : Nat) : mP (fresh A Z) = fresh A Z := by
  have h : mG (g0 Z) = g0 Z := by
    show ({ g0 Z with X := fun i => oo ((g0 Z).X i) } : G) = _
    have : (fun i => oo ((g0 Z).X i)) = (g0 Z).X := by funext i; exact oo_nil
    rw [this]
  show ({ n := A, F := fun i => oo nil, z := Z, g := mG (g0 Z) } : Pa) = _
  rw [h, oo_nil]; rfl
theorem cpy_oo (old : Pa) (A Z : Nat) : cpy (mP old) (fresh A Z) = mP (cpy old (fresh A Z)) := by
  have hF : (fun i => if i < min A old.n then oo (old.F i) else nil) = fun i => oo (if i < min A old.n then old.F i else nil) := by
    funext i
    split
    · rfl
    · exact oo_nil.symm
  have h := congrArg Pa.g (fresh_oo A Z)
  show ({ n := A, F := fun i => if i < min A old.n then oo (old.F i) else nil, z := Z, g := g0 Z } : Pa) = { n := A, F := fun i => oo (if i < min A old.n then old.F i else nil), z := Z, g := mG (g0 Z) }
  rw [hF]
  congr 1
  exact h.symm
theorem fill_oo (old : Pa) (A Z : Nat) : fill (mP old) (fresh A Z) = mP (fill old (fresh A Z)) := by
  unfold fill
  rw [cpy_oo, ← flH_oo, ← flA_oo]
  rfl
theorem kA_oo (F : Nat → V) (n : Nat) : kA (fun i => oo (F i)) n = kA F n := by
  induction n with
  | zero => rfl
  | succ n ih =>
    rw [kA, kA, ih]
    by_cases h0 : (F n).1 = 0
    · rw [if_pos h0, if_pos ((oo_0 _).2 h0)]
    · rw [if_neg h0, if_neg (fun q => h0 ((oo_0 _).1 q))]
theorem kH_oo (g : G) (n : Nat) : kH (mG g) n = kH g n := by
  induction n with
  | zero => rfl
  | succ n ih =>
    rw [kH, kH, ih]
    show _ ++ (if (oo (g.X n)).1 = 0 then [] else [g.K n]) = _
    by_cases h0 : (g.X n).1 = 0
    · rw [if_pos h0, if_pos ((oo_0 _).2 h0)]
    · rw [if_neg h0, if_neg (fun q => h0 ((oo_0 _).1 q))]
theorem pres_oo (p : Pa) : pres (mP p) = pres p := by
  show kA (fun i => oo (p.F i)) p.n ++ kH (mG p.g) p.z = _
  rw [kA_oo, kH_oo]; rfl
theorem reh_oo (t : TS) (s : H.St) (k : V) : reh (mT t) s k = (mT (reh t s k).1, (reh t s k).2.1, (reh t s k).2.2) := by
  have e1 : rsE (mT t).p k = rsE t.p k := by unfold rsE; show C.szE (ints (pres (mP t.p) ++ [k])) (oth (pres (mP t.p) ++ [k]) : Nat) = _; rw [pres_oo]
  have e2 : rsA (mT t).p k = rsA t.p k := by unfold rsA; show (C.szA (ints (pres (mP t.p) ++ [k])) (oth (pres (mP t.p) ++ [k]) : Nat)).toNat = _; rw [pres_oo]
  have e3 : rsZ (mT t).p k = rsZ t.p k := by unfold rsZ; show (C.szH (ints (pres (mP t.p) ++ [k])) (oth (pres (mP t.p) ++ [k]) : Nat)).toNat = _; rw [pres_oo]
  unfold reh
  rw [e1, e2, e3]
  by_cases h1 : rsE t.p k ≠ 0
  · rw [if_pos h1, if_pos h1]
  · rw [if_neg h1, if_neg h1]
    by_cases h2 : tpE s (rsA t.p k) (rsZ t.p k) ≠ 0
    · rw [if_pos h2, if_pos h2]
    · rw [if_neg h2, if_neg h2]
      show (({ p := fill (mP t.p) (fresh (rsA t.p k) (rsZ t.p k)), sb := _, nb := _, hint := 0, pr := t.pr } : TS), H.giveSt (H.giveSt (tpS s (rsA t.p k) (rsZ t.p k)) t.sb) t.nb, (0 : Int)) = _
      rw [fill_oo]
      rfl
theorem one_oo (t : TS) (k v : V) : one (mT t) k (oo v) = mT (one t k v) := by
  unfold one
  show ({ mT t with p := (pset (mP t.p) k (oo v)).1, pr := t.pr + (pset (mP t.p) k (oo v)).2.1 } : TS) = _
  rw [pset_oo]
  rfl
theorem tset_oo (t : TS) (s : H.St) (k v : V) : tset (mT t) s k (oo v) = (mT (tset t s k v).1, (tset t s k v).2.1, (tset t s k v).2.2) := by
  have ep : pset (mT t).p k (oo v) = (mP (pset t.p k v).1, (pset t.p k v).2.1, (pset t.p k v).2.2) := pset_oo t.p k v
  unfold tset
  rw [oo_fm, one_oo, reh_oo, ep]
  by_cases hf : ¬ (fm k = true ∧ fm v = true)
  · rw [if_pos hf, if_pos hf]
  · rw [if_neg hf, if_neg hf]
    by_cases hk : k.1 = 0
    · rw [if_pos hk, if_pos hk]
    · rw [if_neg hk, if_neg hk]
      simp only
      by_cases h1 : (pset t.p k v).2.2 ≠ 12
      · rw [if_pos h1, if_pos h1]
      · rw [if_neg h1, if_neg h1]
        by_cases h2 : (reh (one t k v) s k).2.2 ≠ 0
        · rw [if_pos h2, if_pos h2]
        · rw [if_neg h2, if_neg h2]
          have eq := pset_oo (reh (one t k v) s k).1.p k v
          show (({ mT (reh (one t k v) s k).1 with p := (pset (mP (reh (one t k v) s k).1.p) k (oo v)).1 } : TS), (reh (one t k v) s k).2.1, (pset (mP (reh (one t k v) s k).1.p) k (oo v)).2.2) = _
          rw [eq]
          rfl
end Go.Proofs.Ytonopchpnhninab

/- Two tables, each on a heap of its own, in one memory. Seat ab's numbers. -/
namespace Go.Proofs.Ytonopchpnhninab
open Go.RowKit

/-- Q: blocks that neither table's call touches. -/
structure V2 (Q : Nat → Prop) (W w : World) (X : Nat) (xs : Value) (T S hb T' S' hb' c : Nat) (t u : TS) (s s' : H.St) : Prop where
  tt : ∃ N1 N2 : Nat → Prop, (∃ A b a, TT N1 w T A b a S hb c t s) ∧ (∃ A b a, TT N2 w T' A b a S' hb' c u s') ∧ (∀ g, g < w.heap.size → N1 g ∨ N2 g) ∧ ∀ g, Q g → N1 g ∧ N2 g
  lo : ∀ g, g ≤ X → Q g
  bel : Below X W w
  xc : w.cell? ⟨X, 3, none⟩ = some xs
  sz : X < w.heap.size
variable {Q : Nat → Prop} {W w w' : World} {X : Nat} {xs : Value} {T S hb T' S' hb' c : Nat} {t u : TS} {s s' : H.St}
theorem V2.swap (h : V2 Q W w X xs T S hb T' S' hb' c t u s s') : V2 Q W w X xs T' S' hb' T S hb c u t s' s := by
  obtain ⟨N1, N2, h1, h2, h3, h4⟩ := h.tt
  exact ⟨⟨N2, N1, h2, h1, fun g q => (h3 g q).symm, fun g q => (h4 g q).symm⟩, h.lo, h.bel, h.xc, h.sz⟩
theorem V2.more {c' : Nat} (h : V2 Q W w X xs T S hb T' S' hb' c t u s s') (hc : c ≤ c') : V2 Q W w X xs T S hb T' S' hb' c' t u s s' := by
  obtain ⟨N1, N2, ⟨A, b, a, h1⟩, ⟨A', b', a', h2⟩, h3, h4⟩ := h.tt
  exact ⟨⟨N1, N2, ⟨A, b, a, h1.more hc⟩, ⟨A', b', a', h2.more hc⟩, h3, h4⟩, h.lo, h.bel, h.xc, h.sz⟩
theorem V2.sub {Q' : Nat → Prop} (h : V2 Q W w X xs T S hb T' S' hb' c t u s s') (hq : ∀ g, Q' g → Q g) (hl : ∀ g, g ≤ X → Q' g) : V2 Q' W w X xs T S hb T' S' hb' c t u s s' := by
  obtain ⟨N1, N2, h1, h2, h3, h4⟩ := h.tt
  exact ⟨⟨N1, N2, h1, h2, h3, fun g q => h4 g (hq g q)⟩, hl, h.bel, h.xc, h.sz⟩
theorem V2.news (h : V2 Q W w X xs T S hb T' S' hb' c t u s s') (k : Below w.heap.size w w') : V2 (fun g => Q g ∨ (w.heap.size ≤ g ∧ g < w'.heap.size)) W w' X xs T S hb T' S' hb' c t u s s' := by
  obtain ⟨N1, N2, ⟨A, b, a, h1⟩, ⟨A', b', a', h2⟩, h3, h4⟩ := h.tt
  refine ⟨⟨_, _, ⟨A, b, a, h1.news k⟩, ⟨A', b', a', h2.news k⟩, fun g q => ?_, fun g q => ?_⟩, fun g q => .inl (h.lo g q), bthen h.bel (Nat.le_of_lt h.sz) k, by rw [k.cell (by exact h.sz)]; exact h.xc, Nat.lt_of_lt_of_le h.sz k.size⟩
  · by_cases hg : g < w.heap.size
    · rcases h3 g hg with r | r
      · exact .inl (.inl r)
      · exact .inr (.inl r)
    · exact .inl (.inr ⟨by omega, q⟩)
  · rcases q with q | q
    · exact ⟨.inl (h4 g q).1, .inl (h4 g q).2⟩
    · exact ⟨.inr q, .inr q⟩
theorem V2.below (h : V2 Q W w X xs T S hb T' S' hb' c t u s s') (k : Below w.heap.size w w') : V2 Q W w' X xs T S hb T' S' hb' c t u s s' := (h.news k).sub (fun _ q => .inl q) h.lo
theorem V2.set (h : V2 Q W w X xs T S hb T' S' hb' c t u s s') (hc : c ≤ 700000) (k v : V) (hr : Rng k) :
    Calls Try.prog 11 #[tp T, vv k, vv v] w fun e w' => e = .returned (.int .i64 (tset t s k v).2.2) ∧ V2 Q W w' X xs T S hb T' S' hb' (c + 7) (tset t s k v).1 u (tset t s k v).2.1 s' ∧ Keep Q w w' := by
  obtain ⟨N1, N2, ⟨A, b, a, h1⟩, ⟨A', b', a', h2⟩, h3, h4⟩ := h.tt
  refine (tset_any h1 hc k v hr).mono ?_
  rintro e w' ⟨rfl, h', kk⟩
  have f2 := h2.frame2 (w' := w') kk.os kk.tape kk.output kk.size (fun g hg hn => kk.block g hg ((h3 g hg).resolve_right hn))
  have kQ : Keep Q w w' := kk.sub (fun g q => (h4 g q).1)
  refine ⟨rfl, ⟨⟨N1, _, h', ⟨A', b', a', f2.more (by omega)⟩, fun g q => ?_, fun g q => ⟨(h4 g q).1, .inl (h4 g q).2⟩⟩, h.lo, h.bel.trans (kQ.below (Nat.le_of_lt h.sz) (fun g hg => h.lo g (Nat.le_of_lt hg))), by rw [World.cell?_of_block (w := w) (kQ.block X h.sz (h.lo X (Nat.le_refl _)))]; exact h.xc, Nat.lt_of_lt_of_le h.sz kQ.size⟩, kQ⟩
  by_cases hg : g < w.heap.size
  · rcases h3 g hg with r | r
    · exact .inl r
    · exact .inr (.inl r)
  · exact .inr (.inr ⟨by omega, q⟩)
theorem V2.stats (h : V2 Q W w X xs T S hb T' S' hb' c t u s s') : Calls Try.prog 12 #[tp T] w fun e w' => e = .returned (ts t) ∧ Below w.heap.size w w' := by
  obtain ⟨N1, N2, ⟨A, b, a, h1⟩, _⟩ := h.tt
  exact stats_any h1.tm
theorem V2.probes (h : V2 Q W w X xs T S hb T' S' hb' c t u s s') : Calls Try.prog 13 #[tp T] w fun e w' => e = .returned (.int .i64 t.pr) ∧ w' = w := by
  obtain ⟨N1, N2, ⟨A, b, a, h1⟩, _⟩ := h.tt
  exact probes_any h1.tm
end Go.Proofs.Ytonopchpnhninab
