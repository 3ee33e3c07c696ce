/- The walk of TopMap. -/
import Derived.Test.YtpmmploedkbeoaaGreatDoorCg26
import Derived.Test.YtpmmploedkbeoaaGreatDoorCg29
import Derived.Deep.LoopGhost
import Derived.Deep.CutBlock
import Derived.Deep.CutRange
namespace Go.Proofs.YtpmmploedkbeoaaGreatDoor
open Go.RowKit

/-- Where the key stands: not yet, or at its place. -/
def AtI (KL : List V) (k : V) (m : Nat) (a : Int) : Prop := (a = -1 ∧ ∀ j : Nat, j < m → KL[j]? ≠ some k) ∨ ∃ j : Nat, a = (j : Nat) ∧ j < m ∧ KL[j]? = some k
theorem AtI.zero (KL : List V) (k : V) : AtI KL k 0 (-1) := .inl ⟨rfl, fun j h => absurd h (Nat.not_lt_zero j)⟩
theorem AtI.yes {KL : List V} {k : V} {m : Nat} (h : KL[m]? = some k) : AtI KL k (m + 1) (m : Nat) := .inr ⟨m, rfl, Nat.lt_succ_self m, h⟩
theorem AtI.no {KL : List V} {k : V} {m : Nat} {a : Int} (h : AtI KL k m a) (hm : KL[m]? ≠ some k) : AtI KL k (m + 1) a := by
  rcases h with ⟨h1, h2⟩ | ⟨j, h1, h2, h3⟩
  · refine .inl ⟨h1, fun j hj => ?_⟩
    by_cases e : j = m
    · rw [e]; exact hm
    · exact h2 j (by omega)
  · exact .inr ⟨j, h1, by omega, h3⟩
theorem AtI.last {KL : List V} {k : V} {a : Int} (h : AtI KL k KL.length a) : (a = -1 ∧ k ∉ KL) ∨ ∃ j : Nat, a = (j : Nat) ∧ j < KL.length ∧ KL[j]? = some k := by
  rcases h with ⟨h1, h2⟩ | h
  · refine .inl ⟨h1, fun hm => ?_⟩
    obtain ⟨j, hj⟩ := List.getElem?_of_mem hm
    exact h2 j (List.getElem?_eq_some_iff.1 hj).1 hj
  · exact .inr h
theorem map_at {KL : List V} {p : Pa} {k : V} {j : Nat} (h : KL[j]? = some k) : (KL.map (pget p)).getD j nil = pget p k := by
  rw [List.getD_eq_getElem?_getD, List.getElem?_map, h]; rfl
theorem get_at {KL : List V} {j : Nat} (h : j < KL.length) : KL[j]? = some (KL.getD j nil) := by
  rw [List.getD_eq_getElem?_getD, List.getElem?_eq_getElem h]; rfl
/-- The tables along the script. -/
theorem mp_chain {w w' : World} {P : Nat → V × V} {R n : Nat} {No : Nat → Prop} {t0 : TS} {s0 : H.St} (hn : n ≤ 120) (hr : ∀ q, Rng (P q).1) (ini : Ini t0 s0) (hT : ∀ j, j ≤ 5 * n → TI (stA kdS (fsS P) t0 s0 j).1.p ∧ H.Inv 0 (stA kdS (fsS P) t0 s0 j).2)
    (hrp : ∀ j, j < 1 + 5 * n → RpA No w' w.heap.size R j (rpA kdS (fsS P) t0 s0 j).1 (rpA kdS (fsS P) t0 s0 j).2) :
    ∃ (tf : Nat → TS) (sf : Nat → H.St), (∀ i, i < n → Pz w' R i (tf i) (sf i) (P i).1 (P i).2) ∧ (∀ i, tf (i + 1) = (t3F (tf i) (sf i) (P i).1 (P i).2).1) ∧ MpT [] (tf 0).p :=
  ⟨fun i => (stA kdS (fsS P) t0 s0 (5 * i)).1, fun i => (stA kdS (fsS P) t0 s0 (5 * i)).2, fun i hi => pz_all hn hr ini hT hrp i hi, fun i => congrArg (fun x => x.1) (p5_of P t0 s0 i).a5, ini.mpt⟩
set_option maxRecDepth 20000 in
set_option maxHeartbeats 16000000 in
theorem map_law {w : World} {ad : Option Addr} {L cp : Nat} {P : Nat → V × V} (hP : Pin w ad L P) (hL : L ≤ cp) (hr : ∀ q, Rng (P q).1) :
    Calls Tryz.prog 4 #[.slice ad L cp] w fun e w' => e = .returned (.bool true) ∧ Below w.heap.size w w' := by
  obtain ⟨n, hn⟩ : ∃ n, min L 120 = n := ⟨_, rfl⟩
  have hn0 : n ≤ 120 ∧ n ≤ L := by omega
  have C7 := script_any (cp := cp) (hP.less hn0.2) hn0.1
  have HP : Hid (Pin w ad n P) := hP.less hn0.2
  have HR : Hid (∀ q, Rng (P q).1) := hr
  have hmin : min (L : Int) 120 = (n : Int) := by omega
  clear hP hr hn
  go_enter Tryz.func4, Tryz.ntmps4
  go_wp2_with fail
  refine C7.mono ?_; rintro e w1 ⟨⟨l, a, c, B, bt, rfl, si⟩⟩
  have CP := play_script si hn0.1 HR.out
  have HB1 : Hid (Below w.heap.size w w1) := si.bl
  generalize l.length = ll at *
  clear C7 si
  go_wp2_with fail
  refine CP.mono ?_; rintro e w2 ⟨⟨R, t0, s0, No, rfl, ini, hT, hrp⟩, hb2⟩
  have HB2 : Hid (Below w.heap.size w w2) := bthen HB1.out HB1.out.size hb2
  obtain ⟨tf, sf, hz, hs, hm0⟩ := mp_chain hn0.1 HR.out ini hT hrp
  have HZ : Hid (∀ i, i < n → Pz w2 R i (tf i) (sf i) (P i).1 (P i).2) := hz
  have HS2 : Hid (∀ i, tf (i + 1) = (t3F (tf i) (sf i) (P i).1 (P i).2).1) := hs
  have HM0 : Hid (MpT [] (tf 0).p) := hm0
  obtain ⟨x0, c0, r0, _⟩ := ((hrp 0 (by omega)).rz).ex
  have r00 : w2.cell? ⟨R, 0, none⟩ = some (.slice x0 1 c0) := r0.c0
  clear CP ini hT hrp hb2 HB1 r0 hz hs hm0
  have w1' : IntKind.i64.wrap (5 * (n : Int)) = 5 * (n : Int) := by rw [IntKind.wrap_i64]; omega
  have w2' : IntKind.i64.wrap (1 + 5 * (n : Int)) = 1 + 5 * (n : Int) := by rw [IntKind.wrap_i64]; omega
  have w0' : (0 : Int) < 1 + 5 * (n : Int) := by omega
  go_wp2_with fail
  clear w1' w2' w0' r00
  go_loopg [5, 6, 7] n (fun g kv vv iv wr => ∃ (i : Nat) (KL : List V), iv = .int .i64 (i : Nat) ∧ i ≤ n ∧ g = n - i ∧ Hid (MI w2 wr kv vv KL (tf i).p i))
  case atStart => exact ⟨0, [], rfl, by omega, by omega, MI.first (Below.refl _ _) HM0.out⟩
  case round => as_aux_lemma =>
    obtain ⟨i, KL, rfl, hi, hg, HM⟩ := hrel
    rename World => w3
    obtain ⟨ak, ck, rfl⟩ := HM.out.k.form
    obtain ⟨av, cv, rfl⟩ := HM.out.v.form
    have hkl := HM.out.len
    obtain ⟨m, hm⟩ : ∃ m, KL.length = m := ⟨_, rfl⟩
    rw [hm] at hkl ⊢
    have HLN : Hid (KL.length = m) := hm
    clear hm
    by_cases hlt : i < n
    · have hlt' : (i : Int) < (n : Int) := by omega
      have wi : IntKind.i64.wrap ((i : Int) + 1) = (i : Int) + 1 := by rw [IntKind.wrap_i64]; omega
      obtain ⟨k, hk⟩ : ∃ k, (P i).1 = k := ⟨_, rfl⟩
      obtain ⟨v, hv⟩ : ∃ v, (P i).2 = v := ⟨_, rfl⟩
      have HPK : Hid (∀ W, Below w3.heap.size w3 W → ∃ lb off, ad = some ⟨lb, off, none⟩ ∧ lb < w.heap.size ∧ W.cell? ⟨lb, off + i * 6, none⟩ = some (.int .i64 k.1) ∧ W.cell? ⟨lb, off + i * 6 + 1, none⟩ = some (.int .i64 k.2.1) ∧ W.cell? ⟨lb, off + i * 6 + 2, none⟩ = some (.string k.2.2) ∧
          W.cell? ⟨lb, off + i * 6 + 3, none⟩ = some (.int .i64 v.1) ∧ W.cell? ⟨lb, off + i * 6 + 4, none⟩ = some (.int .i64 v.2.1) ∧ W.cell? ⟨lb, off + i * 6 + 5, none⟩ = some (.string v.2.2)) := fun W b => by
        obtain ⟨lb, off, e, hl, c0, c1, c2, c3, c4, c5⟩ := HP.out.at' i hlt
        have bl := bthen HB2.out HB2.out.size (bthen HM.out.bl HM.out.bl.size b)
        have eb : ∀ x, W.cell? ⟨lb, x, none⟩ = w.cell? ⟨lb, x, none⟩ := fun x => World.cell?_of_block (w := w) (bl.block lb hl)
        rw [hk] at c0 c1 c2
        rw [hv] at c3 c4 c5
        exact ⟨lb, off, e, hl, (eb _).trans c0, (eb _).trans c1, (eb _).trans c2, (eb _).trans c3, (eb _).trans c4, (eb _).trans c5⟩
      obtain ⟨t, ht⟩ : ∃ t, tf i = t := ⟨_, rfl⟩
      obtain ⟨s, hs⟩ : ∃ s, sf i = s := ⟨_, rfl⟩
      have HZ' := HZ.out i hlt
      have HS' := HS2.out i
      rw [ht, hs, hk, hv] at HZ' HS'
      rw [ht] at HM
      have HZi : Hid (Pz w2 R i t s k v) := HZ'
      have HSi : Hid (tf (i + 1) = (t3F t s k v).1) := HS'
      clear HZ' HS' hk hv ht hs
      go_wp2_with fail
      go_loopw [8, 9] (fun av' kv' wx => ∃ (q : Nat) (a : Int), av' = .int .i64 a ∧ kv' = .int .i64 (q : Nat) ∧ q ≤ m ∧ Hid (AtI KL k q a) ∧ Hid (Below w3.heap.size w3 wx)) (fun _ kv' _ => m - (intOf kv').toNat)
      case atStart => exact ⟨0, -1, rfl, rfl, by omega, AtI.zero _ _, Below.refl _ _⟩
      case round => as_aux_lemma =>
        obtain ⟨q, a, rfl, rfl, hq, HA, HW⟩ := hrel
        by_cases hlq : q < m
        · have hlq' : (q : Int) < (m : Int) := by omega
          have wq : IntKind.i64.wrap ((q : Int) + 1) = (q : Int) + 1 := by rw [IntKind.wrap_i64]; omega
          have HML := HM.out.below HW.out
          obtain ⟨gk, ck', hk', _, hgl, _, d0, d1, d2⟩ := HML.k.at (i := q) (by rw [HLN.out]; exact hlq)
          have hy : KL[q]? = some (KL.getD q nil) := get_at (by rw [HLN.out]; exact hlq)
          injection hk' with hk1 hk2 hk3
          subst hk1 hk3
          obtain ⟨pb, pf, rfl, hpb, q0, q1, q2, _, _, _⟩ := HPK.out _ HW.out
          generalize KL.getD q nil = y at *
          have HY : Hid (KL[q]? = some y) := hy
          clear hy HML hgl hpb hk2
          have N := eql32 y.1 y.2.1 k.1 k.2.1 y.2.2 k.2.2
          unfold vl at N
          have g32 := guard32
          by_cases hyk : y = k
          · rw [decide_eq_true (show (y.1, y.2.1, y.2.2) = (k.1, k.2.1, k.2.2) from hyk)] at N
            have HQ : Hid (y = k) := hyk
            clear hyk
            go_wp2_with fail
            go_quiet (fail)
            go_wp2_with fail
            go_roundw
            case rel => exact ⟨q + 1, (q : Nat), rfl, by go_num, by omega, AtI.yes (HQ.out ▸ HY.out), (bthen HW.out HW.out.size (bdrN _ _) : Below _ _ _)⟩
            case measure => first | omega | (simp only [intOf]; omega) | (simp; omega)
          · rw [decide_eq_false (show ¬ (y.1, y.2.1, y.2.2) = (k.1, k.2.1, k.2.2) from hyk)] at N
            have HQ : Hid (y ≠ k) := hyk
            clear hyk
            go_wp2_with fail
            go_quiet (fail)
            go_wp2_with fail
            go_roundw
            case rel => exact ⟨q + 1, a, rfl, by go_num, by omega, AtI.no HA.out (by rw [HY.out]; exact fun e => HQ.out (Option.some.inj e)), (bthen HW.out HW.out.size (bdrN _ _) : Below _ _ _)⟩
            case measure => first | omega | (simp only [intOf]; omega) | (simp; omega)
        · have e0 : q = m := by omega
          subst e0
          have hlq' : ¬ (q : Int) < (q : Int) := by omega
          rename World => w4
          have HAL : Hid ((a = -1 ∧ k ∉ KL) ∨ ∃ j : Nat, a = (j : Nat) ∧ j < KL.length ∧ KL[j]? = some k) := by
            have := HA.out
            rw [← HLN.out] at this
            exact this.last
          go_upto_if 73 with fail
          go_cut [10] from 48 to 202 (fun pw wy => ∃ (N : Nat) (x : V), pw = .pointer (some ⟨N, 0, none⟩) ∧ w4.heap.size ≤ N ∧ Hid (V3 wy N x ∧ Below w4.heap.size w4 wy ∧ ((gotF t k).2 = 0 → x = pget t.p k)))
          case first => as_aux_lemma =>
            rcases HAL.out with ⟨rfl, hn⟩ | ⟨j, rfl, hj, hjk⟩
            · have HNN : Hid (k ∉ KL) := hn
              clear hn
              go_wp2_with fail
              go_meet
              case rel => exact ⟨_, nil, rfl, Nat.le_refl _, V3.made w4 nil, b1 _ _, fun e => ((HZi.out.rd.got HM.out.mp e).2 HNN.out).symm⟩
            · have HMV := HM.out.below (bthen HW.out HW.out.size (b1 w4 (.cells #[.int .i64 0, .int .i64 0, .string ⟨#[]⟩] 37)))
              obtain ⟨gv, cv', hv', _, hgl, _, d0, d1, d2⟩ := HMV.v.at (i := j) hj
              rw [map_at hjk] at d0 d1 d2
              injection hv' with hk1 hk2 hk3
              subst hk1 hk3
              have hjq : (j : Int) < (q : Int) := by have := HLN.out; omega
              have hj0 : (0 : Int) ≤ (j : Int) := by omega
              have hgv : gv < w4.heap.size := (((HM.out.below HW.out).v).own_lt (g := gv) (by simp [Value.ownBlock])).2
              have hne : gv ≠ w4.heap.size := by omega
              clear hk2 HMV hgl
              trace_state
              go_wp2_with fail
              trace_state
              go_meet
              case rel => exact ⟨_, pget t.p k, rfl, Nat.le_refl _, V3.made w4 _, b1 _ _, fun e => rfl⟩
          case rest =>
            obtain ⟨N0, x, rfl, hN0, HV⟩ := hcut
            rename World => w5
            have HB5 : Hid (Below w3.heap.size w3 w5) := bthen HW.out HW.out.size HV.out.2.1
            have HB25 : Hid (Below w2.heap.size w2 w5) := bthen HM.out.bl HM.out.bl.size HB5.out
            have z := HZi.out.below HB25.out
            obtain ⟨x2, c2, r2, v2⟩ := z.z2.ex
            obtain ⟨x3, c3, r3, v3⟩ := z.z3.ex
            obtain ⟨x5, c5, r5', v5'⟩ := HZi.out.z5.ex
            have r5 := r5'.below HB25.out
            have v5 := v5'.below HB25.out
            have HV52 : Hid (Vin w2 x5 (prL (wl (t3F t s k v).1.p)).length (fun j => (prL (wl (t3F t s k v).1.p)).getD j nil)) := v5'
            have HD : Hid (Rd t s k v) := z.rd
            have HV2 : Hid (Vin w5 x2 (gotF t k).1.length (fun j => (gotF t k).1.getD j nil)) := v2
            have HV5 : Hid (Vin w5 x5 (prL (wl (t3F t s k v).1.p)).length (fun j => (prL (wl (t3F t s k v).1.p)).getD j nil)) := v5
            obtain ⟨er, he⟩ : ∃ er, errF t s k v = er := ⟨_, rfl⟩
            obtain ⟨e2, he2⟩ : ∃ e2, (gotF t k).2 = e2 := ⟨_, rfl⟩
            obtain ⟨L2, hL2⟩ : ∃ L2, (gotF t k).1.length = L2 := ⟨_, rfl⟩
            obtain ⟨lL, hlL5⟩ : ∃ lL, (prL (wl (t3F t s k v).1.p)).length = lL := ⟨_, rfl⟩
            rw [he] at r3
            rw [he2, hL2] at r2
            have r3 : Ro w5 R ((3 + 5 * i) * 11) (.slice x3 0 c3) er := r3
            have r5 : Ro w5 R ((5 + 5 * i) * 11) (.slice x5 (prL (wl (t3F t s k v).1.p)).length c5) 0 := r5
            rw [hlL5] at r5
            have HER : Hid (errF t s k v = er) := he
            have HE2 : Hid ((gotF t k).2 = e2) := he2
            have HL2 : Hid ((gotF t k).1.length = L2) := hL2
            have HLL : Hid ((prL (wl (t3F t s k v).1.p)).length = lL) := hlL5
            clear he he2 hL2 hlL5
            have g5 : IntKind.i64.wrap (5 * (i : Int)) = 5 * (i : Int) := by rw [IntKind.wrap_i64]; omega
            have g2' : IntKind.i64.wrap (2 + 5 * (i : Int)) = 2 + 5 * (i : Int) := by rw [IntKind.wrap_i64]; omega
            have l2 : 2 + 5 * (i : Int) < 1 + 5 * (n : Int) := by omega
            have m2 : 0 ≤ 2 + 5 * (i : Int) := by omega
            have t2 : (2 + 5 * (i : Int)).toNat = 2 + 5 * i := by omega
            have g3' : IntKind.i64.wrap (3 + 5 * (i : Int)) = 3 + 5 * (i : Int) := by rw [IntKind.wrap_i64]; omega
            have l3 : 3 + 5 * (i : Int) < 1 + 5 * (n : Int) := by omega
            have m3 : 0 ≤ 3 + 5 * (i : Int) := by omega
            have t3 : (3 + 5 * (i : Int)).toNat = 3 + 5 * i := by omega
            have g5' : IntKind.i64.wrap (5 + 5 * (i : Int)) = 5 + 5 * (i : Int) := by rw [IntKind.wrap_i64]; omega
            have l5 : 5 + 5 * (i : Int) < 1 + 5 * (n : Int) := by omega
            have m5 : 0 ≤ 5 + 5 * (i : Int) := by omega
            have t5 : (5 + 5 * (i : Int)).toNat = 5 + 5 * i := by omega
            have HS : Hid (∀ W, Below w5.heap.size w5 W → S3 R ((2 + 5 * i) * 11) ((3 + 5 * i) * 11) ((5 + 5 * i) * 11) (.slice x2 L2 c2) (.slice x3 0 c3) (.slice x5 lL c5) e2 er 0 W) := fun W b => ⟨r2.below b, r3.below b, r5.below b⟩
            clear z v2 v3 v5 r2 r3 r5 r5' v5'
            go_wp2_with fail
            refine wp_region_held (S := S3 R ((2 + 5 * i) * 11) ((3 + 5 * i) * 11) ((5 + 5 * i) * 11) (.slice x2 L2 c2) (.slice x3 0 c3) (.slice x5 lL c5) e2 er 0) (by kernel_rfl) ?_
            have HSd := HS.out _ (bdrew1 w5)
            refine take_d (i := 0) (d := some 78) (v := ?v0) rfl rfl (by kernel_rfl) (by kernel_rfl) (by kernel_rfl) (fun _ _ _ h => h) ?hy0 HSd ?hn0
            case hy0 =>
              refine Or.inl ⟨rfl, ?_⟩
              intro W hSw
              clear hSw
              go_simp
              try (with_reducible rfl)
            simp only [Act.put, List.setIfInBounds_toArray, List.set_cons_zero, List.set_cons_succ]
            refine take_d (i := 1) (d := some 79) (v := ?v1) rfl rfl (by kernel_rfl) (by kernel_rfl) (by kernel_rfl) (fun _ _ _ h => h) ?hy1 HSd ?hn1
            case hy1 =>
              refine Or.inl ⟨rfl, ?_⟩
              intro W hSw
              clear hSw
              go_simp
              try (with_reducible rfl)
            simp only [Act.put, List.setIfInBounds_toArray, List.set_cons_zero, List.set_cons_succ]
            refine take_d (i := 2) (d := some 80) (v := ?v2) rfl rfl (by kernel_rfl) (by kernel_rfl) (by kernel_rfl) (fun _ _ _ h => h) ?hy2 HSd ?hn2
            case hy2 =>
              refine Or.inl ⟨rfl, ?_⟩
              intro W hSw
              clear hSw
              go_simp
              try (with_reducible rfl)
            simp only [Act.put, List.setIfInBounds_toArray, List.set_cons_zero, List.set_cons_succ]
            refine take_d (i := 3) (d := some 81) (v := ?v3) rfl rfl (by kernel_rfl) (by kernel_rfl) (by kernel_rfl) (fun _ _ _ h => h) ?hy3 HSd ?hn3
            case hy3 =>
              refine Or.inl ⟨rfl, ?_⟩
              intro W hSw
              clear hSw
              go_simp
              try (with_reducible rfl)
            simp only [Act.put, List.setIfInBounds_toArray, List.set_cons_zero, List.set_cons_succ]
            refine take_d (i := 4) (d := some 82) (v := ?v4) rfl rfl (by kernel_rfl) (by kernel_rfl) (by kernel_rfl) (fun _ _ _ h => h) ?hy4 HSd ?hn4
            case hy4 =>
              refine Or.inl ⟨rfl, ?_⟩
              intro W hSw
              clear hSw
              go_simp
              try (with_reducible rfl)
            simp only [Act.put, List.setIfInBounds_toArray, List.set_cons_zero, List.set_cons_succ]
            refine take_d (i := 5) (d := some 83) (v := ?v5) rfl rfl (by kernel_rfl) (by kernel_rfl) (by kernel_rfl) (fun _ _ _ h => h) ?hy5 HSd ?hn5
            case hy5 =>
              refine Or.inl ⟨rfl, ?_⟩
              intro W hSw
              obtain ⟨⟨b0, b1, b2, b3, b4, b5, b6, b7, b8, b9, b10, _, _⟩, _, _⟩ := hSw
              go_simp
              try (with_reducible rfl)
            simp only [Act.put, List.setIfInBounds_toArray, List.set_cons_zero, List.set_cons_succ]
            refine take_d (i := 6) (d := some 84) (v := ?v6) rfl rfl (by kernel_rfl) (by kernel_rfl) (by kernel_rfl) (fun _ _ _ h => h) ?hy6 HSd ?hn6
            case hy6 =>
              refine Or.inl ⟨rfl, ?_⟩
              intro W hSw
              clear hSw
              go_simp
              try (with_reducible rfl)
            simp only [Act.put, List.setIfInBounds_toArray, List.set_cons_zero, List.set_cons_succ]
            refine take_d (i := 7) (d := some 85) (v := ?v7) rfl rfl (by kernel_rfl) (by kernel_rfl) (by kernel_rfl) (fun _ _ _ h => h) ?hy7 HSd ?hn7
            case hy7 =>
              refine Or.inl ⟨rfl, ?_⟩
              intro W hSw
              clear hSw
              go_simp
              try (with_reducible rfl)
            simp only [Act.put, List.setIfInBounds_toArray, List.set_cons_zero, List.set_cons_succ]
            refine take_d (i := 8) (d := some 86) (v := ?v8) rfl rfl (by kernel_rfl) (by kernel_rfl) (by kernel_rfl) (fun _ _ _ h => h) ?hy8 HSd ?hn8
            case hy8 =>
              refine Or.inl ⟨rfl, ?_⟩
              intro W hSw
              clear hSw
              go_simp
              try (with_reducible rfl)
            simp only [Act.put, List.setIfInBounds_toArray, List.set_cons_zero, List.set_cons_succ]
            refine take_d (i := 9) (d := some 87) (v := ?v9) rfl rfl (by kernel_rfl) (by kernel_rfl) (by kernel_rfl) (fun _ _ _ h => h) ?hy9 HSd ?hn9
            case hy9 =>
              refine Or.inl ⟨rfl, ?_⟩
              intro W hSw
              clear hSw
              go_simp
              try (with_reducible rfl)
            simp only [Act.put, List.setIfInBounds_toArray, List.set_cons_zero, List.set_cons_succ]
            refine take_d (i := 10) (d := some 88) (v := ?v10) rfl rfl (by kernel_rfl) (by kernel_rfl) (by kernel_rfl) (fun _ _ _ h => h) ?hy10 HSd ?hn10
            case hy10 =>
              refine Or.inl ⟨rfl, ?_⟩
              intro W hSw
              clear hSw
              go_simp
              try (with_reducible rfl)
            simp only [Act.put, List.setIfInBounds_toArray, List.set_cons_zero, List.set_cons_succ]
            refine take_d (i := 11) (d := some 89) (v := ?v11) rfl rfl (by kernel_rfl) (by kernel_rfl) (by kernel_rfl) (fun _ _ _ h => h) ?hy11 HSd ?hn11
            case hy11 =>
              refine Or.inl ⟨rfl, ?_⟩
              intro W hSw
              obtain ⟨_, ⟨b0, b1, b2, b3, b4, b5, b6, b7, b8, b9, b10, _, _⟩, _⟩ := hSw
              go_simp
              try (with_reducible rfl)
            simp only [Act.put, List.setIfInBounds_toArray, List.set_cons_zero, List.set_cons_succ]
            refine take_d (i := 12) (d := some 90) (v := ?v12) rfl rfl (by kernel_rfl) (by kernel_rfl) (by kernel_rfl) (fun _ _ _ h => h) ?hy12 HSd ?hn12
            case hy12 =>
              refine Or.inl ⟨rfl, ?_⟩
              intro W hSw
              clear hSw
              go_simp
              try (with_reducible rfl)
            simp only [Act.put, List.setIfInBounds_toArray, List.set_cons_zero, List.set_cons_succ]
            refine take_d (i := 13) (d := some 91) (v := ?v13) rfl rfl (by kernel_rfl) (by kernel_rfl) (by kernel_rfl) (fun _ _ _ h => h) ?hy13 HSd ?hn13
            case hy13 =>
              refine Or.inl ⟨rfl, ?_⟩
              intro W hSw
              clear hSw
              go_simp
              try (with_reducible rfl)
            simp only [Act.put, List.setIfInBounds_toArray, List.set_cons_zero, List.set_cons_succ]
            refine take_d (i := 14) (d := some 92) (v := ?v14) rfl rfl (by kernel_rfl) (by kernel_rfl) (by kernel_rfl) (fun _ _ _ h => h) ?hy14 HSd ?hn14
            case hy14 =>
              refine Or.inl ⟨rfl, ?_⟩
              intro W hSw
              clear hSw
              go_simp
              try (with_reducible rfl)
            simp only [Act.put, List.setIfInBounds_toArray, List.set_cons_zero, List.set_cons_succ]
            refine take_d (i := 15) (d := some 93) (v := ?v15) rfl rfl (by kernel_rfl) (by kernel_rfl) (by kernel_rfl) (fun _ _ _ h => h) ?hy15 HSd ?hn15
            case hy15 =>
              refine Or.inl ⟨rfl, ?_⟩
              intro W hSw
              clear hSw
              go_simp
              try (with_reducible rfl)
            simp only [Act.put, List.setIfInBounds_toArray, List.set_cons_zero, List.set_cons_succ]
            refine take_d (i := 16) (d := some 94) (v := ?v16) rfl rfl (by kernel_rfl) (by kernel_rfl) (by kernel_rfl) (fun _ _ _ h => h) ?hy16 HSd ?hn16
            case hy16 =>
              refine Or.inl ⟨rfl, ?_⟩
              intro W hSw
              clear hSw
              go_simp
              try (with_reducible rfl)
            simp only [Act.put, List.setIfInBounds_toArray, List.set_cons_zero, List.set_cons_succ]
            refine take_d (i := 17) (d := some 95) (v := ?v17) rfl rfl (by kernel_rfl) (by kernel_rfl) (by kernel_rfl) (fun _ _ _ h => h) ?hy17 HSd ?hn17
            case hy17 =>
              refine Or.inl ⟨rfl, ?_⟩
              intro W hSw
              obtain ⟨_, _, ⟨b0, b1, b2, b3, b4, b5, b6, b7, b8, b9, b10, _, _⟩⟩ := hSw
              go_simp
              try (with_reducible rfl)
            simp only [Act.put, List.setIfInBounds_toArray, List.set_cons_zero, List.set_cons_succ]
            refine wpAnyH_boxes0 (bs := [⟨18, 21, 11, 83, .slice x2 L2 c2, e2⟩, ⟨19, 22, 12, 89, .slice x3 0 c3, er⟩, ⟨20, 23, 13, 95, .slice x5 lL c5, 0⟩]) ⟨?hnd, ?hndd, ?hlt, ?hao, ?hso, lo_of (by kernel_rfl), ?hts⟩ rfl (by kernel_rfl) (Nat.le_refl 6) ?hsd ?hva ?hone (fun W b => HS.out W (bdrew_of b)) ?hQ
            case hnd => exact (by decide : List.Nodup [18, 19, 20, 21, 22, 23])
            case hndd => exact (by decide : List.Nodup [11, 12, 13])
            case hlt => exact (by decide : ∀ j ∈ ([18, 19, 20, 21, 22, 23] : List Nat), j < 24)
            case hao =>
              intro b hb; simp only [List.mem_cons, List.not_mem_nil, or_false] at hb; obtain rfl | rfl | rfl := hb
              all_goals exact ⟨_, rfl, rfl, rfl, rfl⟩
            case hso =>
              intro b hb; simp only [List.mem_cons, List.not_mem_nil, or_false] at hb; obtain rfl | rfl | rfl := hb
              · exact ⟨_, rfl, rfl, rfl, rfl, by first | exact ⟨_, List.mem_cons_self .., rfl, rfl⟩ | exact ⟨_, List.mem_cons_of_mem _ (List.mem_cons_self ..), rfl, rfl⟩ | exact ⟨_, List.mem_cons_of_mem _ (List.mem_cons_of_mem _ (List.mem_cons_self ..)), rfl, rfl⟩⟩
              · exact ⟨_, rfl, rfl, rfl, rfl, by first | exact ⟨_, List.mem_cons_self .., rfl, rfl⟩ | exact ⟨_, List.mem_cons_of_mem _ (List.mem_cons_self ..), rfl, rfl⟩ | exact ⟨_, List.mem_cons_of_mem _ (List.mem_cons_of_mem _ (List.mem_cons_self ..)), rfl, rfl⟩⟩
              · exact ⟨_, rfl, rfl, rfl, rfl, by first | exact ⟨_, List.mem_cons_self .., rfl, rfl⟩ | exact ⟨_, List.mem_cons_of_mem _ (List.mem_cons_self ..), rfl, rfl⟩ | exact ⟨_, List.mem_cons_of_mem _ (List.mem_cons_of_mem _ (List.mem_cons_self ..)), rfl, rfl⟩⟩
            case hts =>
              intro b hb; simp only [List.mem_cons, List.not_mem_nil, or_false] at hb; obtain rfl | rfl | rfl := hb
              all_goals (intro c hc; simp only [List.mem_cons, List.not_mem_nil, or_false] at hc; obtain rfl | rfl | rfl := hc <;> (show ¬ _; simp only []; decide))
            case hsd =>
              intro b hb; simp only [List.mem_cons, List.not_mem_nil, or_false] at hb; obtain rfl | rfl | rfl := hb
              all_goals (show (_ : Nat) < _; simp)
            case hva =>
              intro b hb; simp only [List.mem_cons, List.not_mem_nil, or_false] at hb; obtain rfl | rfl | rfl := hb
              all_goals kernel_rfl
            case hone =>
              intro b hb; simp only [List.mem_cons, List.not_mem_nil, or_false] at hb; obtain rfl | rfl | rfl := hb
              all_goals rfl
            case hQ =>
              intro N W hbW hp
              have p1 := hp _ (List.mem_cons_self ..)
              have p2 := hp _ (List.mem_cons_of_mem _ (List.mem_cons_self ..))
              have p3 := hp _ (List.mem_cons_of_mem _ (List.mem_cons_of_mem _ (List.mem_cons_self ..)))
              have hbW : Below w5.heap.size w5 W := bdrew_of hbW
              simp only [List.foldl_cons, List.foldl_nil, Act.put, List.setIfInBounds_toArray, List.set_cons_zero, List.set_cons_succ]
              dsimp only at p1 p2 p3
              generalize N 18 = N1 at *
              generalize N 19 = N2 at *
              generalize N 20 = N3 at *
              have HB6 : Hid (Below w3.heap.size w3 W) := bthen HB5.out HB5.out.size hbW
              have HN3 : Hid (w3.heap.size ≤ N3 ∧ N3 < W.heap.size) := ⟨Nat.le_trans HB5.out.size p3.1, p3.2.lt⟩
              have V0 := HV.out.1.below hbW
              have HF : Hid (∀ W', Below W.heap.size W W' → W'.cell? ⟨N1, 0, none⟩ = some (.slice x2 L2 c2) ∧ W'.cell? ⟨N1, 1, none⟩ = some (.int .i64 e2) ∧ W'.cell? ⟨N2, 1, none⟩ = some (.int .i64 er) ∧ W'.cell? ⟨N3, 0, none⟩ = some (.slice x5 lL c5)) := fun W' b =>
                ⟨(p1.2.below b).c0, (p1.2.below b).c1, (p2.2.below b).c1, (p3.2.below b).c0⟩
              have HXG : Hid (Vin W x2 (gotF t k).1.length (fun j => (gotF t k).1.getD j nil)) := HV2.out.below hbW
              have HX5 : Hid (Vin W x5 (prL (wl (t3F t s k v).1.p)).length (fun j => (prL (wl (t3F t s k v).1.p)).getD j nil)) := HV5.out.below hbW
              obtain ⟨f1, f1e, f2, f3⟩ := HF.out W (Below.refl _ _)
              have k0 := V0.c0
              have k1 := V0.c1
              have k2 := V0.c2
              clear p1 p2 p3 hp hbW HSd HS V0 HV2 HV5
              go_upto_region 19 with fail
              go_cut [112] from 48 to 202 (fun bv wz => bv = .bool false ∧ Hid (Below W.heap.size W wz))
              case first => as_aux_lemma =>
                rcases got_err t k with g | g
                · obtain ⟨q1, q2⟩ := HD.out.got HM.out.mp g
                  have hx : x = pget t.p k := HV.out.2.2 g
                  have e2e : e2 = 0 := HE2.out.symm.trans g
                  have L2e : L2 = 1 := by rw [← HL2.out, q1]; rfl
                  subst e2e L2e
                  have HG := HXG.out
                  rw [q1, ← hx] at HG
                  obtain ⟨gb, gf, rfl, _, y0, y1, y2⟩ := HG.at' 0 Nat.zero_lt_one
                  have y0 : W.cell? ⟨gb, gf, none⟩ = some (.int .i64 x.1) := y0
                  have y1 : W.cell? ⟨gb, gf + 1, none⟩ = some (.int .i64 x.2.1) := y1
                  have y2 : W.cell? ⟨gb, gf + 2, none⟩ = some (.string x.2.2) := y2
                  have Ne := neq32 x.1 x.2.1 x.1 x.2.1 x.2.2 x.2.2
                  simp only [decide_true, Bool.not_true] at Ne
                  unfold vl at Ne
                  have g32 := guard32
                  clear HG q1 q2 hx g
                  go_wp2_with fail
                  go_quiet (fail)
                  go_wp2_with fail
                  go_meet
                  case rel => exact ⟨rfl, bdrN _ _⟩
                · have e2e : e2 = 2 := HE2.out.symm.trans g
                  subst e2e
                  clear g
                  go_wp2_with fail
                  go_quiet (fail)
                  go_wp2_with fail
                  go_meet
                  case rel => exact ⟨rfl, bdrN _ _⟩
              case rest =>
                obtain ⟨rfl, HWz⟩ := hcut
                rename World => w6
                have HB7 : Hid (Below w3.heap.size w3 w6) := bthen HB6.out HB6.out.size HWz.out
                have HM6 : Hid (MI w2 w6 (.slice ak q ck) (.slice av q cv) KL t.p i) := by
                  have := HM.out.below HB7.out
                  rwa [HLN.out] at this
                obtain ⟨_, _, f2', f3'⟩ := HF.out w6 HWz.out
                have HX6 : Hid (Vin w6 x5 (prL (wl (t3F t s k v).1.p)).length (fun j => (prL (wl (t3F t s k v).1.p)).getD j nil)) := HX5.out.below HWz.out
                have HMAP : Hid ((er = 0 → KOK k ∧ pget (t3F t s k v).1.p k = v ∧ ∀ k', KOK k' → k' ≠ k → pget (t3F t s k v).1.p k' = pget t.p k') ∧ (er ≠ 0 → ∀ k', pget (t3F t s k v).1.p k' = pget t.p k')) := by
                  have := HD.out.map
                  rwa [HER.out] at this
                clear f1 f1e f2 f3 k0 k1 k2
                go_upto_region 21 with fail
                go_cut [119] from 48 to 202 (fun bv wz => bv = .bool (decide (er = 0 ∧ a < 0)) ∧ wz = w6)
                case first => as_aux_lemma =>
                  by_cases h0 : er = 0
                  · subst h0
                    by_cases ha : a < 0
                    · have hd : decide ((0 : Int) = 0 ∧ a < 0) = true := decide_eq_true ⟨rfl, ha⟩
                      go_wp2_with fail
                      go_meet
                      case rel => exact ⟨congrArg Value.bool hd.symm, rfl⟩
                    · have hd : decide ((0 : Int) = 0 ∧ a < 0) = false := decide_eq_false (fun q => ha q.2)
                      go_wp2_with fail
                      go_meet
                      case rel => exact ⟨congrArg Value.bool hd.symm, rfl⟩
                  · have hb0 : (er == 0) = false := by simpa using h0
                    have hd : decide (er = 0 ∧ a < 0) = false := decide_eq_false (fun q => h0 q.1)
                    go_wp2_with fail
                    go_meet
                    case rel => exact ⟨congrArg Value.bool hd.symm, rfl⟩
                case rest =>
                  obtain ⟨rfl, rfl⟩ := hcut
                  rename World => w6
                  go_upto_if 119 with fail
                  go_cut [5, 6] from 48 to 202 (fun kv vv wz => ∃ KL' : List V, Hid (MI w2 wz kv vv KL' (t3F t s k v).1.p (i + 1) ∧ Keep (fun y => y < w2.heap.size ∨ y = N3) w6 wz))
                  case first => as_aux_lemma =>
                    by_cases h0 : er = 0
                    · subst h0
                      obtain ⟨hkk, hm1, hm2⟩ := HMAP.out.1 rfl
                      rcases HAL.out with ⟨rfl, hn⟩ | ⟨j, rfl, hj, hjk⟩
                      · have hd : decide ((0 : Int) = 0 ∧ (-1 : Int) < 0) = true := by decide
                        have HNN : Hid (k ∉ KL) := hn
                        have HKK : Hid (KOK k ∧ pget (t3F t s k v).1.p k = v ∧ ∀ k', KOK k' → k' ≠ k → pget (t3F t s k v).1.p k' = pget t.p k') := ⟨hkk, hm1, hm2⟩
                        clear hn hkk hm1 hm2
                        have hsz : w2.heap.size ≤ w6.heap.size := HM6.out.bl.size
                        have hq4 : q ≤ 400 := by omega
                        have LKK : Hid (Lv w6 w2.heap.size (.slice ak q ck) q (fun j => KL.getD j nil)) := by
                          have := HM6.out.k
                          rwa [HLN.out] at this
                        have LVV : Hid (Lv w6 w2.heap.size (.slice av q cv) q (fun j => (KL.map (pget t.p)).getD j nil)) := by
                          have := HM6.out.v
                          rwa [HLN.out] at this
                        obtain ⟨KF, hKF⟩ : ∃ F : Nat → V, (fun j => KL.getD j nil) = F := ⟨_, rfl⟩
                        obtain ⟨VF, hVF⟩ : ∃ F : Nat → V, (fun j => (KL.map (pget t.p)).getD j nil) = F := ⟨_, rfl⟩
                        rw [hKF] at LKK
                        rw [hVF] at LVV
                        have LK0 : Hid (Lv w6 w2.heap.size (.slice ak q ck) q KF) := LKK
                        have LV0 : Hid (Lv w6 w2.heap.size (.slice av q cv) q VF) := LVV
                        have NE1 : Hid ((Value.slice ak q ck).ownBlock = none ∨ (Value.slice ak q ck).ownBlock ≠ (Value.slice av q cv).ownBlock) := by
                          cases z : (Value.slice ak q ck).ownBlock with
                          | none => exact .inl rfl
                          | some x => exact .inr (fun e => HM6.out.ne x z e.symm)
                        have NE2 : Hid ((Value.slice av q cv).ownBlock = none ∨ (Value.slice av q cv).ownBlock ≠ (Value.slice ak q ck).ownBlock) := by
                          cases z : (Value.slice av q cv).ownBlock with
                          | none => exact .inl rfl
                          | some x => exact .inr (fun e => HM6.out.ne x e.symm z)
                        have Hklt : Hid (∀ b, w6.heap.size ≤ b → (Value.slice ak q ck).ownBlock ≠ some b) := fun b hb e => by have := (LK0.out.own_lt e).2; omega
                        have Hvlt : Hid (∀ b, w6.heap.size ≤ b → (Value.slice av q cv).ownBlock ≠ some b) := fun b hb e => by have := (LV0.out.own_lt e).2; omega
                        have hob : ∀ y, (Value.slice ak q ck).ownBlock = some y → w2.heap.size ≤ y ∧ y < w3.heap.size := fun y e => by
                          have := HM.out.k
                          rw [HLN.out] at this
                          exact this.own_lt e
                        have hov : ∀ y, (Value.slice av q cv).ownBlock = some y → w2.heap.size ≤ y ∧ y < w3.heap.size := fun y e => by
                          have := HM.out.v
                          rw [HLN.out] at this
                          exact this.own_lt e
                        have Hkge : Hid (∀ y, (Value.slice ak q ck).ownBlock = some y → ¬ (y < w2.heap.size ∨ y = N3)) := fun y e z => by have := hob y e; have := HN3.out; omega
                        have Hvge : Hid (∀ y, (Value.slice av q cv).ownBlock = some y → ¬ (y < w2.heap.size ∨ y = N3)) := fun y e z => by have := hov y e; have := HN3.out; omega
                        have NEkx : Hid (∀ g c s : Nat, ((Value.slice ak q ck).ownBlock = some g ∨ g = s) → w6.heap.size ≤ s → (Value.slice (some ⟨g, 0, none⟩) (q + 1) c).ownBlock ≠ (Value.slice av q cv).ownBlock) := by
                          intro g c s h hs e
                          rcases h with h | h
                          · exact HM6.out.ne g h e.symm
                          · exact Hvlt.out g (by omega) e.symm
                        have NEvx : Hid (∀ g c s : Nat, ((Value.slice av q cv).ownBlock = some g ∨ g = s) → w6.heap.size ≤ s → (Value.slice (some ⟨g, 0, none⟩) (q + 1) c).ownBlock ≠ (Value.slice ak q ck).ownBlock) := by
                          intro g c s h hs e
                          rcases h with h | h
                          · exact HM6.out.ne g e.symm h
                          · exact Hklt.out g (by omega) e.symm
                        have HADD : Hid (∀ Wf gk ck' gv cv', Keep (fun y => y < w2.heap.size ∨ y = N3) w6 Wf → Lv Wf w2.heap.size (.slice (some ⟨gk, 0, none⟩) (q + 1) ck') (q + 1) (upd KF q k) → Lv Wf w2.heap.size (.slice (some ⟨gv, 0, none⟩) (q + 1) cv') (q + 1) (upd VF q v) → gk ≠ gv →
                            MI w2 Wf (.slice (some ⟨gk, 0, none⟩) (q + 1) ck') (.slice (some ⟨gv, 0, none⟩) (q + 1) cv') (KL ++ [k]) (t3F t s k v).1.p (i + 1)) := by
                          intro Wf gk ck' gv cv' hK h1 h2 hne
                          have e := HLN.out
                          rw [← hKF] at h1
                          rw [← hVF] at h2
                          rw [← e] at h1 h2 ⊢
                          refine HM6.out.add HKK.out.1 HNN.out HKK.out.2.1 HKK.out.2.2 (hK.sub fun y hy => .inl hy) h1 h2 (fun y hx hy => ?_)
                          have e1 : gk = y := by simpa [Value.ownBlock] using hx
                          have e2 : gv = y := by simpa [Value.ownBlock] using hy
                          omega
                        obtain ⟨pb, pf, rfl, hpb, _⟩ := HPK.out w6 HB7.out
                        have HOc : Hid (∀ w', Keep (fun y => y < w2.heap.size ∨ y = N3) w6 w' → w'.cell? ⟨pb, pf + i * 6, none⟩ = some (.int .i64 k.1) ∧ w'.cell? ⟨pb, pf + i * 6 + 1, none⟩ = some (.int .i64 k.2.1) ∧ w'.cell? ⟨pb, pf + i * 6 + 2, none⟩ = some (.string k.2.2) ∧ w'.cell? ⟨pb, pf + i * 6 + 3, none⟩ = some (.int .i64 v.1) ∧ w'.cell? ⟨pb, pf + i * 6 + 4, none⟩ = some (.int .i64 v.2.1) ∧ w'.cell? ⟨pb, pf + i * 6 + 5, none⟩ = some (.string v.2.2)) := by
                          intro w' hK
                          obtain ⟨pb', pf', e, _, o0, o1, o2, o3, o4, o5⟩ := HPK.out w6 HB7.out
                          cases e
                          have hl2 : pb < w2.heap.size := Nat.lt_of_lt_of_le hpb HB2.out.size
                          have hc : ∀ x, w'.cell? ⟨pb, x, none⟩ = w6.cell? ⟨pb, x, none⟩ := fun x => World.cell?_of_block (w := w6) (hK.block pb (by omega) (.inl hl2))
                          exact ⟨(hc _).trans o0, (hc _).trans o1, (hc _).trans o2, (hc _).trans o3, (hc _).trans o4, (hc _).trans o5⟩
                        clear hKF hVF LKK LVV hob hov f2' f3' hpb
                        go_wp2_with fail
                        go_region_held3 (fun w' => w'.cell? ⟨pb, pf + i * 6, none⟩ = some (.int .i64 k.1) ∧ w'.cell? ⟨pb, pf + i * 6 + 1, none⟩ = some (.int .i64 k.2.1) ∧ w'.cell? ⟨pb, pf + i * 6 + 2, none⟩ = some (.string k.2.2) ∧ w'.cell? ⟨pb, pf + i * 6 + 3, none⟩ = some (.int .i64 v.1) ∧ w'.cell? ⟨pb, pf + i * 6 + 4, none⟩ = some (.int .i64 v.2.1) ∧ w'.cell? ⟨pb, pf + i * 6 + 5, none⟩ = some (.string v.2.2)) (exact HOc.out _ (by repeat (first | exact Keep.refl _ _ | refine Keep.drew ?_ | refine Keep.alloc ?_ _ | refine TKk ?_ | refine TKv ?_))) (first
                          | (refine step_app (by rfl) _ _ (by rfl) (by rfl) (v := .slice ak q ck) (by rfl) (x := k) (by exact ⟨_, rfl, by repeat (first | assumption | exact Bx.mk2 _ (by simp) | refine Bx.dr ?_ | refine Bx.al ?_ _ | refine TBk _ _ ?_ (by first | omega | (simp; done) | (simp; omega)) | refine TBv _ _ ?_ (by first | omega | (simp; done) | (simp; omega)))⟩) (B := w2.heap.size) (n := q) (F := KF) (by repeat (first | exact LK0.out | exact LV0.out | assumption | refine Lv.drew ?_ | refine Lv.alloc ?_ _ | refine TLk _ _ _ ?_ (by first | exact NE1.out | exact NE2.out | exact .inr NEk | exact .inr NEv) | refine TLv _ _ _ ?_ (by first | exact NE1.out | exact NE2.out | exact .inr NEk | exact .inr NEv))) (by omega) (by first | omega | (simp; done) | (simp; omega)) ?_; intro gk ck' wk lkN grk atk ltk; have NEk : (Value.slice (some ⟨gk, 0, none⟩) (q + 1) ck').ownBlock ≠ (Value.slice av q cv).ownBlock := NEkx.out gk ck' _ atk (by first | omega | (simp; done) | (simp; omega)); have TLk := fun (v : Value) (n : Nat) (F : Nat → V) (h : Lv _ w2.heap.size v n F) (hne : v.ownBlock = none ∨ v.ownBlock ≠ (Value.slice ak q ck).ownBlock) => h.grown grk hne; have TBk := fun (b : Nat) (x : V) (h : Bx _ b x) (hb : w6.heap.size ≤ b) => Bx.gr grk h (Hklt.out b hb); have TKk := fun (h : Keep (fun y => y < w2.heap.size ∨ y = N3) w6 _) => h.grw grk Hkge.out; have szk := grk.size; try simp at szk)
                          | (refine step_app (by rfl) _ _ (by rfl) (by rfl) (v := .slice av q cv) (by rfl) (x := v) (by exact ⟨_, rfl, by repeat (first | assumption | exact Bx.mk2 _ (by simp) | refine Bx.dr ?_ | refine Bx.al ?_ _ | refine TBk _ _ ?_ (by first | omega | (simp; done) | (simp; omega)) | refine TBv _ _ ?_ (by first | omega | (simp; done) | (simp; omega)))⟩) (B := w2.heap.size) (n := q) (F := VF) (by repeat (first | exact LK0.out | exact LV0.out | assumption | refine Lv.drew ?_ | refine Lv.alloc ?_ _ | refine TLk _ _ _ ?_ (by first | exact NE1.out | exact NE2.out | exact .inr NEk | exact .inr NEv) | refine TLv _ _ _ ?_ (by first | exact NE1.out | exact NE2.out | exact .inr NEk | exact .inr NEv))) (by omega) (by first | omega | (simp; done) | (simp; omega)) ?_; intro gv cv' wv lvN grv atv ltv; have NEv : (Value.slice (some ⟨gv, 0, none⟩) (q + 1) cv').ownBlock ≠ (Value.slice ak q ck).ownBlock := NEvx.out gv cv' _ atv (by first | omega | (simp; done) | (simp; omega)); have TLv := fun (v : Value) (n : Nat) (F : Nat → V) (h : Lv _ w2.heap.size v n F) (hne : v.ownBlock = none ∨ v.ownBlock ≠ (Value.slice av q cv).ownBlock) => h.grown grv hne; have TBv := fun (b : Nat) (x : V) (h : Bx _ b x) (hb : w6.heap.size ≤ b) => Bx.gr grv h (Hvlt.out b hb); have TKv := fun (h : Keep (fun y => y < w2.heap.size ∨ y = N3) w6 _) => h.grw grv Hvge.out; have szv := grv.size; try simp at szv))
                        all_goals
                          have HGN : Hid (gk ≠ gv) := by
                            first
                              | (rcases atv with q | q
                                 · exact fun e => NEk (by rw [q, e]; rfl)
                                 · (show gk ≠ gv; first | omega | (simp at q; omega)))
                              | (rcases atk with q | q
                                 · exact fun e => NEv (by rw [q, ← e]; rfl)
                                 · (show gk ≠ gv; first | omega | (simp at q; omega)))
                          go_wp2_with fail
                          go_meet
                          case rel => exact ⟨KL ++ [k], HADD.out _ _ _ _ _ (by repeat (first | exact Keep.refl _ _ | refine Keep.drew ?_ | refine Keep.alloc ?_ _ | refine TKk ?_ | refine TKv ?_)) (by repeat (first | exact LK0.out | exact LV0.out | assumption | refine Lv.drew ?_ | refine Lv.alloc ?_ _ | refine TLk _ _ _ ?_ (by first | exact NE1.out | exact NE2.out | exact .inr NEk | exact .inr NEv) | refine TLv _ _ _ ?_ (by first | exact NE1.out | exact NE2.out | exact .inr NEk | exact .inr NEv))) (by repeat (first | exact LK0.out | exact LV0.out | assumption | refine Lv.drew ?_ | refine Lv.alloc ?_ _ | refine TLk _ _ _ ?_ (by first | exact NE1.out | exact NE2.out | exact .inr NEk | exact .inr NEv) | refine TLv _ _ _ ?_ (by first | exact NE1.out | exact NE2.out | exact .inr NEk | exact .inr NEv))) HGN.out, (by repeat (first | exact Keep.refl _ _ | refine Keep.drew ?_ | refine Keep.alloc ?_ _ | refine TKk ?_ | refine TKv ?_))⟩
                      · have hd : decide ((0 : Int) = 0 ∧ (j : Int) < 0) = false := decide_eq_false (fun q => by omega)
                        have hjq : (j : Int) < (q : Int) := by have := HLN.out; omega
                        have hj0 : (0 : Int) ≤ (j : Int) := by omega
                        have hjn : ¬ (j : Int) < 0 := by omega
                        have HPU := HM6.out
                        rw [← HLN.out] at HPU
                        obtain ⟨gv, cv', hv', hgB, hgl, hfz, d0, d1, d2⟩ := HPU.v.at (i := j) hj
                        injection hv' with hk1 hk2 hk3
                        subst hk1 hk3
                        have HPUT := HPU.put hjk hm1 hm2
                        rw [HLN.out] at HPUT
                        have HPT : Hid _ := HPUT
                        have hgx : gv < w3.heap.size := (HM.out.v.own_lt (g := gv) (by simp [Value.ownBlock])).2
                        have hgn : ¬ (gv < w2.heap.size ∨ gv = N3) := fun z => by have := HN3.out; omega
                        have HKP : Hid (Keep (fun y => y < w2.heap.size ∨ y = N3) w6 (((w6.setCell ⟨gv, j * 3, none⟩ (.int .i64 v.1)).setCell ⟨gv, j * 3 + 1, none⟩ (.int .i64 v.2.1)).setCell ⟨gv, j * 3 + 2, none⟩ (.string v.2.2))) :=
                          (((Keep.refl _ w6).set (p := ⟨gv, j * 3, none⟩) hgn _).set (p := ⟨gv, j * 3 + 1, none⟩) hgn _).set (p := ⟨gv, j * 3 + 2, none⟩) hgn _
                        obtain ⟨pb, pf, rfl, hpb, _, _, _, o3, o4, o5⟩ := HPK.out w6 HB7.out
                        have z0 := hfz (j * 3)
                        have z1 := hfz (j * 3 + 1)
                        have z2 := hfz (j * 3 + 2)
                        clear HPU HPUT hgx hgn hfz hk2 hpb hgB hgl hm2 hm1 hkk
                        trace_state
                        go_wp2_with fail
                        trace_state
                        go_meet
                        case rel => exact ⟨KL, HPT.out, HKP.out⟩
                    · have hb0 : (er == 0) = false := by simpa using h0
                      have hd : decide (er = 0 ∧ a < 0) = false := decide_eq_false (fun q => h0 q.1)
                      have HSM : Hid (MI w2 w6 (.slice ak q ck) (.slice av q cv) KL (t3F t s k v).1.p (i + 1)) := HM6.out.same (HMAP.out.2 h0)
                      go_wp2_with fail
                      go_meet
                      case rel => exact ⟨KL, HSM.out, Keep.refl _ _⟩
                  case rest =>
                    obtain ⟨KL', HMK⟩ := hcut
                    rename World => w7
                    obtain ⟨ak', ck', hu5⟩ := HMK.out.1.k.form
                    obtain ⟨av', cv', hu6⟩ := HMK.out.1.v.form
                    subst hu5 hu6
                    have HM7 : Hid (MI w2 w7 (.slice ak' KL'.length ck') (.slice av' KL'.length cv') KL' (t3F t s k v).1.p (i + 1)) := HMK.out.1
                    have hkl7 := HM7.out.len
                    obtain ⟨m7, hm7⟩ : ∃ m7, KL'.length = m7 := ⟨_, rfl⟩
                    rw [hm7] at hkl7 ⊢
                    have HL7 : Hid (KL'.length = m7) := hm7
                    have f37 : w7.cell? ⟨N3, 0, none⟩ = some (.slice x5 lL c5) := by
                      rw [World.cell?_of_block (w := w6) (HMK.out.2.block N3 (Nat.lt_of_lt_of_le HN3.out.2 HWz.out.size) (.inr rfl))]
                      exact f3'
                    have HX7 : Hid (∀ W', Below w7.heap.size w7 W' → Vin W' x5 (prL (wl (t3F t s k v).1.p)).length (fun j => (prL (wl (t3F t s k v).1.p)).getD j nil)) := fun W' b => HV52.out.below (bthen HM7.out.bl HM7.out.bl.size b)
                    have HN37 : Hid (∀ W', Below w7.heap.size w7 W' → W'.cell? ⟨N3, 0, none⟩ = some (.slice x5 lL c5)) := fun W' b => by
                      have hl : N3 < w7.heap.size := Nat.lt_of_lt_of_le (Nat.lt_of_lt_of_le HN3.out.2 HWz.out.size) HMK.out.2.size
                      rw [World.cell?_of_block (w := w7) (b.block N3 hl)]
                      exact f37
                    have hlen := prL_len (wl (t3F t s k v).1.p)
                    rw [HLL.out] at hlen
                    have hwl : (wl (t3F t s k v).1.p).length ≤ 500 := by rw [wl_len]; have := HD.out.pj.sm.pr; omega
                    have HCT : Hid (cntV KL' (t3F t s k v).1.p m7 = (wl (t3F t s k v).1.p).length) := by
                      have := cntV_all HM7.out.mp HD.out.tj
                      rwa [HL7.out] at this
                    obtain ⟨ll7, hll7⟩ : ∃ x, (wl (t3F t s k v).1.p).length = x := ⟨_, rfl⟩
                    rw [hll7] at hlen hwl HCT
                    have HLW : Hid ((wl (t3F t s k v).1.p).length = ll7) := hll7
                    clear hm7 f2' f3' HMK HX6 HMAP HM6 HWz hll7 g2' g3' g5' l2 l3 l5 m2 m3 m5 t2 t3 t5 g5
                    go_wp2_with fail
                    go_loopw [14, 15] (fun nv kv wx => ∃ r : Nat, nv = .int .i64 (cntV KL' (t3F t s k v).1.p r : Nat) ∧ kv = .int .i64 (r : Nat) ∧ r ≤ m7 ∧ Hid (Below w7.heap.size w7 wx)) (fun _ kv _ => m7 - (intOf kv).toNat)
                    case atStart => exact ⟨0, rfl, rfl, by omega, Below.refl _ _⟩
                    case round => as_aux_lemma =>
                      obtain ⟨r, rfl, rfl, hr, HR⟩ := hrel
                      rename World => w8
                      have hcl := cntV_le KL' (t3F t s k v).1.p r
                      by_cases hlr : r < m7
                      · have hlr' : (r : Int) < (m7 : Int) := by omega
                        have wr1 : IntKind.i64.wrap ((r : Int) + 1) = (r : Int) + 1 := by rw [IntKind.wrap_i64]; omega
                        have HM8 := HM7.out.below HR.out
                        rw [HL7.out] at HM8
                        obtain ⟨gk, ck8, hk8, _, hgk, _, d0, d1, d2⟩ := HM8.k.at (i := r) (by rw [HL7.out]; exact hlr)
                        obtain ⟨gv, cv8, hv8, _, hgv8, _, e0, e1, e2'⟩ := HM8.v.at (i := r) (by rw [HL7.out]; exact hlr)
                        have hkr : KL'[r]? = some (KL'.getD r nil) := get_at (by rw [HL7.out]; exact hlr)
                        rw [map_at hkr] at e0 e1 e2'
                        rw [HL7.out] at hk8 hv8
                        injection hk8 with hk1 hk2 hk3
                        injection hv8 with hv1 hv2 hv3
                        subst hk1 hk3 hv1 hv3
                        have hmem : KL'.getD r nil ∈ KL' := List.mem_of_getElem? hkr
                        generalize KL'.getD r nil = kk at *
                        have hfound := HM7.out.mp.found HD.out.tj hmem
                        obtain ⟨y, hy⟩ : ∃ y, pget (t3F t s k v).1.p kk = y := ⟨_, rfl⟩
                        rw [hy] at e0 e1 e2' hfound
                        have HKR : Hid (KL'[r]? = some kk) := hkr
                        have HYY : Hid (pget (t3F t s k v).1.p kk = y) := hy
                        clear hkr hy hmem hk2 hv2 HM8
                        by_cases hy0 : y.1 = 0
                        · have HCN : Hid (cntV KL' (t3F t s k v).1.p (r + 1) = cntV KL' (t3F t s k v).1.p r) := cntV_no HKR.out (by rw [HYY.out]; exact hy0)
                          clear hfound hcl
                          go_wp2_with fail
                          go_roundw
                          case rel => exact ⟨r + 1, by rw [HCN.out], by go_num, by omega, HR⟩
                          case measure => first | omega | (simp only [intOf]; omega) | (simp; omega)
                        · have HCY : Hid (cntV KL' (t3F t s k v).1.p (r + 1) = cntV KL' (t3F t s k v).1.p r + 1) := cntV_yes HKR.out (by rw [HYY.out]; exact hy0)
                          obtain ⟨q0, hq0⟩ := hfound hy0
                          have HQ0 : Hid ((wl (t3F t s k v).1.p)[q0]? = some (kk, y)) := hq0
                          have hq0l : q0 < ll7 := by rw [← HLW.out]; exact (List.getElem?_eq_some_iff.1 hq0).1
                          have wcn : IntKind.i64.wrap ((cntV KL' (t3F t s k v).1.p r : Int) + 1) = (cntV KL' (t3F t s k v).1.p r : Int) + 1 := by rw [IntKind.wrap_i64]; omega
                          have hyb : (y.1 == 0) = false := by simpa using hy0
                          have hyc : (y.1 != 0) = true := by simpa using hy0
                          clear hq0 hfound hcl
                          go_wp2_with fail
                          go_loopw [16, 17] (fun fv jv wx => ∃ (u : Nat) (b : Bool), fv = .bool b ∧ jv = .int .i64 ((2 * u : Nat) : Int) ∧ u ≤ ll7 ∧ Hid ((q0 < u → b = true) ∧ Below w8.heap.size w8 wx)) (fun _ jv _ => 2 * ll7 + 2 - (intOf jv).toNat)
                          case atStart => exact ⟨0, false, rfl, rfl, by omega, fun q => absurd q (Nat.not_lt_zero _), Below.refl _ _⟩
                          case round => as_aux_lemma =>
                            obtain ⟨u, b, rfl, rfl, hu, HU⟩ := hrel
                            rename World => w9
                            have HB9 : Hid (Below w7.heap.size w7 w9) := bthen HR.out HR.out.size HU.out.2
                            have f39 := HN37.out w9 HB9.out
                            have wu1 : IntKind.i64.wrap (((2 * u : Nat) : Int) + 1) = ((2 * u : Nat) : Int) + 1 := by rw [IntKind.wrap_i64]; omega
                            have wu2 : IntKind.i64.wrap (((2 * u : Nat) : Int) + 2) = ((2 * (u + 1) : Nat) : Int) := by rw [IntKind.wrap_i64]; omega
                            by_cases hlu : u < ll7
                            · have hlu' : ((2 * u : Nat) : Int) + 1 < (lL : Int) := by omega
                              have hlu2 : ((2 * u : Nat) : Int) < (lL : Int) := by omega
                              have hlu0 : (0 : Int) ≤ ((2 * u : Nat) : Int) := by omega
                              have hlu1 : (0 : Int) ≤ ((2 * u : Nat) : Int) + 1 := by omega
                              have tu1 : (((2 * u : Nat) : Int)).toNat = 2 * u := by omega
                              have tu2 : (((2 * u : Nat) : Int) + 1).toNat = 2 * u + 1 := by omega
                              cases b with
                              | true =>
                                go_wp2_with fail
                                go_quiet (fail)
                                go_wp2_with fail
                                go_roundw
                                case rel => exact ⟨u + 1, true, rfl, by go_num, by omega, fun _ => rfl, (bthen HU.out.2 HU.out.2.size (bdrN _ _) : Below _ _ _)⟩
                                case measure => first | omega | (simp only [intOf]; omega) | (simp; omega)
                              | false =>
                                obtain ⟨xx, hxx⟩ : ∃ xx, (wl (t3F t s k v).1.p)[u]? = some xx := ⟨_, List.getElem?_eq_getElem (by rw [HLW.out]; exact hlu)⟩
                                obtain ⟨lb, lf, rfl, _, y0, y1, y2, z0, z1, z2⟩ := vin_pair (HX7.out w9 HB9.out) hxx
                                have HXX : Hid ((wl (t3F t s k v).1.p)[u]? = some xx) := hxx
                                have DK : ∀ x, w9.cell? ⟨gk, x, none⟩ = w8.cell? ⟨gk, x, none⟩ := fun x => World.cell?_of_block (w := w8) (HU.out.2.block gk hgk)
                                have DV : ∀ x, w9.cell? ⟨gv, x, none⟩ = w8.cell? ⟨gv, x, none⟩ := fun x => World.cell?_of_block (w := w8) (HU.out.2.block gv hgv8)
                                have D0 := (DK _).trans d0
                                have D1 := (DK _).trans d1
                                have D2 := (DK _).trans d2
                                have E0 := (DV _).trans e0
                                have E1 := (DV _).trans e1
                                have E2 := (DV _).trans e2'
                                have N1' := eql32 xx.1.1 xx.1.2.1 kk.1 kk.2.1 xx.1.2.2 kk.2.2
                                have N2' := eql32 xx.2.1 xx.2.2.1 y.1 y.2.1 xx.2.2.2 y.2.2
                                unfold vl at N1' N2'
                                have g32 := guard32
                                have HNO : Hid ((xx.1 ≠ kk ∨ xx.2 ≠ y) → q0 < u + 1 → false = true) := fun hn q => by
                                  by_cases e : q0 < u
                                  · exact HU.out.1 e
                                  · have e1 : q0 = u := by omega
                                    have e2 := HQ0.out
                                    rw [e1, HXX.out] at e2
                                    have e3 : xx = (kk, y) := Option.some.inj e2
                                    rw [e3] at hn
                                    rcases hn with hn | hn
                                    · exact absurd rfl hn
                                    · exact absurd rfl hn
                                clear DK DV hxx d0 d1 d2 e0 e1 e2'
                                by_cases h1 : xx.1 = kk
                                · rw [decide_eq_true (show (xx.1.1, xx.1.2.1, xx.1.2.2) = (kk.1, kk.2.1, kk.2.2) from h1)] at N1'
                                  clear h1
                                  by_cases h2 : xx.2 = y
                                  · rw [decide_eq_true (show (xx.2.1, xx.2.2.1, xx.2.2.2) = (y.1, y.2.1, y.2.2) from h2)] at N2'
                                    clear h2
                                    go_wp2_with fail
                                    go_quiet (fail)
                                    go_wp2_with fail
                                    go_roundw
                                    case rel => exact ⟨u + 1, true, rfl, by go_num, by omega, fun _ => rfl, (bthen HU.out.2 HU.out.2.size (bdrN _ _) : Below _ _ _)⟩
                                    case measure => first | omega | (simp only [intOf]; omega) | (simp; omega)
                                  · rw [decide_eq_false (show ¬ (xx.2.1, xx.2.2.1, xx.2.2.2) = (y.1, y.2.1, y.2.2) from h2)] at N2'
                                    have HH2 : Hid (xx.2 ≠ y) := h2
                                    clear h2
                                    go_wp2_with fail
                                    go_quiet (fail)
                                    go_wp2_with fail
                                    go_roundw
                                    case rel => exact ⟨u + 1, false, rfl, by go_num, by omega, HNO.out (.inr HH2.out), (bthen HU.out.2 HU.out.2.size (bdrN _ _) : Below _ _ _)⟩
                                    case measure => first | omega | (simp only [intOf]; omega) | (simp; omega)
                                · rw [decide_eq_false (show ¬ (xx.1.1, xx.1.2.1, xx.1.2.2) = (kk.1, kk.2.1, kk.2.2) from h1)] at N1'
                                  have HH1 : Hid (xx.1 ≠ kk) := h1
                                  clear h1
                                  go_wp2_with fail
                                  go_quiet (fail)
                                  go_wp2_with fail
                                  go_roundw
                                  case rel => exact ⟨u + 1, false, rfl, by go_num, by omega, HNO.out (.inl HH1.out), (bthen HU.out.2 HU.out.2.size (bdrN _ _) : Below _ _ _)⟩
                                  case measure => first | omega | (simp only [intOf]; omega) | (simp; omega)
                            · have eu : u = ll7 := by omega
                              subst eu
                              have hlu' : ¬ ((2 * u : Nat) : Int) + 1 < (lL : Int) := by omega
                              have hb := HU.out.1 hq0l
                              subst hb
                              go_wp2_with fail
                              go_roundw
                              case rel => exact ⟨r + 1, by rw [HCY.out]; rfl, by go_num, by omega, HB9⟩
                              case measure => first | omega | (simp only [intOf]; omega) | (simp; omega)
                      · have er7 : r = m7 := by omega
                        subst er7
                        have hlr' : ¬ (r : Int) < (r : Int) := by omega
                        rw [HCT.out]
                        have f38 := HN37.out w8 HR.out
                        have wll : IntKind.i64.wrap (2 * (ll7 : Int)) = (lL : Int) := by rw [IntKind.wrap_i64]; omega
                        have HLAST : Hid (MI w2 w8 (.slice ak' r ck') (.slice av' r cv') KL' (tf (i + 1)).p (i + 1)) := by
                          have := HM7.out.below HR.out
                          rw [HL7.out] at this
                          rw [HSi.out]
                          exact this
                        go_wp2_with fail
                        go_roundg (n - (i + 1))
                        case measure => omega
                        case rel => exact ⟨i + 1, KL', by go_num, by omega, rfl, HLAST.out⟩
    · have e0 : i = n := by omega
      subst e0
      have hlt' : ¬ (i : Int) < (i : Int) := by omega
      go_wp2_with fail
      go_ret
      exact ⟨rfl, bthen HB2.out HB2.out.size HM.out.bl⟩
end Go.Proofs.YtpmmploedkbeoaaGreatDoor
