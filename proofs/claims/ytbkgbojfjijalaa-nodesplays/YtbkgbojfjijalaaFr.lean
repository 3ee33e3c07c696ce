/- The walk of NodesFree. -/
import Derived.Test.YtbkgbojfjijalaaOo
namespace Go.Proofs.Ytbkgbojfjijalaa
open Go.RowKit

theorem field320 (k n : Int) (s : ByteArray) (W : World) : (Instr.field 32 (vl k n s) 0).run Try.prog W = .ok (.int .i64 k) W := by kernel_rfl
theorem bad_and {z : Int} (h : rt z = false) (h0 : 0 ≤ z) (h1 : z ≤ 65536) : (bits .and .i64 z (z - 1) != 0) = true := by
  simp only [rt, Bool.or_eq_false_iff, decide_eq_false_iff_not] at h
  have hb : 1 ≤ z ∧ z ≤ 65536 := by omega
  rw [and_pw hb]
  have hn : z.toNat &&& (z.toNat - 1) ≠ 0 := fun e2 => by
    have : pw z = true := by simp only [pw, Bool.and_eq_true, decide_eq_true_eq]; exact ⟨hb, e2⟩
    rw [h.2] at this; cases this
  simpa using hn
/-- The part behind a call, with what has been kept. -/
structure St (B : Nat) (W w : World) (b a z : Nat) (g : G) : Prop where
  pt : Pt w b a z g
  inv : Inv z (pl z) KOK g
  keep : Keep (fun x => x < B) W w
theorem St.bel {B : Nat} {W w w' : World} {b a z : Nat} {g : G} (h : St B W w b a z g) (hb : Below w.heap.size w w') : St B W w' b a z g := ⟨h.pt.below hb, h.inv, h.keep.bel hb⟩
theorem St.put {B : Nat} {W w w' : World} {b a z : Nat} {g : G} (h : St B W w b a z g) (hz : Rt z) {k v : V} (hr : Rng k) (hp : Pt w' b a z (Proofs.Ytbkgbojfjijalaa.put z g k v).1) (hk : Keep (fun x => x ≠ a ∧ x ≠ b) w w') (hB : B ≤ a ∧ B ≤ b) : St B W w' b a z (Proofs.Ytbkgbojfjijalaa.put z g k v).1 :=
  ⟨hp, (put_inv k v h.inv hz hr).1, h.keep.trans (hk.sub fun x hx => by show x ≠ a ∧ x ≠ b; have : x < B := hx; omega)⟩
theorem St.below {B : Nat} {W w : World} {b a z : Nat} {g : G} (h : St B W w b a z g) (hB : B ≤ W.heap.size) : Below B W w := h.keep.below hB (fun _ hx => hx)
/-- Behind begin. -/
theorem St.start {W w0 w1 w2 : World} {n S ka va ca : Nat} (hf : Below W.heap.size W w0) (h1 : w1 = newW w0 n) (h2 : Rn w1 w2 S ka va ca n) : St W.heap.size W w2 (w0.heap.size + 1) w0.heap.size n (g0 n) := by
  subst h1
  exact ⟨(newW_pt w0 n).below h2.bel, g0_inv n _, ((Keep.of hf).bel (newW_below w0 n)).bel h2.bel⟩
/-- What is read of an operation. -/
theorem Ops.at {N : Nat} {w : World} {v : Value} {L : Nat} {Q : Nat → Int × V × V} (h : Ops N w v L Q) {i : Nat} (hi : i < L) : ∃ b off cap, v = .slice (some ⟨b, off, none⟩) L cap ∧ b < N ∧ w.cell? ⟨b, off + i * 7, none⟩ = some (.int .i64 (Q i).1) ∧
    w.cell? ⟨b, off + i * 7 + 1, none⟩ = some (.int .i64 (Q i).2.1.1) ∧ w.cell? ⟨b, off + i * 7 + 2, none⟩ = some (.int .i64 (Q i).2.1.2.1) ∧ w.cell? ⟨b, off + i * 7 + 3, none⟩ = some (.string (Q i).2.1.2.2) ∧
    w.cell? ⟨b, off + i * 7 + 4, none⟩ = some (.int .i64 (Q i).2.2.1) ∧ w.cell? ⟨b, off + i * 7 + 5, none⟩ = some (.int .i64 (Q i).2.2.2.1) ∧ w.cell? ⟨b, off + i * 7 + 6, none⟩ = some (.string (Q i).2.2.2.2) := by
  obtain ⟨a, cap, rfl, _, h⟩ := h
  obtain ⟨b, off, rfl, hg, hx⟩ := h (by omega)
  exact ⟨b, off, cap, rfl, hg, hx i hi 0 (by omega), hx i hi 1 (by omega), hx i hi 2 (by omega), hx i hi 3 (by omega), hx i hi 4 (by omega), hx i hi 5 (by omega), hx i hi 6 (by omega)⟩

set_option maxRecDepth 100000 in
set_option maxHeartbeats 4000000 in
theorem free_walk (z : Int) (L : Nat) (Q : Nat → Int × V × V) (v : Value) (W : World) (hO : Ops W.heap.size W v L Q) (hL : L * 72 ≤ 140737488355328) :
    Calls Try.prog 8 #[.int .i64 z, v] W fun e w' => e = .returned (.bool true) ∧ Below W.heap.size W w' := by
  have CF := fixed_any W
  by_cases hbad : rt z = false ∨ 4096 < z
  · have CB := fun w => begin_bad z w hbad
    have HA : Hid (0 ≤ z → z ≤ 256 → (bits .and .i64 z (z - 1) != 0) = true) := fun h0 h1 => by
      rcases hbad with h | h
      · exact bad_and h h0 (by omega)
      · omega
    clear hbad hO
    go_enter Try.func8, Try.ntmps8
    go_wp2_with fail
    refine CF.mono ?_; rintro e w0 ⟨rfl, hb⟩
    have HB : Hid _ := hb
    clear hb CF
    go_wp2_with fail
    refine (CB _).mono ?_; rintro e w0 ⟨rfl, rfl⟩
    clear CB
    by_cases h0 : z < 0
    · go_wp2_with fail
      go_ret
      exact ⟨rfl, HB.out⟩
    · by_cases h1 : 256 < z
      · go_wp2_with fail
        go_ret
        exact ⟨rfl, HB.out⟩
      · have ha := HA.out (by omega) (by omega)
        go_wp2_with fail
        go_ret
        exact ⟨rfl, HB.out⟩
  · simp only [not_or, Bool.not_eq_false] at hbad
    obtain ⟨n, rfl, hR⟩ := Rt.of hbad.1
    have hn : n ≤ 4096 := by have := hbad.2; omega
    clear hbad
    have CB := fun w => begin_any n w hR hn
    by_cases h256 : 256 < n
    · clear hO
      have h256' : 256 < (n : Int) := by omega
      unfold pp at CB
      go_enter Try.func8, Try.ntmps8
      go_wp2_with fail
      refine CF.mono ?_; rintro e w0 ⟨rfl, hb⟩
      have HB : Hid _ := hb
      clear hb CF
      go_wp2_with fail
      refine (CB _).mono ?_; rintro e w2 ⟨S, ka, va, ca, w1, rfl, h1, h2⟩
      have HS : Hid _ := (St.start HB.out h1 h2).keep
      clear CB h1 h2
      go_wp2_with fail
      go_ret
      exact ⟨rfl, HS.out.below (Nat.le_refl _) (fun _ h => h)⟩
    · have h256' : ¬ 256 < (n : Int) := by omega
      have HO : Hid (Ops W.heap.size W v L Q) := hO
      obtain ⟨va0, cap, hva, hrng, _⟩ := id hO
      have HVA : Hid (v = .slice va0 L cap) := hva
      rw [hva]
      clear hva
      have HRng : Hid _ := hrng
      have HR : Hid (Rt n) := hR
      clear hO hrng hR
      unfold pp at CB
      go_enter Try.func8, Try.ntmps8
      go_wp2_with fail
      refine CF.mono ?_; rintro e w0 ⟨rfl, hb⟩
      have HB : Hid _ := hb
      have HBs : Hid (W.heap.size ≤ w0.heap.size) := hb.size
      clear hb CF
      go_wp2_with fail
      refine (CB _).mono ?_; rintro e w2 ⟨S, ka, va, ca, w1, rfl, h1, h2⟩
      have HS : Hid _ := St.start HB.out h1 h2
      clear CB h1 h2
      obtain ⟨a, ha⟩ : ∃ a, w0.heap.size = a := ⟨_, rfl⟩
      rw [ha] at HS HBs ⊢
      have HAB : Hid (W.heap.size ≤ a ∧ W.heap.size ≤ a + 1) := ⟨HBs.out, by have := HBs.out; omega⟩
      clear ha HBs HB
      have CFr := free_any _ HS.out.pt
      unfold pp at CFr
      go_wp2_with fail
      refine CFr.mono ?_; rintro e w2 ⟨rfl, rfl⟩
      clear CFr
      go_wp2_with fail
      obtain ⟨f0, hf0⟩ : ∃ f0, (g0 n).f = f0 := ⟨_, rfl⟩
      rw [hf0]
      have HF0 : Hid (∃ g, St W.heap.size W w2 (a + 1) a n g ∧ g.f = f0) := ⟨_, HS.out, hf0⟩
      clear hf0 HS
      go_loopw [8, 9] (fun fw iw wr => ∃ (k f : Nat), iw = .int .i64 (k : Nat) ∧ fw = .int .i64 (f : Nat) ∧ k ≤ L ∧ Hid (∃ g, St W.heap.size W wr (a + 1) a n g ∧ g.f = f)) (fun _ iw _ => L - (intOf iw).toNat)
      case atStart => exact ⟨0, f0, rfl, rfl, by omega, HF0⟩
      case round =>
        obtain ⟨k, f, rfl, rfl, hk, HG⟩ := hrel
        obtain ⟨g, hS, hgf⟩ := HG.out
        clear HG HF0
        by_cases hlt : k < L ∧ k < 400
        · obtain ⟨hlt, h400⟩ := hlt
          have hlt' : (k : Int) < (L : Int) := by omega
          have h400' : (k : Int) < 400 := by omega
          obtain ⟨lb, off, cap2, hv, hlb, o0, o1, o2, o3, o4, o5, o6⟩ := (HO.out.below (hS.below (Nat.le_refl _))).at hlt
          rw [HVA.out] at hv
          obtain ⟨rfl, rfl⟩ : va0 = some ⟨lb, off, none⟩ ∧ cap = cap2 := by simpa using hv
          clear hv
          have CP := put_all (Q k).2.1 (Q k).2.2 wr.drew (hS.pt.below (bdrew1 _)) hS.inv HR.out (HRng.out k hlt)
          have HFL : Hid ((put n g (Q k).2.1 (Q k).2.2).1.f ≤ f) := by rw [← hgf]; exact (put_inv _ _ hS.inv HR.out (HRng.out k hlt)).2
          have HST : Hid (∀ w', Pt w' (a + 1) a n (put n g (Q k).2.1 (Q k).2.2).1 → Keep (fun x => x ≠ a ∧ x ≠ a + 1) wr.drew w' → St W.heap.size W w' (a + 1) a n (put n g (Q k).2.1 (Q k).2.2).1) := fun w' h1 h2 => (hS.bel (bdrew1 _)).put HR.out (HRng.out k hlt) h1 h2 HAB.out
          generalize put n g (Q k).2.1 (Q k).2.2 = r at *
          unfold pp vl at CP
          clear hS hgf
          go_wp2_with fail
          refine wp_tail 11 (by kernel_rfl) (by kernel_rfl) ?_
          simp only [List.take_succ_cons, List.take_zero, List.drop_succ_cons, List.drop_zero]
          repeat still_step
          refine wpStill_nil ?_
          go_wp2_with fail
          refine CP.mono ?_; rintro e w3 ⟨rfl, hp, hk2⟩
          have HS3 : Hid _ := HST.out w3 hp hk2
          clear CP HST hp hk2
          have CFr := free_any _ HS3.out.pt
          unfold pp at CFr
          go_wp2_with fail
          refine CFr.mono ?_; rintro e w3 ⟨rfl, rfl⟩
          clear CFr
          obtain ⟨f2, hf2⟩ : ∃ f2, r.1.f = f2 := ⟨_, rfl⟩
          have hle : (f2 : Int) ≤ (f : Int) := by have := HFL.out; omega
          have hge : ¬ ((f2 : Int) < 0) := by omega
          have hfle : f2 ≤ n := by rw [← hf2]; exact HS3.out.inv.fle
          have HUp : Hid (∀ i, i < n → f2 ≤ i → r.1.K i ≠ nil) := by rw [← hf2]; exact HS3.out.inv.up
          simp only [hf2]
          have HF2 : Hid (r.1.f = f2) := hf2
          clear hf2 HFL
          go_wp2_with fail
          go_loopw [11] (fun jw wr => ∃ j : Nat, jw = .int .i64 (j : Nat) ∧ f2 ≤ j ∧ j ≤ n ∧ Hid (St W.heap.size W wr (a + 1) a n r.1)) (fun jw _ => n - (intOf jw).toNat)
          case atStart => exact ⟨f2, rfl, Nat.le_refl _, hfle, HS3.out⟩
          case round =>
            obtain ⟨j, rfl, hj1, hj2, HSj⟩ := hrel
            by_cases hjn : j < n
            · have hjn' : (j : Int) < (n : Int) := by omega
              have CA := at_in j wr HSj.out.pt hjn
              have hne := HUp.out j hjn hj1
              have hkd : ¬ (r.1.K j).1 = 0 := fun e => hne ((HSj.out.inv.kind hjn).1 e)
              have hkd' : ((r.1.K j).1 == 0) = false := by simpa using hkd
              have f0 := field0 (r.1.K j) (r.1.X j) (link (pl n) r.1 j)
              have f1 := field320 (r.1.K j).1 (r.1.K j).2.1 (r.1.K j).2.2
              unfold pp vn at CA
              unfold vn vl at f0
              unfold vl at f1
              clear hne
              go_wp2_with fail
              refine CA.mono ?_; rintro e w4 ⟨rfl, hb⟩
              have HS4 : Hid _ := HSj.out.bel hb
              clear CA hb HSj
              go_wp2_with fail
              go_round
              case rel => exact ⟨j + 1, by go_num, by omega, by omega, HS4⟩
              case measure => simp [intOf]; omega
            · have hjn' : ¬ (j : Int) < (n : Int) := by omega
              have HG4 : Hid (∃ g, St W.heap.size W wr (a + 1) a n g ∧ g.f = f2) := ⟨r.1, HSj.out, HF2.out⟩
              go_wp2_with fail
              go_round
              case rel => exact ⟨k + 1, f2, by go_num, rfl, by omega, HG4⟩
              case measure => simp [intOf]; omega
        · have HBl : Hid _ := hS.below (Nat.le_refl _)
          clear hS hgf
          by_cases hlt2 : k < L
          · have hlt' : (k : Int) < (L : Int) := by omega
            have h400' : ¬ (k : Int) < 400 := by omega
            clear hlt
            go_wp2_with fail
            go_ret
            exact ⟨rfl, HBl.out⟩
          · have hlt' : ¬ (k : Int) < (L : Int) := by omega
            clear hlt
            go_wp2_with fail
            go_ret
            exact ⟨rfl, HBl.out⟩
end Go.Proofs.Ytbkgbojfjijalaa
