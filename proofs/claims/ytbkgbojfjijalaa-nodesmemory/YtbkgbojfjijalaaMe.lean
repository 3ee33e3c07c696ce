/- The walk of NodesMemory. -/
import Derived.Test.YtbkgbojfjijalaaJo
namespace Go.Proofs.Ytbkgbojfjijalaa
open Go.RowKit

set_option maxRecDepth 100000 in
set_option maxHeartbeats 8000000 in
theorem mem_walk (z : Int) (L : Nat) (Q : Nat → Int × V × V) (v : Value) (W : World) (hO : Ops W.heap.size W v L Q) (hL : L * 72 ≤ 140737488355328) :
    Calls Try.prog 7 #[.int .i64 z, v] W fun e w' => e = .returned (.bool true) ∧ Below W.heap.size W w' := by
  have CF := fixed_any W
  by_cases hbad : rt z = false ∨ 4096 < z
  · have CB := fun w => begin_bad z w hbad
    have CR := right_any z
    clear hO
    by_cases hr : rt z = false
    · rw [hr] at CR
      clear hbad hr
      go_enter Try.func7, Try.ntmps7
      go_wp2_with fail
      refine CF.mono ?_; rintro e w0 ⟨rfl, hb⟩
      have HB : Hid _ := hb
      clear hb CF
      go_wp2_with fail
      refine (CB _).mono ?_; rintro e w0 ⟨rfl, rfl⟩
      clear CB
      go_wp2_with fail
      refine (CR _).mono ?_; rintro e w0 ⟨rfl, rfl⟩
      clear CR
      go_wp2_with fail
      go_ret
      exact ⟨rfl, HB.out⟩
    · have h2 : 4096 < z := hbad.resolve_left hr
      have hr' : rt z = true := by simpa using hr
      rw [hr'] at CR
      clear hbad hr hr'
      go_enter Try.func7, Try.ntmps7
      go_wp2_with fail
      refine CF.mono ?_; rintro e w0 ⟨rfl, hb⟩
      have HB : Hid _ := hb
      clear hb CF
      go_wp2_with fail
      refine (CB _).mono ?_; rintro e w0 ⟨rfl, rfl⟩
      clear CB
      go_wp2_with fail
      refine (CR _).mono ?_; rintro e w0 ⟨rfl, rfl⟩
      clear CR
      go_wp2_with fail
      go_ret
      exact ⟨rfl, HB.out⟩
  · simp only [not_or, Bool.not_eq_false] at hbad
    obtain ⟨n, rfl, hR⟩ := Rt.of hbad.1
    have hn : n ≤ 4096 := by have := hbad.2; omega
    clear hbad
    have CB := fun w => begin_any n w hR hn
    have HO : Hid (Ops W.heap.size W v L Q) := hO
    obtain ⟨va0, cap, hva, hrng, _⟩ := id hO
    have HVA : Hid (v = .slice va0 L cap) := hva
    rw [hva]
    clear hva
    have HRng : Hid _ := hrng
    have HR : Hid (Rt n) := hR
    clear hO hrng hR
    unfold pp at CB
    go_enter Try.func7, Try.ntmps7
    go_wp2_with fail
    refine CF.mono ?_; rintro e w0 ⟨rfl, hb⟩
    have HB : Hid _ := hb
    clear hb CF
    go_wp2_with fail
    refine (CB _).mono ?_; rintro e w2 ⟨S, ka, va, ca, w1, rfl, h1, h2⟩
    have HJ : Hid (∃ g cb, Jo W.heap.size W w2 w0.heap.size n S ka va ca g cb) := ⟨_, _, Jo.start HB.out h1 h2⟩
    clear CB h1 h2
    obtain ⟨a, ha⟩ : ∃ a, w0.heap.size = a := ⟨_, rfl⟩
    rw [ha] at HJ ⊢
    clear ha HB
    go_wp2_with fail
    go_loopw [8] (fun iw wr => ∃ k : Nat, iw = .int .i64 (k : Nat) ∧ k ≤ L ∧ Hid (∃ g cb, Jo W.heap.size W wr a n S ka va ca g cb)) (fun iw _ => L - (intOf iw).toNat)
    case atStart => exact ⟨0, rfl, by omega, HJ⟩
    case round =>
      obtain ⟨k, rfl, hk, HG⟩ := hrel
      obtain ⟨g, cb, hS⟩ := HG.out
      clear HG HJ
      by_cases hlt : k < L ∧ k < 400
      · obtain ⟨hlt, h400⟩ := hlt
        have hlt' : (k : Int) < (L : Int) := by omega
        have h400' : (k : Int) < 400 := by omega
        obtain ⟨lb, off, cap2, hv, hlb, o0, o1, o2, o3, o4, o5, o6⟩ := (HO.out.below (hS.below (Nat.le_refl _))).at hlt
        rw [HVA.out] at hv
        obtain ⟨rfl, rfl⟩ : va0 = some ⟨lb, off, none⟩ ∧ cap = cap2 := by simpa using hv
        clear hv
        have CP := put_all (Q k).2.1 (Q k).2.2 wr.drew (hS.pt.below (bdrew1 _)) hS.inv HR.out (HRng.out k hlt)
        have HMD : Hid (∀ w', Pt w' (a + 1) a n (put n g (Q k).2.1 (Q k).2.2).1 → Keep (fun x => x ≠ a ∧ x ≠ a + 1) wr.drew w' → Md W.heap.size W w' a n S ka va ca g (put n g (Q k).2.1 (Q k).2.2).1 cb) := fun w' h1 h2 => (hS.bel (bdrew1 _)).mid HR.out (HRng.out k hlt) h1 h2
        have CRP := fun w0 w h hN => rput_all (z := n) (N := a + 2) (S := S) (ka := ka) (va := va) (ca := ca) (g := g) (cb := cb) (Q k).2.1 (Q k).2.2 w0 w h hN hS.inv HR.out (HRng.out k hlt)
        generalize put n g (Q k).2.1 (Q k).2.2 = r at *
        unfold pp vl at CP CRP
        clear hS
        go_wp2_with fail
        refine wp_tail 11 (by kernel_rfl) (by kernel_rfl) ?_
        simp only [List.take_succ_cons, List.take_zero, List.drop_succ_cons, List.drop_zero]
        repeat still_step
        refine wpStill_nil ?_
        go_wp2_with fail
        refine CP.mono ?_; rintro e w3 ⟨rfl, hp, hk2⟩
        have hM3 := HMD.out w3 hp hk2
        have hM4 := hM3.bel (bdrew1 w3)
        have CR := CRP w3.drew w3.drew hM4.rs hM4.le.2
        have HM4 : Hid _ := hM4
        clear o0 o1 o2 o3 o4 o5 o6 CP CRP HMD hp hk2 hM4
        obtain ⟨lb', off', cap2', hv, hlb', o0, o1, o2, o3, o4, o5, o6⟩ := (HO.out.below (hM3.below (Nat.le_refl _))).at hlt
        rw [HVA.out] at hv
        obtain ⟨⟨rfl, rfl⟩, rfl⟩ : (lb = lb' ∧ off = off') ∧ cap = cap2' := by simpa using hv
        clear hv hM3
        go_wp2_with fail
        refine wp_tail 11 (by kernel_rfl) (by kernel_rfl) ?_
        simp only [List.take_succ_cons, List.take_zero, List.drop_succ_cons, List.drop_zero]
        repeat still_step
        refine wpStill_nil ?_
        go_wp2_with fail
        refine CR.mono ?_; rintro e w4 ⟨rfl, cb', hrs⟩
        have hJ4 := HM4.out.fin hrs
        clear CR HM4 hrs o0 o1 o2 o3 o4 o5 o6
        by_cases h8 : k % 8 = 0
        · have htm' : ((k : Int) % 8 == 0) = true := by
            have : (k : Int) % 8 = 0 := by omega
            simpa using this
          have CD := dump_any w4 hJ4.pt HR.out.le
          have HJ4 : Hid _ := hJ4
          clear h8 hJ4
          unfold pp at CD
          go_wp2_with fail
          refine CD.mono ?_; rintro e w5 ⟨D, c', rfl, hrow, hfz, hDge, hDlt, hb⟩
          have HJ5 : Hid (Jd W.heap.size W w5 a n S ka va ca r.1 cb' D) := HJ4.out.row hb hrow hfz hDge hDlt
          clear CD hrow hfz hDge hDlt hb HJ4
          go_wp2_with fail
          go_loopw [10] (fun jw wr => ∃ j : Nat, jw = .int .i64 (j : Nat) ∧ j ≤ n ∧ Hid (Jd W.heap.size W wr a n S ka va ca r.1 cb' D)) (fun jw _ => n - (intOf jw).toNat)
          case atStart => exact ⟨0, rfl, by omega, HJ5⟩
          case round =>
            obtain ⟨j, rfl, hj, HJj⟩ := hrel
            clear HJ5
            by_cases hjn : j < n
            · have hjn' : (j : Int) < (n : Int) := by omega
              have C1 := mkI j wr
              unfold vl at C1
              go_wp2_with fail
              refine C1.mono ?_; rintro e w6 ⟨rfl, hb⟩
              have HJ6 : Hid _ := HJj.out.bel hb
              clear C1 hb HJj
              have C2 := mkS ⟨#[33]⟩ w6
              unfold vl at C2
              go_wp2_with fail
              refine C2.mono ?_; rintro e w7 ⟨rfl, hb⟩
              have hJ7 := HJ6.out.bel hb
              clear C2 hb HJ6
              obtain ⟨F, f0, f1, f2, f3, f4, f5, f6⟩ := hJ7.cells hjn
              have fd := hJ7.fd
              have HJ8 : Hid _ := hJ7.set7 hjn (2, (j : Int), ⟨#[]⟩) (3, 0, ⟨#[33]⟩) 9
              clear hJ7
              go_wp2_with fail
              go_round
              case rel => exact ⟨j + 1, by go_num, by omega, HJ8.out⟩
              case measure => simp [intOf]; omega
            · have hjn' : ¬ (j : Int) < (n : Int) := by omega
              have HG2 : Hid (∃ g cb, Jo W.heap.size W wr a n S ka va ca g cb) := ⟨_, _, HJj.out.jo⟩
              clear HJj
              go_wp2_with fail
              go_round
              case rel => exact ⟨k + 1, by go_num, by omega, HG2⟩
              case measure => simp [intOf]; omega
        · have htm' : ((k : Int) % 8 == 0) = false := by
            have : ¬ (k : Int) % 8 = 0 := by omega
            simpa using this
          have HG2 : Hid (∃ g cb, Jo W.heap.size W w4 a n S ka va ca g cb) := ⟨_, _, hJ4⟩
          clear h8 hJ4
          go_wp2_with fail
          go_round
          case rel => exact ⟨k + 1, by go_num, by omega, HG2⟩
          case measure => simp [intOf]; omega
      · have CD := dump_any wr hS.pt HR.out.le
        have HJr : Hid _ := hS
        clear hS
        unfold pp at CD
        by_cases hlt2 : k < L
        · have hlt' : (k : Int) < (L : Int) := by omega
          have h400' : ¬ (k : Int) < 400 := by omega
          clear hlt
          go_wp2_with fail
          refine CD.mono ?_; rintro e w5 ⟨D, c', rfl, hrow, hfz, hDge, hDlt, hb⟩
          have HJ5 := HJr.out.bel hb
          have CRD := rdump_any w5 HJ5.rp HJ5.inv HR.out
          have HJ6 : Hid _ := HJ5
          have HD : Hid (Rc w5 D n (nf (pl n) g) ∧ D < w5.heap.size) := ⟨hrow, hDlt⟩
          clear CD hrow hfz hDge hDlt hb HJr HJ5
          unfold pp at CRD
          go_wp2_with fail
          refine CRD.mono ?_; rintro e w6 ⟨rfl, hrow2, hlt6, hb⟩
          have CS := same_any (c1 := c') (c2 := n) w6 (HD.out.1.block (hb.block D HD.out.2)) hrow2 HR.out.le
          have HB6 : Hid (Below W.heap.size W w6) := (HJ6.out.bel hb).below (Nat.le_refl _)
          clear CRD hrow2 hlt6 hb HD HJ6
          go_wp2_with fail
          refine CS.mono ?_; rintro e w7 ⟨rfl, hb⟩
          have HB7 : Hid (Below W.heap.size W w7) := bthen HB6.out HB6.out.size hb
          clear CS hb HB6
          go_wp2_with fail
          go_ret
          exact ⟨rfl, HB7.out⟩
        · have hlt' : ¬ (k : Int) < (L : Int) := by omega
          clear hlt
          go_wp2_with fail
          refine CD.mono ?_; rintro e w5 ⟨D, c', rfl, hrow, hfz, hDge, hDlt, hb⟩
          have HJ5 := HJr.out.bel hb
          have CRD := rdump_any w5 HJ5.rp HJ5.inv HR.out
          have HJ6 : Hid _ := HJ5
          have HD : Hid (Rc w5 D n (nf (pl n) g) ∧ D < w5.heap.size) := ⟨hrow, hDlt⟩
          clear CD hrow hfz hDge hDlt hb HJr HJ5
          unfold pp at CRD
          go_wp2_with fail
          refine CRD.mono ?_; rintro e w6 ⟨rfl, hrow2, hlt6, hb⟩
          have CS := same_any (c1 := c') (c2 := n) w6 (HD.out.1.block (hb.block D HD.out.2)) hrow2 HR.out.le
          have HB6 : Hid (Below W.heap.size W w6) := (HJ6.out.bel hb).below (Nat.le_refl _)
          clear CRD hrow2 hlt6 hb HD HJ6
          go_wp2_with fail
          refine CS.mono ?_; rintro e w7 ⟨rfl, hb⟩
          have HB7 : Hid (Below W.heap.size W w7) := bthen HB6.out HB6.out.size hb
          clear CS hb HB6
          go_wp2_with fail
          go_ret
          exact ⟨rfl, HB7.out⟩
end Go.Proofs.Ytbkgbojfjijalaa
