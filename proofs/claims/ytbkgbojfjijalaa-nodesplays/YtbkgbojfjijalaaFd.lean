/- The walk of Find. -/
import Derived.Test.YtbkgbojfjijalaaSe
namespace Go.Proofs.Ytbkgbojfjijalaa
open Go.RowKit

theorem mnE_ok {k : V} (hk : KOK k) {z : Int} (hz : pw z = true) : mnE k.1 k.2.1 k.2.2 z = 0 ∧ mnP k.1 k.2.1 k.2.2 z = mp k.1 k.2.1 k.2.2 z := by
  unfold mnE mnP
  rw [if_pos hk.1, if_pos hz, if_neg hk.2.1, if_pos ⟨hk.1, hz, hk.2.1⟩]
  exact ⟨rfl, rfl⟩

theorem bdrew (B : Nat) (w : World) (n : Nat) : Below B w (w.drewN n) := ⟨rfl, rfl, rfl, Nat.le_refl _, fun _ _ => rfl⟩
theorem ret2i {a b : Int} {c d : Nat} (h : a = b) (h' : c = d) : Ending.returned (.tuple #[.int .i64 a, .int .i64 (c : Int)]) = .returned (.tuple #[.int .i64 b, .int .i64 (d : Int)]) := by rw [h, h']

set_option maxHeartbeats 2000000 in
theorem find_any {b a z : Nat} {g : G} (k : V) (w : World) (h : Pt w b a z g) (hi : Inv z (pl z) KOK g) (hz : pw z = true) (hk : KOK k) :
    Calls Try.prog 21 #[pp b, vl k.1 k.2.1 k.2.2] w fun e w' => e = .returned (.tuple #[.int .i64 (fi (find (pl z) g k).1), .int .i64 ((find (pl z) g k).2 : Nat)]) ∧ Below w.heap.size w w' := by
  have HP : Hid _ := h
  have HI : Hid _ := hi
  have CM := fun w => main_any k.1 k.2.1 k.2.2 z w hk.2.2.1 hk.2.2.2
  rw [(mnE_ok hk hz).1, (mnE_ok hk hz).2, ← pl_cast hz k] at CM
  have hzb := (pw_bounds z hz).2
  have hm0 := pl_lt hz k
  obtain ⟨Ls, c0, hsuf⟩ := hi.lk_suf (fun k _ => pl_lt hz k) hm0
  rw [hsuf] at Ls
  have HF : Hid (find (pl z) g k = scan g.K k (pl z k :: c0) 0) := by show _ = _; rw [find, hsuf]
  have HL : Hid _ := Ls
  clear Ls hsuf
  obtain ⟨m, hm⟩ : ∃ m, pl z k = m := ⟨_, rfl⟩
  rw [hm] at CM hm0 HF HL
  have hlt : w.heap.size < (w.alloc (vb k.1 k.2.1 k.2.2)).heap.size := by simp
  obtain ⟨X, F, F1, F2⟩ := class_of (w.alloc (vb k.1 k.2.1 k.2.2))
  have hP : ∀ x, Pt (F x) b a z g := fun x => (h.below (b1 w _)).below (F1 x)
  have e0 : ∀ x, (F x).cell? ⟨w.heap.size, 0, none⟩ = some (.int .i64 k.1) := fun x => by rw [(F1 x).cell (by simp)]; simp [go_sem]
  have e1 : ∀ x, (F x).cell? ⟨w.heap.size, 1, none⟩ = some (.int .i64 k.2.1) := fun x => by rw [(F1 x).cell (by simp)]; simp [go_sem]
  have e2 : ∀ x, (F x).cell? ⟨w.heap.size, 2, none⟩ = some (.string k.2.2) := fun x => by rw [(F1 x).cell (by simp)]; simp [go_sem]
  have hS : ∀ x, Calls Try.prog 14 #[pp b] (F x) fun e w'' => e = .returned (.int .i64 (z : Nat)) ∧ ∃ y, w'' = F y := fun x =>
    (size_any (F x) (hP x)).mono fun e w' ⟨he, hw⟩ => ⟨he, x, hw⟩
  have hM : ∀ x, Calls Try.prog 26 #[vl k.1 k.2.1 k.2.2, .int .i64 (z : Nat)] (F x) fun e w'' => e = .returned (.tuple #[.int .i64 (m : Nat), .int .i64 0]) ∧ ∃ y, w'' = F y := fun x =>
    (CM (F x)).mono fun e w' ⟨he, hw⟩ => ⟨he, F2 w' (hw ▸ bthen (F1 x) (F1 x).size (b2 _ _ _))⟩
  have HC : Hid (∃ x, (w.alloc (vb k.1 k.2.1 k.2.2)).drew = F x) := F2 _ (Below.refl _ _).drew
  have HF1 : Hid _ := F1
  have HK : Hid _ := hk
  have HPF : Hid _ := hP
  have E0 : Hid _ := e0
  have E1 : Hid _ := e1
  have E2 : Hid _ := e2
  have HB : Hid (∀ x, Below w.heap.size w (F x)) := fun x => bthen (b1 w _) (by simp) (F1 x)
  clear CM h hi hP hm
  unfold pp vl vb at *
  clear hk hz F1 F2
  go_enter Try.func21, Try.ntmps21
  go_wp2_with fail
  haveI : Nonempty X := HC.out.elim fun x _ => ⟨x⟩
  refine wp_class (F := F) (by kernel_rfl) (by kernel_rfl) HC.out ?_
  repeat (go_big_quiet_step (first | exact hS _ | exact hM _))
  refine wpQuiet_nil ?_
  intro _ hw'
  obtain ⟨x, rfl⟩ := hw'
  go_wp2_with fail
  clear hS hM HC e0 e1 e2 HF1 hlt HP
  obtain ⟨B, hB⟩ : ∃ B, w.heap.size = B := ⟨_, rfl⟩
  have HBB : Hid (w.heap.size = B) := hB
  simp only [hB] at E0 E1 E2 HB ⊢
  clear hB
  obtain ⟨q0, hq0⟩ : ∃ q : Int, q = k.1 := ⟨_, rfl⟩
  obtain ⟨q1, hq1⟩ : ∃ q : Int, q = k.2.1 := ⟨_, rfl⟩
  obtain ⟨q2, hq2⟩ : ∃ q : ByteArray, q = k.2.2 := ⟨_, rfl⟩
  rw [← hq0] at E0 ⊢
  rw [← hq1] at E1 ⊢
  rw [← hq2] at E2 ⊢
  have Hq : Hid (k = (q0, q1, q2)) := by show _ = _; rw [hq0, hq1, hq2]
  clear hq0 hq1 hq2
  go_loopw [6, 8] (fun i r wr => ∃ (j n : Nat) (c : List Nat), i = .int .i64 (j : Nat) ∧ r = .int .i64 (n + 1 : Nat) ∧ Hid (Lk z (pl z) g (j :: c)) ∧ Hid (find (pl z) g k = scan g.K k (j :: c) n) ∧ n + c.length + 1 ≤ z ∧ j < z ∧
      Hid (Pt wr b a z g) ∧ Hid (wr.cell? ⟨B, 0, none⟩ = some (.int .i64 q0) ∧ wr.cell? ⟨B, 1, none⟩ = some (.int .i64 q1) ∧ wr.cell? ⟨B, 2, none⟩ = some (.string q2)) ∧ Hid (Below B w wr)) (fun _ r _ => z - (intOf r).toNat)
  case atStart => exact ⟨m, 0, c0, rfl, rfl, HL, HF, by have := HI.out.lk_len HL.out; simp at this; omega, hm0, HPF.out x, ⟨E0.out x, E1.out x, E2.out x⟩, HB.out x⟩
  case round =>
    obtain ⟨j, n, c, rfl, rfl, L, Fj, hn, hj, P, ⟨d0, d1, d2⟩, Bl⟩ := hrel
    have c1 := P.out.all
    obtain ⟨k0, k1, k2⟩ := P.out.k hj
    have k6 := P.out.l hj
    obtain ⟨r0, hr0⟩ : ∃ q : Int, q = (g.K j).1 := ⟨_, rfl⟩
    obtain ⟨r1, hr1⟩ : ∃ q : Int, q = (g.K j).2.1 := ⟨_, rfl⟩
    obtain ⟨r2, hr2⟩ : ∃ q : ByteArray, q = (g.K j).2.2 := ⟨_, rfl⟩
    rw [← hr0] at k0
    rw [← hr1] at k1
    rw [← hr2] at k2
    have Hr : Hid (g.K j = (r0, r1, r2)) := by show _ = _; rw [hr0, hr1, hr2]
    clear hr0 hr1 hr2
    have hj' : (j : Int) < (z : Int) := by omega
    rw [HI.out.lk_link L.out] at k6
    have N := neq32 r0 r1 q0 q1 r2 q2
    unfold vl at N
    have g32 := guard32
    by_cases e : g.K j = k
    · have e0 : decide ((r0, r1, r2) = (q0, q1, q2)) = true := by rw [← Hr.out, ← Hq.out]; simpa using e
      rw [e0] at N
      have R : Hid (find (pl z) g k = (some j, n + 1)) := by show _ = _; rw [Fj.out, scan, if_pos e]
      clear e e0
      go_wp2_with fail
      go_quiet (fail)
      go_wp2_with fail
      go_ret2
      rw [R.out]
      exact ⟨rfl, by rw [HBB.out]; exact Bl.out.trans (bdrew _ _ _)⟩
    · have e0 : decide ((r0, r1, r2) = (q0, q1, q2)) = false := by rw [← Hr.out, ← Hq.out]; simpa using e
      rw [e0] at N
      have R : Hid (find (pl z) g k = scan g.K k c (n + 1)) := by show _ = _; rw [Fj.out, scan, if_neg e]
      clear e e0
      cases c with
      | nil =>
        have k6' : wr.cell? ⟨a, j * 7 + 6, none⟩ = some (.int .i64 0) := k6
        clear k6
        go_wp2_with fail
        go_quiet (fail)
        go_wp2_with fail
        go_ret2
        rw [R.out, scan]
        exact ⟨rfl, by rw [HBB.out]; exact Bl.out.trans (bdrew _ _ _)⟩
      | cons d c =>
        have k6' : wr.cell? ⟨a, j * 7 + 6, none⟩ = some (.int .i64 ((d : Int) - j)) := k6
        have hd : Hid (j ≠ d) := HI.out.lk_ne L.out
        have L2 : Hid (Lk z (pl z) g (d :: c)) := HI.out.lk_tail L.out
        have hd2 := HI.out.lk_lt L2.out
        have hne : (d : Int) - j ≠ 0 := by
          have h0 := hd.out
          omega
        clear k6
        go_wp2_with fail
        go_quiet (fail)
        go_wp2_with fail
        go_round
        case rel =>
          have hlen : (d :: c).length = c.length + 1 := rfl
          exact ⟨d, n + 1, c, by go_num, by go_num, L2, R, by omega, hd2, P.out.below (bdrew _ _ _), ⟨d0, d1, d2⟩, Bl.out.trans (bdrew _ _ _)⟩
        case measure => have hlen : (d :: c).length = c.length + 1 := rfl; simp [intOf]; omega
end Go.Proofs.Ytbkgbojfjijalaa
