/- The walk of NodesPlays. -/
import Derived.Test.YtbkgbojfjijalaaJo
namespace Go.Proofs.Ytbkgbojfjijalaa
open Go.RowKit

/-- An operation in a block of its own. -/
structure Ob (w : World) (b : Nat) (q : Int × V × V) : Prop where
  lt : b < w.heap.size
  c : ∀ j, j < 7 → w.cell? ⟨b, j, none⟩ = some (oc q j)
theorem Ob.kept {No : Nat → Prop} {w w' : World} {b : Nat} {q : Int × V × V} (h : Ob w b q) (k : Keep No w w') (hb : No b) : Ob w' b q :=
  ⟨Nat.lt_of_lt_of_le h.lt k.size, fun j hj => by rw [World.cell?_of_block (w := w) (k.block b h.lt hb)]; exact h.c j hj⟩
theorem Ob.below {w w' : World} {b : Nat} {q : Int × V × V} (h : Ob w b q) (k : Below w.heap.size w w') : Ob w' b q := h.kept (No := fun _ => True) (Keep.of k) trivial
abbrev ob (q : Int × V × V) : Obj := .cells #[.int .i64 q.1, .int .i64 q.2.1.1, .int .i64 q.2.1.2.1, .string q.2.1.2.2, .int .i64 q.2.2.1, .int .i64 q.2.2.2.1, .string q.2.2.2.2] 41
theorem Ob.made (w : World) (q : Int × V × V) : Ob (w.alloc (ob q)) w.heap.size q := ⟨by simp, fun j hj => by
  rw [cell_of_row (MapKept.heap_alloc w _).1]
  rcases lt7 hj with rfl | rfl | rfl | rfl | rfl | rfl | rfl <;> rfl⟩
theorem Ob.k {w : World} {b : Nat} {q : Int × V × V} (h : Ob w b q) : w.cell? ⟨b, 1, none⟩ = some (.int .i64 q.2.1.1) ∧ w.cell? ⟨b, 2, none⟩ = some (.int .i64 q.2.1.2.1) ∧ w.cell? ⟨b, 3, none⟩ = some (.string q.2.1.2.2) :=
  ⟨h.c 1 (by omega), h.c 2 (by omega), h.c 3 (by omega)⟩
theorem Ob.v {w : World} {b : Nat} {q : Int × V × V} (h : Ob w b q) : w.cell? ⟨b, 4, none⟩ = some (.int .i64 q.2.2.1) ∧ w.cell? ⟨b, 5, none⟩ = some (.int .i64 q.2.2.2.1) ∧ w.cell? ⟨b, 6, none⟩ = some (.string q.2.2.2.2) :=
  ⟨h.c 4 (by omega), h.c 5 (by omega), h.c 6 (by omega)⟩
abbrev nb (k x : V) (l : Int) : Obj := .cells #[.int .i64 k.1, .int .i64 k.2.1, .string k.2.2, .int .i64 x.1, .int .i64 x.2.1, .string x.2.2, .int .i64 l] 54
theorem nb_made (w : World) (k x : V) (l : Int) {j : Nat} (hj : j < 7) : (w.alloc (nb k x l)).cell? ⟨w.heap.size, j, none⟩ = some (nc k x l j) := by
  rw [cell_of_row (MapKept.heap_alloc w _).1]
  rcases lt7 hj with rfl | rfl | rfl | rfl | rfl | rfl | rfl <;> rfl
theorem fmI : fm (2, 1, ⟨#[]⟩) = true := by simp [fm, inF]

set_option maxRecDepth 100000 in
set_option maxHeartbeats 16000000 in
theorem plays_walk (z : Int) (L : Nat) (Q : Nat → Int × V × V) (v : Value) (W : World) (hO : Ops W.heap.size W v L Q) (hL : L * 72 ≤ 140737488355328) :
    Calls Try.prog 3 #[.int .i64 z, v] W fun e w' => e = .returned (.bool true) ∧ Below W.heap.size W w' := by
  have CF := fixed_any W
  have CR := right_any z
  by_cases hr : rt z = false
  · have CN := fun w => new_bad z w hr
    rw [hr] at CR
    clear hO hr
    go_enter Try.func3, Try.ntmps3
    go_wp2_with fail
    refine CF.mono ?_; rintro e w0 ⟨rfl, hb⟩
    have HB : Hid _ := hb
    clear hb CF
    go_wp2_with fail
    refine (CR _).mono ?_; rintro e w0 ⟨rfl, rfl⟩
    clear CR
    go_wp2_with fail
    refine (CN _).mono ?_; rintro e w0 ⟨rfl, rfl⟩
    clear CN
    have C1 := mkI 1 w0
    unfold vl at C1
    go_wp2_with fail
    refine C1.mono ?_; rintro e w1 ⟨rfl, hb⟩
    have HB1 : Hid _ := bthen HB.out HB.out.size hb
    clear C1 hb HB
    have C1 := mkI 1 w1
    unfold vl at C1
    go_wp2_with fail
    refine C1.mono ?_; rintro e w2 ⟨rfl, hb⟩
    have HB2 : Hid _ := bthen HB1.out HB1.out.size hb
    clear C1 hb HB1
    have CP := put_zero (p := .pointer none) (z := 0) (2, 1, ⟨#[]⟩) (2, 1, ⟨#[]⟩) w2 (fun W _ => size_nil W) ⟨fmI, fmI⟩ (by decide) (by constructor <;> decide) pw0
    rw [if_neg (show ¬ ((2 : Int), (1 : Int), (⟨#[]⟩ : ByteArray)).1 = 0 by decide)] at CP
    unfold vl at CP
    simp only at CP
    go_wp2_with fail
    refine CP.mono ?_; rintro e w3 ⟨rfl, hb⟩
    have HB3 : Hid _ := bthen HB2.out HB2.out.size hb
    clear CP hb HB2
    have C14 := size_nil w3
    have C15 := free_nil w3
    have C16 := dump_nil w3
    go_wp2_with fail
    refine C14.mono ?_; rintro e w4 ⟨rfl, rfl⟩
    go_wp2_with fail
    refine C15.mono ?_; rintro e w4 ⟨rfl, rfl⟩
    go_wp2_with fail
    refine C16.mono ?_; rintro e w4 ⟨rfl, rfl⟩
    go_wp2_with fail
    go_ret
    exact ⟨rfl, HB3.out⟩
  · have hr' : rt z = true := by simpa using hr
    obtain ⟨n, rfl, hR⟩ := Rt.of hr'
    rw [hr'] at CR
    clear hr hr'
    by_cases hn : 4096 < n
    · have hn' : 4096 < (n : Int) := by omega
      clear hO hR hn
      go_enter Try.func3, Try.ntmps3
      go_wp2_with fail
      refine CF.mono ?_; rintro e w0 ⟨rfl, hb⟩
      have HB : Hid _ := hb
      clear hb CF
      go_wp2_with fail
      refine (CR _).mono ?_; rintro e w0 ⟨rfl, rfl⟩
      clear CR
      go_wp2_with fail
      go_ret
      exact ⟨rfl, HB.out⟩
    · have hn' : ¬ 4096 < (n : Int) := by omega
      have CB := fun w => begin_any n w hR (by omega)
      have HO : Hid (Ops W.heap.size W v L Q) := hO
      obtain ⟨va0, cap, hva, hrng, _⟩ := id hO
      have HVA : Hid (v = .slice va0 L cap) := hva
      rw [hva]
      clear hva
      have HRng : Hid _ := hrng
      have HR : Hid (Rt n) := hR
      clear hO hrng hR
      unfold pp at CB
      go_enter Try.func3, Try.ntmps3
      go_wp2_with fail
      refine CF.mono ?_; rintro e w0 ⟨rfl, hb⟩
      have HB : Hid _ := hb
      clear hb CF
      go_wp2_with fail
      refine (CR _).mono ?_; rintro e w0 ⟨rfl, rfl⟩
      clear CR
      go_wp2_with fail
      refine (CB _).mono ?_; rintro e w2 ⟨S, ka, va, ca, w1, rfl, h1, h2⟩
      have HJ : Hid (∃ g cb, Jo W.heap.size W w2 w0.heap.size n S ka va ca g cb) := ⟨_, _, Jo.start HB.out h1 h2⟩
      clear CB h1 h2
      obtain ⟨a, ha⟩ : ∃ a, w0.heap.size = a := ⟨_, rfl⟩
      rw [ha] at HJ ⊢
      clear ha HB
      go_wp2_with fail
      go_loopw [12] (fun iw wr => ∃ k : Nat, iw = .int .i64 (k : Nat) ∧ k ≤ L ∧ Hid (∃ g cb, Jo W.heap.size W wr a n S ka va ca g cb)) (fun iw _ => L - (intOf iw).toNat)
      case atStart => exact ⟨0, rfl, by omega, HJ⟩
      case round =>
        obtain ⟨k, rfl, hk, HG⟩ := hrel
        obtain ⟨g, cb, hS⟩ := HG.out
        clear HG HJ
        by_cases hlt : k < L ∧ k < 400
        · obtain ⟨hlt, h400⟩ := hlt
          have hlt' : (k : Int) < (L : Int) := by omega
          have h400' : (k : Int) < 400 := by omega
          obtain ⟨lb, off, cap2, hv, hlb, o0, o1, o2, o3, o4, o5, o6⟩ := (HO.out.below (hS.below (Nat.le_refl _))).at hlt
          rw [HVA.out] at hv
          obtain ⟨rfl, rfl⟩ : va0 = some ⟨lb, off, none⟩ ∧ cap = cap2 := by simpa using hv
          clear hv
          have hb1 := b1 wr (ob (Q k))
          have hO1 := Ob.made wr (Q k)
          have hJ1 := hS.bel hb1
          have HNA : Hid (wr.heap.size ≠ a ∧ wr.heap.size ≠ a + 1) := by have h0 := hS.le; show _ ∧ _; omega
          have HQR : Hid (Rng (Q k).2.1) := HRng.out k hlt
          obtain ⟨W1, hW1⟩ : ∃ W1, wr.alloc (ob (Q k)) = W1 := ⟨_, rfl⟩
          rw [hW1] at hO1 hJ1
          have HJ1 : Hid _ := hJ1
          have HO1 : Hid _ := hO1
          have p0 : W1.cell? ⟨wr.heap.size, 0, none⟩ = some (.int .i64 (Q k).1) := hO1.c 0 (by omega)
          obtain ⟨p1, p2, p3⟩ := hO1.k
          obtain ⟨p4, p5, p6⟩ := hO1.v
          unfold ob at hW1
          generalize Q k = q at *
          obtain ⟨kd, kk, kv⟩ := q
          simp only at o0 o1 o2 o3 o4 o5 o6 p0 p1 p2 p3 p4 p5 p6 hW1 HQR HO1 HJ1
          clear hS hb1 hO1 hJ1
          by_cases q1 : kd = 1
          · have e1 : (kd == 1) = true := by simpa using q1
            have CP := put_all kk kv W1 HJ1.out.pt HJ1.out.inv HR.out HQR.out
            have HMD : Hid (∀ w', Pt w' (a + 1) a n (put n g kk kv).1 → Keep (fun x => x ≠ a ∧ x ≠ a + 1) W1 w' → Md W.heap.size W w' a n S ka va ca g (put n g kk kv).1 cb) := fun w' h1 h2 => HJ1.out.mid HR.out HQR.out h1 h2
            have CRP := fun w0 w h hN => rput_all (z := n) (N := a + 2) (S := S) (ka := ka) (va := va) (ca := ca) (g := g) (cb := cb) kk kv w0 w h hN HJ1.out.inv HR.out HQR.out
            generalize put n g kk kv = r at *
            unfold pp vl at CP CRP
            clear HJ1 q1
            go_wp2_with fail
            refine CP.mono ?_; rintro e w3 ⟨rfl, hp, hk2⟩
            have hM3 := HMD.out w3 hp hk2
            have CR := CRP w3 w3 hM3.rs hM3.le.2
            have HM3 : Hid _ := hM3
            have hO3 := HO1.out.kept hk2 HNA.out
            clear o0 o1 o2 o3 o4 o5 o6 p0 p1 p2 p3 p4 p5 p6 CP CRP HMD hp hk2 hM3 hW1 HO1
            obtain ⟨p1, p2, p3⟩ := hO3.k
            obtain ⟨p4, p5, p6⟩ := hO3.v
            simp only at p1 p2 p3 p4 p5 p6
            clear hO3
            go_wp2_with fail
            refine CR.mono ?_; rintro e w4 ⟨rfl, cb', hrs⟩
            have HJ4 : Hid _ := HM3.out.fin hrs
            clear CR HM3 hrs p1 p2 p3 p4 p5 p6
            have CFr : ∀ m, Calls Try.prog 15 #[.pointer (some ⟨a + 1, 0, none⟩)] (w4.drewN m) fun e w' => e = .returned (.int .i64 (r.1.f : Nat)) ∧ w' = w4.drewN m := fun m => free_any _ (HJ4.out.pt.below (bdrew _ _ _))
            have CSz : ∀ m, Calls Try.prog 14 #[.pointer (some ⟨a + 1, 0, none⟩)] (w4.drewN m) fun e w' => e = .returned (.int .i64 (n : Nat)) ∧ w' = w4.drewN m := fun m => size_any _ (HJ4.out.pt.below (bdrew _ _ _))
            have s3 := HJ4.out.rp.s3
            have HG2 : Hid (∀ m, ∃ g cb, Jo W.heap.size W (w4.drewN m) a n S ka va ca g cb) := fun m => ⟨_, _, HJ4.out.bel (bdrew _ _ _)⟩
            clear HJ4
            go_wp2_with fail
            go_quiet (first | exact Calls.quiet_of_same (CFr _) | exact Calls.quiet_of_same (CSz _))
            go_wp2_with fail
            go_round
            case rel => exact ⟨k + 1, by go_num, by omega, HG2.out _⟩
            case measure => simp [intOf]; omega
          · by_cases q2 : kd = 2
            · have e1 : (kd == 1) = false := by simpa using q1
              have e2 : (kd == 2) = true := by simpa using q2
              have CG := get_any kk W1 HJ1.out.pt HJ1.out.inv HR.out HQR.out
              have CRG := fun w (h : Jo W.heap.size W w a n S ka va ca g cb) => rget_any kk w h.rp h.inv HR.out HQR.out
              generalize xAt g (fnd n g kk).1 = x at *
              generalize (fnd n g kk).2 = m at *
              unfold pp vl at CG CRG
              clear q1 q2
              go_wp2_with fail
              refine CG.mono ?_; rintro e w3 ⟨rfl, hb⟩
              have hb2 := b1 w3 (vb x.1 x.2.1 x.2.2)
              have hX4 := Bx.made w3 x
              have hJ4 := (HJ1.out.bel hb).bel hb2
              have hO4 := (HO1.out.below hb).below hb2
              obtain ⟨W4, hW4⟩ : ∃ W4, w3.alloc (vb x.1 x.2.1 x.2.2) = W4 := ⟨_, rfl⟩
              rw [hW4] at hX4 hJ4 hO4
              unfold vb at hW4
              have HJ4 : Hid _ := hJ4
              have HX4 : Hid _ := hX4
              clear o0 o1 o2 o3 o4 o5 o6 p0 p1 p2 p3 p4 p5 p6 CG hb hb2 hW1 HO1 HJ1
              obtain ⟨p1, p2, p3⟩ := hO4.k
              simp only at p1 p2 p3
              have CR := CRG W4 hJ4
              clear hO4 hJ4 hX4 CRG
              go_wp2_with fail
              refine CR.mono ?_; rintro e w5 ⟨rfl, hb⟩
              have hb2 := b1 w5 (vb x.1 x.2.1 x.2.2)
              have hX5 := Bx.made w5 x
              have hJ5 := (HJ4.out.bel hb).bel hb2
              have hX6 := (HX4.out.below hb).below hb2
              obtain ⟨W5, hW5⟩ : ∃ W5, w5.alloc (vb x.1 x.2.1 x.2.2) = W5 := ⟨_, rfl⟩
              rw [hW5] at hX5 hJ5 hX6
              unfold vb at hW5
              have HJ5 : Hid _ := hJ5
              have r0 := hX5.c0
              have r1 := hX5.c1
              have r2 := hX5.c2
              have t0 := hX6.c0
              have t1 := hX6.c1
              have t2 := hX6.c2
              have N1 := neq32 x.1 x.2.1 x.1 x.2.1 x.2.2 x.2.2
              simp only [decide_true, Bool.not_true] at N1
              unfold vl at N1
              have g32 := guard32
              clear hJ5 hX5 hX6 HX4 HJ4 CR hb hb2 p1 p2 p3 hW4
              have CFr : ∀ m, Calls Try.prog 15 #[.pointer (some ⟨a + 1, 0, none⟩)] (W5.drewN m) fun e w' => e = .returned (.int .i64 (g.f : Nat)) ∧ w' = W5.drewN m := fun m => free_any _ (HJ5.out.pt.below (bdrew _ _ _))
              have CSz : ∀ m, Calls Try.prog 14 #[.pointer (some ⟨a + 1, 0, none⟩)] (W5.drewN m) fun e w' => e = .returned (.int .i64 (n : Nat)) ∧ w' = W5.drewN m := fun m => size_any _ (HJ5.out.pt.below (bdrew _ _ _))
              have s3 := HJ5.out.rp.s3
              have HG2 : Hid (∀ m, ∃ g cb, Jo W.heap.size W (W5.drewN m) a n S ka va ca g cb) := fun m => ⟨_, _, HJ5.out.bel (bdrew _ _ _)⟩
              clear HJ5
              go_wp2_with fail
              go_quiet (first | exact Calls.quiet_of_same (CFr _) | exact Calls.quiet_of_same (CSz _))
              go_wp2_with fail
              go_round
              case rel => exact ⟨k + 1, by go_num, by omega, HG2.out _⟩
              case measure => simp [intOf]; omega
            · by_cases q3 : kd = 3
              · have e1 : (kd == 1) = false := by simpa using q1
                have e2 : (kd == 2) = false := by simpa using q2
                have e3 : (kd == 3) = true := by simpa using q3
                have CG := find_all kk W1 HJ1.out.pt HJ1.out.inv HR.out HQR.out
                have CRG := fun w (h : Jo W.heap.size W w a n S ka va ca g cb) => rfind_any kk w h.rp h.inv HR.out HQR.out
                generalize fi (fnd n g kk).1 = x at *
                generalize (fnd n g kk).2 = m at *
                unfold pp vl at CG CRG
                clear q1 q2 q3
                go_wp2_with fail
                refine CG.mono ?_; rintro e w3 ⟨rfl, hb⟩
                have hJ4 := HJ1.out.bel hb
                have hO4 := HO1.out.below hb
                have HJ4 : Hid _ := hJ4
                clear o0 o1 o2 o3 o4 o5 o6 p0 p1 p2 p3 p4 p5 p6 CG hb hW1 HO1 HJ1
                obtain ⟨p1, p2, p3⟩ := hO4.k
                simp only at p1 p2 p3
                have CR := CRG w3 hJ4
                clear hO4 hJ4 CRG
                go_wp2_with fail
                refine CR.mono ?_; rintro e w5 ⟨rfl, hb⟩
                have HJ5 : Hid _ := HJ4.out.bel hb
                clear HJ4 CR hb p1 p2 p3
                have CFr : ∀ m, Calls Try.prog 15 #[.pointer (some ⟨a + 1, 0, none⟩)] (w5.drewN m) fun e w' => e = .returned (.int .i64 (g.f : Nat)) ∧ w' = w5.drewN m := fun m => free_any _ (HJ5.out.pt.below (bdrew _ _ _))
                have CSz : ∀ m, Calls Try.prog 14 #[.pointer (some ⟨a + 1, 0, none⟩)] (w5.drewN m) fun e w' => e = .returned (.int .i64 (n : Nat)) ∧ w' = w5.drewN m := fun m => size_any _ (HJ5.out.pt.below (bdrew _ _ _))
                have s3 := HJ5.out.rp.s3
                have HG2 : Hid (∀ m, ∃ g cb, Jo W.heap.size W (w5.drewN m) a n S ka va ca g cb) := fun m => ⟨_, _, HJ5.out.bel (bdrew _ _ _)⟩
                clear HJ5
                go_wp2_with fail
                go_quiet (first | exact Calls.quiet_of_same (CFr _) | exact Calls.quiet_of_same (CSz _))
                go_wp2_with fail
                go_round
                case rel => exact ⟨k + 1, by go_num, by omega, HG2.out _⟩
                case measure => simp [intOf]; omega
              · have e1 : (kd == 1) = false := by simpa using q1
                have e2 : (kd == 2) = false := by simpa using q2
                have e3 : (kd == 3) = false := by simpa using q3
                have CD := dump_any W1 HJ1.out.pt HR.out.le
                unfold pp at CD
                clear q1 q2 q3
                go_wp2_with fail
                refine CD.mono ?_; rintro e w5 ⟨D, c', rfl, hrow, hfz, hDge, hDlt, hb⟩
                have hJ5 := HJ1.out.bel hb
                have CRD := rdump_any w5 hJ5.rp hJ5.inv HR.out
                have HJ6 : Hid _ := hJ5
                have HD : Hid (Rc w5 D n (nf (pl n) g) ∧ D < w5.heap.size) := ⟨hrow, hDlt⟩
                clear CD hrow hfz hDge hDlt hb hJ5 o0 o1 o2 o3 o4 o5 o6 p0 p1 p2 p3 p4 p5 p6 hW1 HO1 HJ1
                unfold pp at CRD
                go_wp2_with fail
                refine CRD.mono ?_; rintro e w6 ⟨rfl, hrow2, hlt6, hb⟩
                have CS := same_any (c1 := c') (c2 := n) w6 (HD.out.1.block (hb.block D HD.out.2)) hrow2 HR.out.le
                have HJ7 : Hid _ := HJ6.out.bel hb
                clear CRD hrow2 hlt6 hb HD HJ6
                go_wp2_with fail
                refine CS.mono ?_; rintro e w7 ⟨rfl, hb⟩
                have HJ8 : Hid _ := HJ7.out.bel hb
                clear CS hb HJ7
                have CFr : ∀ m, Calls Try.prog 15 #[.pointer (some ⟨a + 1, 0, none⟩)] (w7.drewN m) fun e w' => e = .returned (.int .i64 (g.f : Nat)) ∧ w' = w7.drewN m := fun m => free_any _ (HJ8.out.pt.below (bdrew _ _ _))
                have CSz : ∀ m, Calls Try.prog 14 #[.pointer (some ⟨a + 1, 0, none⟩)] (w7.drewN m) fun e w' => e = .returned (.int .i64 (n : Nat)) ∧ w' = w7.drewN m := fun m => size_any _ (HJ8.out.pt.below (bdrew _ _ _))
                have s3 := HJ8.out.rp.s3
                have HG2 : Hid (∀ m, ∃ g cb, Jo W.heap.size W (w7.drewN m) a n S ka va ca g cb) := fun m => ⟨_, _, HJ8.out.bel (bdrew _ _ _)⟩
                clear HJ8
                go_wp2_with fail
                go_quiet (first | exact Calls.quiet_of_same (CFr _) | exact Calls.quiet_of_same (CSz _))
                go_wp2_with fail
                go_round
                case rel => exact ⟨k + 1, by go_num, by omega, HG2.out _⟩
                case measure => simp [intOf]; omega
        · have CRD := rdump_any wr hS.rp hS.inv HR.out
          have HJr : Hid _ := hS
          clear hS
          unfold pp at CRD
          by_cases hlt2 : k < L
          · have hlt' : (k : Int) < (L : Int) := by omega
            have h400' : ¬ (k : Int) < 400 := by omega
            clear hlt
            go_wp2_with fail
            refine CRD.mono ?_; rintro e w5 ⟨rfl, hrow, hlt5, hb⟩
            have HE : Hid (Jo W.heap.size W w5 a n S ka va ca g cb ∧ Rc w5 wr.heap.size n (nf (pl n) g) ∧ wr.heap.size < w5.heap.size) := ⟨HJr.out.bel hb, hrow, hlt5⟩
            clear CRD hrow hlt5 hb HJr
            obtain ⟨D, hD⟩ : ∃ D, wr.heap.size = D := ⟨_, rfl⟩
            rw [hD] at HE ⊢
            clear hD
            go_wp2_with fail
            go_loopw [27] (fun iw wr => ∃ x : Int, iw = .int .i64 x ∧ -1 ≤ x ∧ x ≤ (n : Int) + 1 ∧ Hid (Jo W.heap.size W wr a n S ka va ca g cb ∧ Rc wr D n (nf (pl n) g) ∧ D < wr.heap.size)) (fun iw _ => ((n : Int) + 2 - intOf iw).toNat)
            case atStart => exact ⟨-1, rfl, by omega, by omega, HE⟩
            case round =>
              obtain ⟨x, rfl, hx1, hx2, HX⟩ := hrel
              clear HE
              have g32 := guard32
              have g54 := guard54
              by_cases hx3 : x ≤ n
              · by_cases hx4 : x < 300
                · by_cases hout : x < 0 ∨ (n : Int) ≤ x
                  · have CA := at_out x wr HX.out.1.pt.sizes hout
                    have N1 := neq54 nil nil nil nil 0 0
                    simp only [decide_true, and_self, Bool.not_true] at N1
                    unfold vn at N1
                    unfold pp vn at CA
                    unfold nil at CA N1
                    simp only at CA N1
                    by_cases hx0 : x < 0
                    · clear hout
                      go_wp2_with fail
                      refine CA.mono ?_; rintro e w6 ⟨rfl, hb⟩
                      have HX6 : Hid (∀ o, Jo W.heap.size W (w6.alloc o) a n S ka va ca g cb ∧ Rc (w6.alloc o) D n (nf (pl n) g) ∧ D < (w6.alloc o).heap.size) := fun o => ⟨(HX.out.1.bel hb).bel (b1 _ _), (HX.out.2.1.block (hb.block D HX.out.2.2)).block ((b1 w6 o).block D (Nat.lt_of_lt_of_le HX.out.2.2 hb.size)), Nat.lt_of_lt_of_le (Nat.lt_of_lt_of_le HX.out.2.2 hb.size) (b1 w6 o).size⟩
                      clear CA hb HX
                      go_wp2_with fail
                      go_round
                      case rel => exact ⟨x + 1, by go_num, by omega, by omega, HX6.out _⟩
                      case measure => simp [intOf]; omega
                    · have hx5 : (n : Int) ≤ x := by omega
                      clear hout
                      go_wp2_with fail
                      refine CA.mono ?_; rintro e w6 ⟨rfl, hb⟩
                      have HX6 : Hid (∀ o, Jo W.heap.size W (w6.alloc o) a n S ka va ca g cb ∧ Rc (w6.alloc o) D n (nf (pl n) g) ∧ D < (w6.alloc o).heap.size) := fun o => ⟨(HX.out.1.bel hb).bel (b1 _ _), (HX.out.2.1.block (hb.block D HX.out.2.2)).block ((b1 w6 o).block D (Nat.lt_of_lt_of_le HX.out.2.2 hb.size)), Nat.lt_of_lt_of_le (Nat.lt_of_lt_of_le HX.out.2.2 hb.size) (b1 w6 o).size⟩
                      clear CA hb HX
                      go_wp2_with fail
                      go_round
                      case rel => exact ⟨x + 1, by go_num, by omega, by omega, HX6.out _⟩
                      case measure => simp [intOf]; omega
                  · obtain ⟨i, rfl⟩ : ∃ i : Nat, x = i := ⟨x.toNat, by omega⟩
                    have hi : i < n := by omega
                    have hi' : (i : Int) < (n : Int) := by omega
                    have hi0 : ¬ (i : Int) < 0 := by omega
                    have CA := at_in i wr HX.out.1.pt hi
                    unfold pp vn at CA
                    clear hout
                    go_wp2_with fail
                    refine CA.mono ?_; rintro e w6 ⟨rfl, hb⟩
                    have hb2 := b1 w6 (nb (g.K i) (g.X i) (link (pl n) g i))
                    have a0 := nb_made w6 (g.K i) (g.X i) (link (pl n) g i) (j := 0) (by omega)
                    have a1 := nb_made w6 (g.K i) (g.X i) (link (pl n) g i) (j := 1) (by omega)
                    have a2 := nb_made w6 (g.K i) (g.X i) (link (pl n) g i) (j := 2) (by omega)
                    have a3 := nb_made w6 (g.K i) (g.X i) (link (pl n) g i) (j := 3) (by omega)
                    have a4 := nb_made w6 (g.K i) (g.X i) (link (pl n) g i) (j := 4) (by omega)
                    have a5 := nb_made w6 (g.K i) (g.X i) (link (pl n) g i) (j := 5) (by omega)
                    have a6 := nb_made w6 (g.K i) (g.X i) (link (pl n) g i) (j := 6) (by omega)
                    have hX6 : Jo W.heap.size W (w6.alloc (nb (g.K i) (g.X i) (link (pl n) g i))) a n S ka va ca g cb ∧ Rc (w6.alloc (nb (g.K i) (g.X i) (link (pl n) g i))) D n (nf (pl n) g) ∧ D < (w6.alloc (nb (g.K i) (g.X i) (link (pl n) g i))).heap.size := ⟨(HX.out.1.bel hb).bel hb2, (HX.out.2.1.block (hb.block D HX.out.2.2)).block (hb2.block D (Nat.lt_of_lt_of_le HX.out.2.2 hb.size)), Nat.lt_of_lt_of_le (Nat.lt_of_lt_of_le HX.out.2.2 hb.size) hb2.size⟩
                    obtain ⟨W6, hW6⟩ : ∃ W6, w6.alloc (nb (g.K i) (g.X i) (link (pl n) g i)) = W6 := ⟨_, rfl⟩
                    rw [hW6] at a0 a1 a2 a3 a4 a5 a6 hX6
                    unfold nb at hW6
                    have b0 : W6.cell? ⟨D, i * 7, none⟩ = some (.int .i64 (g.K i).1) := hX6.2.1.c i hi 0 (by omega)
                    have b1 : W6.cell? ⟨D, i * 7 + 1, none⟩ = some (.int .i64 (g.K i).2.1) := hX6.2.1.c i hi 1 (by omega)
                    have b2 : W6.cell? ⟨D, i * 7 + 2, none⟩ = some (.string (g.K i).2.2) := hX6.2.1.c i hi 2 (by omega)
                    have b3 : W6.cell? ⟨D, i * 7 + 3, none⟩ = some (.int .i64 (g.X i).1) := hX6.2.1.c i hi 3 (by omega)
                    have b4 : W6.cell? ⟨D, i * 7 + 4, none⟩ = some (.int .i64 (g.X i).2.1) := hX6.2.1.c i hi 4 (by omega)
                    have b5 : W6.cell? ⟨D, i * 7 + 5, none⟩ = some (.string (g.X i).2.2) := hX6.2.1.c i hi 5 (by omega)
                    have b6 : W6.cell? ⟨D, i * 7 + 6, none⟩ = some (.int .i64 (link (pl n) g i)) := hX6.2.1.c i hi 6 (by omega)
                    have HX7 : Hid (∀ m, Jo W.heap.size W (W6.drewN m) a n S ka va ca g cb ∧ Rc (W6.drewN m) D n (nf (pl n) g) ∧ D < (W6.drewN m).heap.size) := fun m => ⟨hX6.1.bel (bdrew _ _ _), hX6.2.1.block rfl, hX6.2.2⟩
                    have N1 := neq32 (g.K i).1 (g.K i).2.1 (g.K i).1 (g.K i).2.1 (g.K i).2.2 (g.K i).2.2
                    have N2 := neq32 (g.X i).1 (g.X i).2.1 (g.X i).1 (g.X i).2.1 (g.X i).2.2 (g.X i).2.2
                    simp only [decide_true, Bool.not_true] at N1 N2
                    unfold vl at N1 N2
                    simp only [nc] at a0 a1 a2 a3 a4 a5 a6
                    clear CA hb hb2 HX hX6
                    go_wp2_with fail
                    go_quiet (fail)
                    go_wp2_with fail
                    go_round
                    case rel => exact ⟨i + 1, by go_num, by omega, by omega, HX7.out _⟩
                    case measure => simp [intOf]; omega
                · have CD := dump_any wr HX.out.1.pt HR.out.le
                  unfold pp at CD
                  go_wp2_with fail
                  refine CD.mono ?_; rintro e w6 ⟨D1, c', rfl, hrow, hfz, hDge, hDlt, hb⟩
                  have CS := same_any (c1 := c') (c2 := n) w6 hrow (HX.out.2.1.block (hb.block D HX.out.2.2)) HR.out.le
                  have HB6 : Hid (Below W.heap.size W w6) := (HX.out.1.bel hb).below (Nat.le_refl _)
                  clear CD hrow hfz hDge hDlt hb HX
                  go_wp2_with fail
                  refine CS.mono ?_; rintro e w7 ⟨rfl, hb⟩
                  have HB7 : Hid (Below W.heap.size W w7) := bthen HB6.out HB6.out.size hb
                  clear CS hb HB6
                  go_wp2_with fail
                  go_ret
                  exact ⟨rfl, HB7.out⟩
              · have CD := dump_any wr HX.out.1.pt HR.out.le
                unfold pp at CD
                go_wp2_with fail
                refine CD.mono ?_; rintro e w6 ⟨D1, c', rfl, hrow, hfz, hDge, hDlt, hb⟩
                have CS := same_any (c1 := c') (c2 := n) w6 hrow (HX.out.2.1.block (hb.block D HX.out.2.2)) HR.out.le
                have HB6 : Hid (Below W.heap.size W w6) := (HX.out.1.bel hb).below (Nat.le_refl _)
                clear CD hrow hfz hDge hDlt hb HX
                go_wp2_with fail
                refine CS.mono ?_; rintro e w7 ⟨rfl, hb⟩
                have HB7 : Hid (Below W.heap.size W w7) := bthen HB6.out HB6.out.size hb
                clear CS hb HB6
                go_wp2_with fail
                go_ret
                exact ⟨rfl, HB7.out⟩
          · have hlt' : ¬ (k : Int) < (L : Int) := by omega
            clear hlt
            go_wp2_with fail
            refine CRD.mono ?_; rintro e w5 ⟨rfl, hrow, hlt5, hb⟩
            have HE : Hid (Jo W.heap.size W w5 a n S ka va ca g cb ∧ Rc w5 wr.heap.size n (nf (pl n) g) ∧ wr.heap.size < w5.heap.size) := ⟨HJr.out.bel hb, hrow, hlt5⟩
            clear CRD hrow hlt5 hb HJr
            obtain ⟨D, hD⟩ : ∃ D, wr.heap.size = D := ⟨_, rfl⟩
            rw [hD] at HE ⊢
            clear hD
            go_wp2_with fail
            go_loopw [27] (fun iw wr => ∃ x : Int, iw = .int .i64 x ∧ -1 ≤ x ∧ x ≤ (n : Int) + 1 ∧ Hid (Jo W.heap.size W wr a n S ka va ca g cb ∧ Rc wr D n (nf (pl n) g) ∧ D < wr.heap.size)) (fun iw _ => ((n : Int) + 2 - intOf iw).toNat)
            case atStart => exact ⟨-1, rfl, by omega, by omega, HE⟩
            case round =>
              obtain ⟨x, rfl, hx1, hx2, HX⟩ := hrel
              clear HE
              have g32 := guard32
              have g54 := guard54
              by_cases hx3 : x ≤ n
              · by_cases hx4 : x < 300
                · by_cases hout : x < 0 ∨ (n : Int) ≤ x
                  · have CA := at_out x wr HX.out.1.pt.sizes hout
                    have N1 := neq54 nil nil nil nil 0 0
                    simp only [decide_true, and_self, Bool.not_true] at N1
                    unfold vn at N1
                    unfold pp vn at CA
                    unfold nil at CA N1
                    simp only at CA N1
                    by_cases hx0 : x < 0
                    · clear hout
                      go_wp2_with fail
                      refine CA.mono ?_; rintro e w6 ⟨rfl, hb⟩
                      have HX6 : Hid (∀ o, Jo W.heap.size W (w6.alloc o) a n S ka va ca g cb ∧ Rc (w6.alloc o) D n (nf (pl n) g) ∧ D < (w6.alloc o).heap.size) := fun o => ⟨(HX.out.1.bel hb).bel (b1 _ _), (HX.out.2.1.block (hb.block D HX.out.2.2)).block ((b1 w6 o).block D (Nat.lt_of_lt_of_le HX.out.2.2 hb.size)), Nat.lt_of_lt_of_le (Nat.lt_of_lt_of_le HX.out.2.2 hb.size) (b1 w6 o).size⟩
                      clear CA hb HX
                      go_wp2_with fail
                      go_round
                      case rel => exact ⟨x + 1, by go_num, by omega, by omega, HX6.out _⟩
                      case measure => simp [intOf]; omega
                    · have hx5 : (n : Int) ≤ x := by omega
                      clear hout
                      go_wp2_with fail
                      refine CA.mono ?_; rintro e w6 ⟨rfl, hb⟩
                      have HX6 : Hid (∀ o, Jo W.heap.size W (w6.alloc o) a n S ka va ca g cb ∧ Rc (w6.alloc o) D n (nf (pl n) g) ∧ D < (w6.alloc o).heap.size) := fun o => ⟨(HX.out.1.bel hb).bel (b1 _ _), (HX.out.2.1.block (hb.block D HX.out.2.2)).block ((b1 w6 o).block D (Nat.lt_of_lt_of_le HX.out.2.2 hb.size)), Nat.lt_of_lt_of_le (Nat.lt_of_lt_of_le HX.out.2.2 hb.size) (b1 w6 o).size⟩
                      clear CA hb HX
                      go_wp2_with fail
                      go_round
                      case rel => exact ⟨x + 1, by go_num, by omega, by omega, HX6.out _⟩
                      case measure => simp [intOf]; omega
                  · obtain ⟨i, rfl⟩ : ∃ i : Nat, x = i := ⟨x.toNat, by omega⟩
                    have hi : i < n := by omega
                    have hi' : (i : Int) < (n : Int) := by omega
                    have hi0 : ¬ (i : Int) < 0 := by omega
                    have CA := at_in i wr HX.out.1.pt hi
                    unfold pp vn at CA
                    clear hout
                    go_wp2_with fail
                    refine CA.mono ?_; rintro e w6 ⟨rfl, hb⟩
                    have hb2 := b1 w6 (nb (g.K i) (g.X i) (link (pl n) g i))
                    have a0 := nb_made w6 (g.K i) (g.X i) (link (pl n) g i) (j := 0) (by omega)
                    have a1 := nb_made w6 (g.K i) (g.X i) (link (pl n) g i) (j := 1) (by omega)
                    have a2 := nb_made w6 (g.K i) (g.X i) (link (pl n) g i) (j := 2) (by omega)
                    have a3 := nb_made w6 (g.K i) (g.X i) (link (pl n) g i) (j := 3) (by omega)
                    have a4 := nb_made w6 (g.K i) (g.X i) (link (pl n) g i) (j := 4) (by omega)
                    have a5 := nb_made w6 (g.K i) (g.X i) (link (pl n) g i) (j := 5) (by omega)
                    have a6 := nb_made w6 (g.K i) (g.X i) (link (pl n) g i) (j := 6) (by omega)
                    have hX6 : Jo W.heap.size W (w6.alloc (nb (g.K i) (g.X i) (link (pl n) g i))) a n S ka va ca g cb ∧ Rc (w6.alloc (nb (g.K i) (g.X i) (link (pl n) g i))) D n (nf (pl n) g) ∧ D < (w6.alloc (nb (g.K i) (g.X i) (link (pl n) g i))).heap.size := ⟨(HX.out.1.bel hb).bel hb2, (HX.out.2.1.block (hb.block D HX.out.2.2)).block (hb2.block D (Nat.lt_of_lt_of_le HX.out.2.2 hb.size)), Nat.lt_of_lt_of_le (Nat.lt_of_lt_of_le HX.out.2.2 hb.size) hb2.size⟩
                    obtain ⟨W6, hW6⟩ : ∃ W6, w6.alloc (nb (g.K i) (g.X i) (link (pl n) g i)) = W6 := ⟨_, rfl⟩
                    rw [hW6] at a0 a1 a2 a3 a4 a5 a6 hX6
                    unfold nb at hW6
                    have b0 : W6.cell? ⟨D, i * 7, none⟩ = some (.int .i64 (g.K i).1) := hX6.2.1.c i hi 0 (by omega)
                    have b1 : W6.cell? ⟨D, i * 7 + 1, none⟩ = some (.int .i64 (g.K i).2.1) := hX6.2.1.c i hi 1 (by omega)
                    have b2 : W6.cell? ⟨D, i * 7 + 2, none⟩ = some (.string (g.K i).2.2) := hX6.2.1.c i hi 2 (by omega)
                    have b3 : W6.cell? ⟨D, i * 7 + 3, none⟩ = some (.int .i64 (g.X i).1) := hX6.2.1.c i hi 3 (by omega)
                    have b4 : W6.cell? ⟨D, i * 7 + 4, none⟩ = some (.int .i64 (g.X i).2.1) := hX6.2.1.c i hi 4 (by omega)
                    have b5 : W6.cell? ⟨D, i * 7 + 5, none⟩ = some (.string (g.X i).2.2) := hX6.2.1.c i hi 5 (by omega)
                    have b6 : W6.cell? ⟨D, i * 7 + 6, none⟩ = some (.int .i64 (link (pl n) g i)) := hX6.2.1.c i hi 6 (by omega)
                    have HX7 : Hid (∀ m, Jo W.heap.size W (W6.drewN m) a n S ka va ca g cb ∧ Rc (W6.drewN m) D n (nf (pl n) g) ∧ D < (W6.drewN m).heap.size) := fun m => ⟨hX6.1.bel (bdrew _ _ _), hX6.2.1.block rfl, hX6.2.2⟩
                    have N1 := neq32 (g.K i).1 (g.K i).2.1 (g.K i).1 (g.K i).2.1 (g.K i).2.2 (g.K i).2.2
                    have N2 := neq32 (g.X i).1 (g.X i).2.1 (g.X i).1 (g.X i).2.1 (g.X i).2.2 (g.X i).2.2
                    simp only [decide_true, Bool.not_true] at N1 N2
                    unfold vl at N1 N2
                    simp only [nc] at a0 a1 a2 a3 a4 a5 a6
                    clear CA hb hb2 HX hX6
                    go_wp2_with fail
                    go_quiet (fail)
                    go_wp2_with fail
                    go_round
                    case rel => exact ⟨i + 1, by go_num, by omega, by omega, HX7.out _⟩
                    case measure => simp [intOf]; omega
                · have CD := dump_any wr HX.out.1.pt HR.out.le
                  unfold pp at CD
                  go_wp2_with fail
                  refine CD.mono ?_; rintro e w6 ⟨D1, c', rfl, hrow, hfz, hDge, hDlt, hb⟩
                  have CS := same_any (c1 := c') (c2 := n) w6 hrow (HX.out.2.1.block (hb.block D HX.out.2.2)) HR.out.le
                  have HB6 : Hid (Below W.heap.size W w6) := (HX.out.1.bel hb).below (Nat.le_refl _)
                  clear CD hrow hfz hDge hDlt hb HX
                  go_wp2_with fail
                  refine CS.mono ?_; rintro e w7 ⟨rfl, hb⟩
                  have HB7 : Hid (Below W.heap.size W w7) := bthen HB6.out HB6.out.size hb
                  clear CS hb HB6
                  go_wp2_with fail
                  go_ret
                  exact ⟨rfl, HB7.out⟩
              · have CD := dump_any wr HX.out.1.pt HR.out.le
                unfold pp at CD
                go_wp2_with fail
                refine CD.mono ?_; rintro e w6 ⟨D1, c', rfl, hrow, hfz, hDge, hDlt, hb⟩
                have CS := same_any (c1 := c') (c2 := n) w6 hrow (HX.out.2.1.block (hb.block D HX.out.2.2)) HR.out.le
                have HB6 : Hid (Below W.heap.size W w6) := (HX.out.1.bel hb).below (Nat.le_refl _)
                clear CD hrow hfz hDge hDlt hb HX
                go_wp2_with fail
                refine CS.mono ?_; rintro e w7 ⟨rfl, hb⟩
                have HB7 : Hid (Below W.heap.size W w7) := bthen HB6.out HB6.out.size hb
                clear CS hb HB6
                go_wp2_with fail
                go_ret
                exact ⟨rfl, HB7.out⟩
end Go.Proofs.Ytbkgbojfjijalaa
