/- The walk of Find. -/
import Derived.Test.YtpmmploedkbeoaaGreatDoorCg01
import Derived.StillTailTactics
namespace Go.Proofs.YtpmmploedkbeoaaGreatDoor
open Go.RowKit

theorem mnE_ok {k : V} (hk : KOK k) {z : Int} (hz : pw z = true) : mnE k.1 k.2.1 k.2.2 z = 0 ∧ mnP k.1 k.2.1 k.2.2 z = mp k.1 k.2.1 k.2.2 z := by
  unfold mnE mnP
  rw [if_pos hk.1, if_pos hz, if_neg hk.2.1, if_pos ⟨hk.1, hz, hk.2.1⟩]
  exact ⟨rfl, rfl⟩

theorem bdrew (B : Nat) (w : World) (n : Nat) : Below B w (w.drewN n) := ⟨rfl, rfl, rfl, Nat.le_refl _, fun _ _ => rfl⟩
theorem ret2i {a b : Int} {c d : Nat} (h : a = b) (h' : c = d) : Ending.returned (.tuple #[.int .i64 a, .int .i64 (c : Int)]) = .returned (.tuple #[.int .i64 b, .int .i64 (d : Int)]) := by rw [h, h']

set_option maxRecDepth 20000 in
set_option maxHeartbeats 2000000 in
theorem find_any {b a z : Nat} {g : G} (k : V) (w : World) (h : Pt w b a z g) (hi : Inv z (pl z) KOK g) (hz : pw z = true) (hk : KOK k) :
    Calls Tryz.prog 102 #[pp b, vl k.1 k.2.1 k.2.2] w fun e w' => e = .returned (.tuple #[.int .i64 (fi (find (pl z) g k).1), .int .i64 ((find (pl z) g k).2 : Nat)]) ∧ Below w.heap.size w w' := by
  have HP : Hid _ := h
  have HI : Hid _ := hi
  have CM := fun w => main_any k.1 k.2.1 k.2.2 z w hk.2.2.1 hk.2.2.2
  rw [(mnE_ok hk hz).1, (mnE_ok hk hz).2, ← pl_cast hz k] at CM
  have hzb := (pw_bounds z hz).2
  have hm0 := pl_lt hz k
  obtain ⟨Ls, c0, hsuf⟩ := hi.lk_suf (fun k _ => pl_lt hz k) hm0
  rw [hsuf] at Ls
  have HF : Hid (find (pl z) g k = scan g.K k (pl z k :: c0) 0) := by show _ = _; rw [find, hsuf]
  have HL : Hid _ := Ls
  clear Ls hsuf
  obtain ⟨m, hm⟩ : ∃ m, pl z k = m := ⟨_, rfl⟩
  rw [hm] at CM hm0 HF HL
  have hlt : w.heap.size < (w.alloc (vb k.1 k.2.1 k.2.2)).heap.size := by simp
  obtain ⟨X, F, F1, F2⟩ := class_of (w.alloc (vb k.1 k.2.1 k.2.2))
  have hP : ∀ x, Pt (F x) b a z g := fun x => (h.below (b1 w _)).below (F1 x)
  have e0 : ∀ x, (F x).cell? ⟨w.heap.size, 0, none⟩ = some (.int .i64 k.1) := fun x => by rw [(F1 x).cell (by simp)]; simp [go_sem]
  have e1 : ∀ x, (F x).cell? ⟨w.heap.size, 1, none⟩ = some (.int .i64 k.2.1) := fun x => by rw [(F1 x).cell (by simp)]; simp [go_sem]
  have e2 : ∀ x, (F x).cell? ⟨w.heap.size, 2, none⟩ = some (.string k.2.2) := fun x => by rw [(F1 x).cell (by simp)]; simp [go_sem]
  have hS : ∀ x, Calls Tryz.prog 111 #[pp b] (F x) fun e w'' => e = .returned (.int .i64 (z : Nat)) ∧ ∃ y, w'' = F y := fun x =>
    (size_any (F x) (hP x)).mono fun e w' ⟨he, hw⟩ => ⟨he, x, hw⟩
  have hM : ∀ x, Calls Tryz.prog 144 #[vl k.1 k.2.1 k.2.2, .int .i64 (z : Nat)] (F x) fun e w'' => e = .returned (.tuple #[.int .i64 (m : Nat), .int .i64 0]) ∧ ∃ y, w'' = F y := fun x =>
    (CM (F x)).mono fun e w' ⟨he, hw⟩ => ⟨he, F2 w' (hw ▸ bthen (F1 x) (F1 x).size (b2 _ _ _))⟩
  have HC : Hid (∃ x, (w.alloc (vb k.1 k.2.1 k.2.2)).drew = F x) := F2 _ (Below.refl _ _).drew
  have HF1 : Hid _ := F1
  have HK : Hid _ := hk
  have HPF : Hid _ := hP
  have E0 : Hid _ := e0
  have E1 : Hid _ := e1
  have E2 : Hid _ := e2
  have HB : Hid (∀ x, Below w.heap.size w (F x)) := fun x => bthen (b1 w _) (by simp) (F1 x)
  clear CM h hi hP hm
  unfold pp vl vb at *
  clear hk hz F1 F2
  go_enter Tryz.func102, Tryz.ntmps102
  go_wp2_with fail
  haveI : Nonempty X := HC.out.elim fun x _ => ⟨x⟩
  refine wp_class (F := F) (by kernel_rfl) (by kernel_rfl) HC.out ?_
  repeat (go_big_quiet_step (first | exact hS _ | exact hM _))
  refine wpQuiet_nil ?_
  intro _ hw'
  obtain ⟨x, rfl⟩ := hw'
  go_wp2_with fail
  clear hS hM HC e0 e1 e2 HF1 hlt HP
  obtain ⟨B, hB⟩ : ∃ B, w.heap.size = B := ⟨_, rfl⟩
  have HBB : Hid (w.heap.size = B) := hB
  simp only [hB] at E0 E1 E2 HB ⊢
  clear hB
  obtain ⟨q0, hq0⟩ : ∃ q : Int, q = k.1 := ⟨_, rfl⟩
  obtain ⟨q1, hq1⟩ : ∃ q : Int, q = k.2.1 := ⟨_, rfl⟩
  obtain ⟨q2, hq2⟩ : ∃ q : ByteArray, q = k.2.2 := ⟨_, rfl⟩
  rw [← hq0] at E0 ⊢
  rw [← hq1] at E1 ⊢
  rw [← hq2] at E2 ⊢
  have Hq : Hid (k = (q0, q1, q2)) := by show _ = _; rw [hq0, hq1, hq2]
  clear hq0 hq1 hq2
  go_loopw [6, 8] (fun i r wr => ∃ (j n : Nat) (c : List Nat), i = .int .i64 (j : Nat) ∧ r = .int .i64 (n + 1 : Nat) ∧ Hid (Lk z (pl z) g (j :: c)) ∧ Hid (find (pl z) g k = scan g.K k (j :: c) n) ∧ n + c.length + 1 ≤ z ∧ j < z ∧
      Hid (Pt wr b a z g) ∧ Hid (wr.cell? ⟨B, 0, none⟩ = some (.int .i64 q0) ∧ wr.cell? ⟨B, 1, none⟩ = some (.int .i64 q1) ∧ wr.cell? ⟨B, 2, none⟩ = some (.string q2)) ∧ Hid (Below B w wr)) (fun _ r _ => z - (intOf r).toNat)
  case atStart => exact ⟨m, 0, c0, rfl, rfl, HL, HF, by have := HI.out.lk_len HL.out; simp at this; omega, hm0, HPF.out x, ⟨E0.out x, E1.out x, E2.out x⟩, HB.out x⟩
  case round =>
    obtain ⟨j, n, c, rfl, rfl, L, Fj, hn, hj, P, ⟨d0, d1, d2⟩, Bl⟩ := hrel
    have c1 := P.out.all
    obtain ⟨k0, k1, k2⟩ := P.out.k hj
    have k6 := P.out.l hj
    obtain ⟨r0, hr0⟩ : ∃ q : Int, q = (g.K j).1 := ⟨_, rfl⟩
    obtain ⟨r1, hr1⟩ : ∃ q : Int, q = (g.K j).2.1 := ⟨_, rfl⟩
    obtain ⟨r2, hr2⟩ : ∃ q : ByteArray, q = (g.K j).2.2 := ⟨_, rfl⟩
    rw [← hr0] at k0
    rw [← hr1] at k1
    rw [← hr2] at k2
    have Hr : Hid (g.K j = (r0, r1, r2)) := by show _ = _; rw [hr0, hr1, hr2]
    clear hr0 hr1 hr2
    have hj' : (j : Int) < (z : Int) := by omega
    rw [HI.out.lk_link L.out] at k6
    have N := neq32 r0 r1 q0 q1 r2 q2
    unfold vl at N
    have g32 := guard32
    by_cases e : g.K j = k
    · have e0 : decide ((r0, r1, r2) = (q0, q1, q2)) = true := by rw [← Hr.out, ← Hq.out]; simpa using e
      rw [e0] at N
      have R : Hid (find (pl z) g k = (some j, n + 1)) := by show _ = _; rw [Fj.out, scan, if_pos e]
      clear e e0
      go_wp2_with fail
      go_quiet (fail)
      go_wp2_with fail
      go_ret2
      rw [R.out]
      exact ⟨rfl, by rw [HBB.out]; exact Bl.out.trans (bdrew _ _ _)⟩
    · have e0 : decide ((r0, r1, r2) = (q0, q1, q2)) = false := by rw [← Hr.out, ← Hq.out]; simpa using e
      rw [e0] at N
      have R : Hid (find (pl z) g k = scan g.K k c (n + 1)) := by show _ = _; rw [Fj.out, scan, if_neg e]
      clear e e0
      cases c with
      | nil =>
        have k6' : wr.cell? ⟨a, j * 7 + 6, none⟩ = some (.int .i64 0) := k6
        clear k6
        go_wp2_with fail
        go_quiet (fail)
        go_wp2_with fail
        go_ret2
        rw [R.out, scan]
        exact ⟨rfl, by rw [HBB.out]; exact Bl.out.trans (bdrew _ _ _)⟩
      | cons d c =>
        have k6' : wr.cell? ⟨a, j * 7 + 6, none⟩ = some (.int .i64 ((d : Int) - j)) := k6
        have hd : Hid (j ≠ d) := HI.out.lk_ne L.out
        have L2 : Hid (Lk z (pl z) g (d :: c)) := HI.out.lk_tail L.out
        have hd2 := HI.out.lk_lt L2.out
        have hne : (d : Int) - j ≠ 0 := by
          have h0 := hd.out
          omega
        clear k6
        go_wp2_with fail
        go_quiet (fail)
        go_wp2_with fail
        go_round
        case rel =>
          have hlen : (d :: c).length = c.length + 1 := rfl
          exact ⟨d, n + 1, c, by go_num, by go_num, L2, R, by omega, hd2, P.out.below (bdrew _ _ _), ⟨d0, d1, d2⟩, Bl.out.trans (bdrew _ _ _)⟩
        case measure => have hlen : (d :: c).length = c.length + 1 := rfl; simp [intOf]; omega
end Go.Proofs.YtpmmploedkbeoaaGreatDoor

/- The walk of moveOut. -/
namespace Go.Proofs.YtpmmploedkbeoaaGreatDoor
open Go.RowKit

/-- A region that draws its order: first what only reads, then the rest in its order; the world with one more draw. -/
theorem wp_tail {P : Program} {id : Nat} {Q : Exit → Act → World → Prop} {a : Act} {w : World} {l : List Oper} (n : Nat) (hm : P.follows .mixedOrders = true) (hB : Region.lexTailB .any l.toArray n = true)
    (h : wpStill P l.toArray w.drew (fun a' => wpList P l.toArray Q (l.drop n) a' w.drew) (l.take n) a) : (Code.region id l.toArray true).wp P Q a w :=
  wp_region_still_tail n hm hB h

/-- The program's part, its row written out. -/
structure Pq (w : World) (b a z : Nat) (F : Nat → Nat → Value) (f : Nat) : Prop where
  all : w.cell? ⟨b, 0, none⟩ = some (.slice (some ⟨a, 0, none⟩) z z)
  fre : w.cell? ⟨b, 1, none⟩ = some (.int .i64 (f : Nat))
  row : Rc w a z F
  fb : ∀ j, w.frozen? ⟨b, j, none⟩ = false
  fa : ∀ j, w.frozen? ⟨a, j, none⟩ = false
  ne : b ≠ a
  ltb : b < w.heap.size
  lta : a < w.heap.size
theorem Pt.q {w : World} {b a z : Nat} {g : G} (h : Pt w b a z g) : Pq w b a z (nf (pl z) g) g.f := ⟨h.all, h.fre, h.row, h.fb, h.fa, h.ne, h.ltb, h.lta⟩
theorem Pq.pt {w : World} {b a z f : Nat} {F : Nat → Nat → Value} {g : G} (h : Pq w b a z F f) (he : ∀ i, i < z → ∀ j, j < 7 → F i j = nf (pl z) g i j) (hf : f = g.f) : Pt w b a z g := ⟨h.all, hf ▸ h.fre, h.row.congr he, h.fb, h.fa, h.ne, h.ltb, h.lta⟩
theorem Pq.set {w : World} {b a z f : Nat} {F : Nat → Nat → Value} (h : Pq w b a z F f) {i0 j0 : Nat} (hi : i0 < z) (hj : j0 < 7) (v : Value) :
    Pq (w.setCell ⟨a, i0 * 7 + j0, none⟩ v) b a z (fun i j => if i = i0 ∧ j = j0 then v else F i j) f :=
  ⟨by rw [World.cell?_setCell_other _ _ _ _ (fun q => h.ne (by injection q with q1 _; exact q1.symm))]; exact h.all, by rw [World.cell?_setCell_other _ _ _ _ (fun q => h.ne (by injection q with q1 _; exact q1.symm))]; exact h.fre, h.row.set hi hj v,
   fun j => by simpa using h.fb j, fun j => by simpa using h.fa j, h.ne, by simpa [World.setCell] using h.ltb, by simpa [World.setCell] using h.lta⟩
theorem Pq.below {w w' : World} {b a z f : Nat} {F : Nat → Nat → Value} (h : Pq w b a z F f) (k : Below w.heap.size w w') : Pq w' b a z F f :=
  ⟨by rw [k.cell (by exact h.ltb)]; exact h.all, by rw [k.cell (by exact h.ltb)]; exact h.fre, h.row.block (k.block a h.lta), fun j => by rw [k.frozen (by exact h.ltb)]; exact h.fb j, fun j => by rw [k.frozen (by exact h.lta)]; exact h.fa j, h.ne, Nat.lt_of_lt_of_le h.ltb k.size, Nat.lt_of_lt_of_le h.lta k.size⟩

/-- A whole node is stored. -/
abbrev set7 (w : World) (a i : Nat) (k x : V) (l : Int) : World :=
  ((((((w.setCell ⟨a, i * 7, none⟩ (.int .i64 k.1)).setCell ⟨a, i * 7 + 1, none⟩ (.int .i64 k.2.1)).setCell ⟨a, i * 7 + 2, none⟩ (.string k.2.2)).setCell ⟨a, i * 7 + 3, none⟩ (.int .i64 x.1)).setCell ⟨a, i * 7 + 4, none⟩ (.int .i64 x.2.1)).setCell ⟨a, i * 7 + 5, none⟩ (.string x.2.2)).setCell ⟨a, i * 7 + 6, none⟩ (.int .i64 l)
theorem lt7 {j : Nat} (h : j < 7) : j = 0 ∨ j = 1 ∨ j = 2 ∨ j = 3 ∨ j = 4 ∨ j = 5 ∨ j = 6 := by omega
theorem Pq.congr {w : World} {b a z f : Nat} {F F' : Nat → Nat → Value} (h : Pq w b a z F f) (he : ∀ i, i < z → ∀ j, j < 7 → F i j = F' i j) : Pq w b a z F' f := ⟨h.all, h.fre, h.row.congr he, h.fb, h.fa, h.ne, h.ltb, h.lta⟩
theorem Pq.set7 {w : World} {b a z f : Nat} {F : Nat → Nat → Value} (h : Pq w b a z F f) {i0 : Nat} (hi : i0 < z) (k x : V) (l : Int) :
    Pq (Proofs.YtpmmploedkbeoaaGreatDoor.set7 w a i0 k x l) b a z (fun i j => if i = i0 then nc k x l j else F i j) f := by
  refine (((((((h.set hi (j0 := 0) (by omega) (.int .i64 k.1)).set hi (j0 := 1) (by omega) (.int .i64 k.2.1)).set hi (j0 := 2) (by omega) (.string k.2.2)).set hi (j0 := 3) (by omega) (.int .i64 x.1)).set hi (j0 := 4) (by omega) (.int .i64 x.2.1)).set hi (j0 := 5) (by omega) (.string x.2.2)).set hi (j0 := 6) (by omega) (.int .i64 l)).congr ?_
  intro i _ j hj
  by_cases e : i = i0
  · rcases lt7 hj with rfl | rfl | rfl | rfl | rfl | rfl | rfl <;> simp [e, nc]
  · simp [e]
theorem Keep.set7 {No : Nat → Prop} {w w1 : World} (h : Keep No w w1) {a i : Nat} (k x : V) (l : Int) (ha : ¬ No a) : Keep No w (Proofs.YtpmmploedkbeoaaGreatDoor.set7 w1 a i k x l) :=
  ((((((h.set (p := ⟨a, _, none⟩) ha _).set (p := ⟨a, _, none⟩) ha _).set (p := ⟨a, _, none⟩) ha _).set (p := ⟨a, _, none⟩) ha _).set (p := ⟨a, _, none⟩) ha _).set (p := ⟨a, _, none⟩) ha _).set (p := ⟨a, _, none⟩) ha _
theorem bdrew1 (w : World) : Below w.heap.size w w.drew := ⟨rfl, rfl, rfl, Nat.le_refl _, fun _ _ => rfl⟩

set_option maxRecDepth 20000 in
set_option maxHeartbeats 2000000 in
theorem beyond_q {b a z fr : Nat} {F : Nat → Nat → Value} (m f : Nat) (q : Int) (w : World) (h : Pq w b a z F fr) (hF : F m 6 = .int .i64 q) (hm : m < z) (hf : f < z) (hz : z ≤ 65536) (hl : -65536 ≤ q ∧ q ≤ 65536) :
    Calls Tryz.prog 221 #[pp b, .int .i64 (m : Nat), .int .i64 (f : Nat)] w fun e w' => e = .returned (.int .i64 (bey q m f)) ∧ w' = w := by
  have c1 := h.all
  have c2 := h.row.c m hm 6 (by omega)
  rw [hF] at c2
  clear h hF
  unfold pp
  by_cases e : q = 0
  · subst e
    have eb : bey 0 m f = 0 := rfl
    rw [eb]
    go_enter Tryz.func221, Tryz.ntmps221
    go_wp2
    go_ret; exact ⟨rfl, rfl⟩
  · have eb : bey q m f = m + q - f := by rw [bey, if_neg e]
    rw [eb]
    go_enter Tryz.func221, Tryz.ntmps221
    go_wp2
    go_ret; exact ⟨ret1 (by first | rfl | omega), rfl⟩

theorem Inv.link_bound {z : Nat} {pl : V → Nat} {ok : V → Prop} {g : G} (h : Inv z pl ok g) (hpl : ∀ k, ok k → pl k < z) {m : Nat} (hm : m < z) (hz : z ≤ 65536) : -65536 ≤ link pl g m ∧ link pl g m ≤ 65536 := by
  by_cases e : g.K m = nil
  · rw [link_no e]; omega
  · obtain ⟨p, q, hc, hp⟩ := mem_split (h.inC m hm e)
    rw [link_of rfl e, hc, nxt_split hp]
    cases q with
    | nil => simp [nx]
    | cons b q =>
      have := (h.cok _ (hpl _ ((h.key m hm).resolve_left e)) b (by rw [hc]; simp)).1
      show -65536 ≤ (b : Int) - m ∧ (b : Int) - m ≤ 65536
      omega

theorem split_uniq {m : Nat} {x x' y y' : List Nat} (h : x ++ m :: y = x' ++ m :: y') (hx : m ∉ x) (hx' : m ∉ x') : x = x' ∧ y = y' := by
  induction x generalizing x' with
  | nil => cases x' with
    | nil => simp at h; exact ⟨rfl, h⟩
    | cons c x' => simp at h hx'; exact absurd h.1 hx'.1
  | cons c x ih => cases x' with
    | nil => simp at h hx; exact absurd h.1.symm hx.1
    | cons d x' =>
      simp only [List.cons_append, List.cons.injEq, List.mem_cons, not_or] at h hx hx'
      obtain ⟨e1, e2⟩ := ih h.2 hx.2 hx'.2
      exact ⟨by rw [h.1, e1], e2⟩
theorem pred_uniq {m b b' : Nat} {x x' y y' : List Nat} (hn : (x ++ b :: m :: y).Nodup) (h : x ++ b :: m :: y = x' ++ b' :: m :: y') : b = b' := by
  have hn2 := hn
  rw [h] at hn2
  rw [show x ++ b :: m :: y = (x ++ [b]) ++ m :: y by simp, List.nodup_append] at hn
  rw [show x' ++ b' :: m :: y' = (x' ++ [b']) ++ m :: y' by simp, List.nodup_append] at hn2
  have := (split_uniq (m := m) (x := x ++ [b]) (x' := x' ++ [b']) (y := y) (y' := y') (by simpa using h) (fun q => hn.2.2 m q m (by simp) rfl) (fun q => hn2.2.2 m q m (by simp) rfl)).1
  have := congrArg List.getLast? this
  simpa using this

set_option maxRecDepth 20000 in
set_option maxHeartbeats 2000000 in
theorem moveOut_any {b a z fr : Nat} {g : G} (m f bb : Nat) (p q : List Nat) (w : World) (h : Pt w b a z { g with f := fr }) (hi : Inv z (pl z) KOK g) (hz : pw z = true) (hm : m < z) (hf : f < z) (hne : g.K m ≠ nil) (hO : pl z (g.K m) ≠ m) (hfe : g.K f = nil)
    (hC : g.C (pl z (g.K m)) = p ++ bb :: m :: q) :
    Calls Tryz.prog 220 #[pp b, .int .i64 (pl z (g.K m) : Nat), .int .i64 (m : Nat), .int .i64 (f : Nat)] w fun e w' => e = .returned (.tuple #[]) ∧
      Pq w' b a z (fun i j => if i = f then nc (g.K m) (g.X m) (bey (link (pl z) g m) m f) j else if i = bb then nc (g.K bb) (g.X bb) ((f : Int) - bb) j else nf (pl z) g i j) fr ∧ Keep (fun x => x ≠ a) w w' := by
  have HP : Hid _ := h
  have HQ : Hid (Pq w b a z (nf (pl z) g) fr) := h.q
  have HI : Hid _ := hi
  have hzb := (pw_bounds z hz).2
  have ho : pl z (g.K m) < z := pl_lt hz _
  obtain ⟨t, ht⟩ : ∃ t, g.C (pl z (g.K m)) = pl z (g.K m) :: t := by
    rcases hi.hd _ ho with e | e
    · rw [e] at hC; simp at hC
    · exact e
  have HC : Hid _ := hC
  have HT : Hid _ := ht
  obtain ⟨o, hoo⟩ : ∃ o, pl z (g.K m) = o := ⟨_, rfl⟩
  rw [hoo] at HC HT ho hO ⊢
  have HO : Hid (pl z (g.K m) = o) := hoo
  have hnd := hi.nd o ho
  rw [HC.out, List.nodup_append] at hnd
  have hmp : Hid (m ∉ p ∧ m ≠ bb) := ⟨fun x => hnd.2.2 m x m (by simp) rfl, fun e => by have h0 := hnd.2.1; rw [e] at h0; simp at h0⟩
  clear hnd
  have HLB : Hid _ := fun m hm => hi.link_bound (fun k _ => pl_lt hz k) (m := m) hm (by omega)
  have hbb : bb < z := (hi.cok o ho bb (by rw [HC.out]; simp)).1
  have HNE : Hid _ := hne
  have HFE : Hid _ := hfe
  clear h hi hC ht hoo hz hne hfe
  unfold pp
  go_enter Tryz.func220, Tryz.ntmps220
  go_wp2_with fail
  go_loop [8] (fun i => ∃ (j : Nat) (p1 p2 : List Nat), i = .int .i64 (j : Nat) ∧ Hid (g.C o = p1 ++ j :: p2) ∧ Hid (m ∈ p2) ∧ j < z ∧ Hid (p2.length ≤ z)) (fun i => (from_ (intOf i).toNat (g.C o)).length)
  case atStart =>
    refine ⟨o, [], t, rfl, HT.out, ?_, ho, ?_⟩
    · have h0 : m ∈ g.C o := by rw [HC.out]; simp
      rw [HT.out] at h0
      rcases List.mem_cons.1 h0 with e | e
      · exact absurd e.symm hO
      · exact e
    · have h0 := nodup_len (HI.out.nd o ho) (fun x hx => (HI.out.cok o ho x hx).1)
      rw [HT.out] at h0
      exact Nat.le_of_succ_le h0
  case round =>
    obtain ⟨j, p1, p2, rfl, D, M, hj, hp2⟩ := hrel
    have c1 := HP.out.all
    have c6 : w.cell? ⟨a, j * 7 + 6, none⟩ = some (.int .i64 (link (pl z) g j)) := HP.out.l hj
    have hjp : Hid (j ∉ p1) := by
      have h0 := HI.out.nd o ho
      rw [D.out, List.nodup_append] at h0
      exact fun x => h0.2.2 j x j (by simp) rfl
    have hj' : (j : Int) < (z : Int) := by omega
    cases p2 with
    | nil => cases M.out
    | cons d p2 =>
      have hl : link (pl z) g j = (d : Int) - j := HI.out.lk_link (i := j) (c := d :: p2) (.inl ⟨o, p1, ho, D.out⟩)
      rw [hl] at c6
      have hd := (HI.out.cok o ho d (by rw [D.out]; simp)).1
      by_cases e : d = m
      · subst e
        have hjb : bb = j := pred_uniq (x := p) (y := q) (by rw [← HC.out]; exact HI.out.nd o ho) (by rw [← HC.out, D.out])
        subst hjb
        clear hl M hp2
        have hbf : Hid (bb ≠ f) := fun x => (HI.out.cok o ho bb (by rw [HC.out]; simp)).2.1 (x ▸ HFE.out)
        have hdf : Hid (d ≠ f) := fun x => HNE.out (x ▸ HFE.out)
        have P2 := HQ.out.set hj (j0 := 6) (by omega) (.int .i64 ((f : Int) - bb))
        have fa := HP.out.fa (bb * 7 + 6)
        obtain ⟨W2, hW2⟩ : ∃ W2, w.setCell ⟨a, bb * 7 + 6, none⟩ (.int .i64 ((f : Int) - bb)) = W2 := ⟨_, rfl⟩
        rw [hW2] at P2
        have K2 : Keep (fun x => x ≠ a) w W2 := by rw [← hW2]; exact (Keep.refl _ _).set (by simp) _
        have e1 : W2.cell? ⟨b, 0, none⟩ = some (.slice (some ⟨a, 0, none⟩) z z) := P2.all
        have C := beyond_q d f (link (pl z) g d) W2.drew (P2.below (bdrew1 _)) (by rw [if_neg (fun x => hmp.out.2 x.1)]; rfl) hd hf (by omega) (HLB.out d hd)
        have m0 : W2.cell? ⟨a, d * 7, none⟩ = some (.int .i64 (g.K d).1) := by have h0 := P2.row.c d hd 0 (by omega); rw [if_neg (fun x => hmp.out.2 x.1)] at h0; exact h0
        have m1 : W2.cell? ⟨a, d * 7 + 1, none⟩ = some (.int .i64 (g.K d).2.1) := by have h0 := P2.row.c d hd 1 (by omega); rw [if_neg (fun x => hmp.out.2 x.1)] at h0; exact h0
        have m2 : W2.cell? ⟨a, d * 7 + 2, none⟩ = some (.string (g.K d).2.2) := by have h0 := P2.row.c d hd 2 (by omega); rw [if_neg (fun x => hmp.out.2 x.1)] at h0; exact h0
        have m3 : W2.cell? ⟨a, d * 7 + 3, none⟩ = some (.int .i64 (g.X d).1) := by have h0 := P2.row.c d hd 3 (by omega); rw [if_neg (fun x => hmp.out.2 x.1)] at h0; exact h0
        have m4 : W2.cell? ⟨a, d * 7 + 4, none⟩ = some (.int .i64 (g.X d).2.1) := by have h0 := P2.row.c d hd 4 (by omega); rw [if_neg (fun x => hmp.out.2 x.1)] at h0; exact h0
        have m5 : W2.cell? ⟨a, d * 7 + 5, none⟩ = some (.string (g.X d).2.2) := by have h0 := P2.row.c d hd 5 (by omega); rw [if_neg (fun x => hmp.out.2 x.1)] at h0; exact h0
        have n0 := P2.row.c f hf 0 (by omega)
        have n1 := P2.row.c f hf 1 (by omega)
        have n2 := P2.row.c f hf 2 (by omega)
        have n3 := P2.row.c f hf 3 (by omega)
        have n4 := P2.row.c f hf 4 (by omega)
        have n5 := P2.row.c f hf 5 (by omega)
        have n6 := P2.row.c f hf 6 (by omega)
        rw [if_neg (fun x => hbf.out x.1.symm)] at n0 n1 n2 n3 n4 n5 n6
        simp only [Nat.add_zero] at n0
        have fz := P2.fa
        obtain ⟨W3, hW3⟩ : ∃ W3, Proofs.YtpmmploedkbeoaaGreatDoor.set7 W2 a f (g.K d) (g.X d) (bey (link (pl z) g d) d f) = W3 := ⟨_, rfl⟩
        have P3 : Hid _ := P2.set7 hf (g.K d) (g.X d) (bey (link (pl z) g d) d f)
        have K3 : Hid _ := K2.set7 (a := a) (i := f) (g.K d) (g.X d) (bey (link (pl z) g d) d f) (fun x => x rfl)
        rw [hW3] at P3 K3
        unfold Proofs.YtpmmploedkbeoaaGreatDoor.set7 at hW3
        unfold pp at C
        clear P2 K2
        obtain ⟨l6, hl6⟩ : ∃ l6, bey (link (pl z) g d) d f = l6 := ⟨_, rfl⟩
        have HL6 : Hid (bey (link (pl z) g d) d f = l6) := hl6
        rw [hl6] at C hW3 P3
        clear hl6
        generalize nf (pl z) g f 0 = y0 at *
        generalize nf (pl z) g f 1 = y1 at *
        generalize nf (pl z) g f 2 = y2 at *
        generalize nf (pl z) g f 3 = y3 at *
        generalize nf (pl z) g f 4 = y4 at *
        generalize nf (pl z) g f 5 = y5 at *
        generalize nf (pl z) g f 6 = y6 at *
        have hdz : (d : Int) < (z : Int) := by omega
        have hfz : (f : Int) < (z : Int) := by omega
        go_wp2_with fail
        refine wp_tail 27 (by kernel_rfl) (by kernel_rfl) ?_
        simp only [List.take_succ_cons, List.take_zero, List.drop_succ_cons, List.drop_zero]
        repeat (first | still_step | still_call C)
        refine wpStill_nil ?_
        go_wp2_with fail
        go_end0
        refine ⟨rfl, (P3.out.below (bdrew1 _)).congr ?_, K3.out.bel (bdrew1 _)⟩
        intro i hi j hj7
        by_cases e2 : i = f
        · rw [if_pos e2, if_pos e2, HL6.out]
        · rw [if_neg e2, if_neg e2]
          by_cases e3 : i = bb
          · subst e3
            rw [if_pos rfl]
            rcases lt7 hj7 with rfl | rfl | rfl | rfl | rfl | rfl | rfl <;> simp [nf, nc]
          · rw [if_neg e3, if_neg (fun x => e3 x.1)]
      · have hne : ¬ ((d : Int) = (m : Int)) := by omega
        have hmd : Hid (m ∈ p2) := by
          rcases List.mem_cons.1 M.out with x | x
          · exact absurd x.symm e
          · exact x
        have D2 : Hid (g.C o = (p1 ++ [j]) ++ d :: p2) := by show _ = _; rw [D.out]; simp
        have L1 : Hid (from_ j (g.C o) = j :: d :: p2) := by show _ = _; rw [D.out, from_split hjp.out]
        have L2 : Hid (from_ d (g.C o) = d :: p2) := by
          show _ = _
          rw [D2.out, from_split]
          have h0 := HI.out.nd o ho
          rw [D2.out, List.nodup_append] at h0
          exact fun x => h0.2.2 d x d (by simp) rfl
        clear hl M e
        go_wp2_with fail
        go_round
        case rel => exact ⟨d, p1 ++ [j], p2, by go_num, D2, hmd, hd, Nat.le_of_succ_le hp2.out⟩
        case measure =>
          have e1 : ((j : Int) + ((d : Int) - j)) = (d : Int) := by omega
          simp only [intOf, e1, Int.toNat_natCast]
          rw [L1.out, L2.out]
          simp
end Go.Proofs.YtpmmploedkbeoaaGreatDoor
