/- The walk of insert. -/
import Derived.Test.YtpmmploedkbeoaaGreatDoorCg02
namespace Go.Proofs.YtpmmploedkbeoaaGreatDoor
open Go.RowKit

/-- A value that lies in a block of its own. -/
structure Bx (W : World) (B : Nat) (v : V) : Prop where
  c0 : W.cell? ⟨B, 0, none⟩ = some (.int .i64 v.1)
  c1 : W.cell? ⟨B, 1, none⟩ = some (.int .i64 v.2.1)
  c2 : W.cell? ⟨B, 2, none⟩ = some (.string v.2.2)
  lt : B < W.heap.size
theorem Bx.kept {No : Nat → Prop} {W W' : World} {B : Nat} {v : V} (h : Bx W B v) (k : Keep No W W') (hB : No B) : Bx W' B v :=
  ⟨by rw [World.cell?_of_block (w := W) (k.block B h.lt hB)]; exact h.c0, by rw [World.cell?_of_block (w := W) (k.block B h.lt hB)]; exact h.c1, by rw [World.cell?_of_block (w := W) (k.block B h.lt hB)]; exact h.c2, Nat.lt_of_lt_of_le h.lt k.size⟩
theorem Bx.below {W W' : World} {B : Nat} {v : V} (h : Bx W B v) (k : Below W.heap.size W W') : Bx W' B v := h.kept (No := fun _ => True) (Keep.of k) trivial
theorem Bx.made (W : World) (v : V) : Bx (W.alloc (vb v.1 v.2.1 v.2.2)) W.heap.size v := ⟨by simp [go_sem], by simp [go_sem], by simp [go_sem], by simp⟩
theorem Inv.kind {z : Nat} {pl : V → Nat} {g : G} (h : Inv z pl KOK g) {i : Nat} (hi : i < z) : (g.K i).1 = 0 ↔ g.K i = nil := by
  constructor
  · intro e
    rcases h.key i hi with q | q
    · exact q
    · exact absurd e q.2.1
  · intro e; rw [e]; rfl
theorem Pt.n {w : World} {b a z : Nat} {g : G} (h : Pt w b a z g) {i : Nat} (hi : i < z) : ∃ y0 y1 y2 y3 y4 y5 y6, w.cell? ⟨a, i * 7, none⟩ = some y0 ∧ w.cell? ⟨a, i * 7 + 1, none⟩ = some y1 ∧ w.cell? ⟨a, i * 7 + 2, none⟩ = some y2 ∧ w.cell? ⟨a, i * 7 + 3, none⟩ = some y3 ∧ w.cell? ⟨a, i * 7 + 4, none⟩ = some y4 ∧ w.cell? ⟨a, i * 7 + 5, none⟩ = some y5 ∧ w.cell? ⟨a, i * 7 + 6, none⟩ = some y6 :=
  ⟨_, _, _, _, _, _, _, h.row.c i hi 0 (by omega), h.row.c i hi 1 (by omega), h.row.c i hi 2 (by omega), h.row.c i hi 3 (by omega), h.row.c i hi 4 (by omega), h.row.c i hi 5 (by omega), h.row.c i hi 6 (by omega)⟩
theorem Pq.n {w : World} {b a z f : Nat} {F : Nat → Nat → Value} (h : Pq w b a z F f) {i : Nat} (hi : i < z) : ∃ y0 y1 y2 y3 y4 y5 y6, w.cell? ⟨a, i * 7, none⟩ = some y0 ∧ w.cell? ⟨a, i * 7 + 1, none⟩ = some y1 ∧ w.cell? ⟨a, i * 7 + 2, none⟩ = some y2 ∧ w.cell? ⟨a, i * 7 + 3, none⟩ = some y3 ∧ w.cell? ⟨a, i * 7 + 4, none⟩ = some y4 ∧ w.cell? ⟨a, i * 7 + 5, none⟩ = some y5 ∧ w.cell? ⟨a, i * 7 + 6, none⟩ = some y6 :=
  ⟨_, _, _, _, _, _, _, h.row.c i hi 0 (by omega), h.row.c i hi 1 (by omega), h.row.c i hi 2 (by omega), h.row.c i hi 3 (by omega), h.row.c i hi 4 (by omega), h.row.c i hi 5 (by omega), h.row.c i hi 6 (by omega)⟩

/-- The row behind each step is the part's behind it. -/
theorem Inv.nf_ins0 {z : Nat} {pl : V → Nat} {g : G} (h : Inv z pl KOK g) {k : V} (v : V) (hkn : k ≠ nil) (hm : pl k < z) (he : g.K (pl k) = nil) : ∀ i, i < z → ∀ j, j < 7 → (if i = pl k then nc k v 0 j else nf pl g i j) = nf pl (Proofs.YtpmmploedkbeoaaGreatDoor.ins0 g (pl k) k v) i j := by
  intro i hi j hj
  have hl := h.link_ins0 v hkn hm he hi
  unfold nf
  rw [hl]
  by_cases e : i = pl k
  · rw [if_pos e, if_pos e]; simp [Proofs.YtpmmploedkbeoaaGreatDoor.ins0, upd, e]
  · rw [if_neg e, if_neg e]; simp [Proofs.YtpmmploedkbeoaaGreatDoor.ins0, upd, e]
theorem Inv.nf_ins1 {z : Nat} {pl : V → Nat} {g : G} (h : Inv z pl KOK g) {k : V} {a : Nat} (v : V) (hkn : k ≠ nil) (hm : pl k < z) (hne : g.K (pl k) ≠ nil) (hO : pl (g.K (pl k)) = pl k) (ht : tf g.K g.f = some a) :
    ∀ i, i < z → ∀ j, j < 7 → (if i = pl k ∧ j = 6 then Value.int .i64 ((a : Int) - (pl k : Nat)) else if i = a then nc k v (bey (link pl g (pl k)) (pl k) a) j else nf pl g i j) = nf pl (Proofs.YtpmmploedkbeoaaGreatDoor.ins1 g (pl k) a k v) i j := by
  intro i hi j hj
  have ham : a ≠ pl k := fun x => hne (x ▸ (tf_some ht).2.1)
  have hl := h.link_ins1 v hkn hm hne hO ht (i := i)
  unfold nf
  rw [hl]
  by_cases e : i = a
  · rw [if_pos e, if_pos e, if_neg (fun x => ham (e ▸ x.1))]; simp [Proofs.YtpmmploedkbeoaaGreatDoor.ins1, upd, e]
  · rw [if_neg e, if_neg e]
    by_cases e2 : i = pl k
    · rw [if_pos e2]
      have hK : (Proofs.YtpmmploedkbeoaaGreatDoor.ins1 g (pl k) a k v).K i = g.K i := by simp [Proofs.YtpmmploedkbeoaaGreatDoor.ins1, upd, e]
      have hX : (Proofs.YtpmmploedkbeoaaGreatDoor.ins1 g (pl k) a k v).X i = g.X i := by simp [Proofs.YtpmmploedkbeoaaGreatDoor.ins1, upd, e]
      rw [hK, hX]
      rcases lt7 hj with rfl | rfl | rfl | rfl | rfl | rfl | rfl <;> simp [nc, e2]
    · rw [if_neg e2, if_neg (fun x => e2 x.1)]
      simp [Proofs.YtpmmploedkbeoaaGreatDoor.ins1, upd, e]
theorem Inv.nf_ins2 {z : Nat} {pl : V → Nat} {g : G} (h : Inv z pl KOK g) (hpl : ∀ k, KOK k → pl k < z) {k : V} {a b : Nat} {p q : List Nat} (v : V) (hkn : k ≠ nil) (hm : pl k < z) (hne : g.K (pl k) ≠ nil) (hO : pl (g.K (pl k)) ≠ pl k) (ht : tf g.K g.f = some a)
    (hC : g.C (pl (g.K (pl k))) = p ++ b :: pl k :: q) :
    ∀ i, i < z → ∀ j, j < 7 → (if i = pl k then nc k v 0 j else if i = a then nc (g.K (pl k)) (g.X (pl k)) (bey (link pl g (pl k)) (pl k) a) j else if i = b then nc (g.K b) (g.X b) ((a : Int) - b) j else nf pl g i j) = nf pl (Proofs.YtpmmploedkbeoaaGreatDoor.ins2 g (pl (g.K (pl k))) (pl k) a k v) i j := by
  intro i hi j hj
  have ham : a ≠ pl k := fun x => hne (x ▸ (tf_some ht).2.1)
  have hl := h.link_ins2 hpl v hkn hm hne hO ht hC hi
  unfold nf
  rw [hl]
  by_cases e : i = pl k
  · rw [if_pos e, if_pos e]; simp [Proofs.YtpmmploedkbeoaaGreatDoor.ins2, upd, e]
  · rw [if_neg e, if_neg e]
    by_cases e2 : i = a
    · rw [if_pos e2, if_pos e2]; simp [Proofs.YtpmmploedkbeoaaGreatDoor.ins2, upd, e2, ham]
    · rw [if_neg e2, if_neg e2]
      by_cases e3 : i = b
      · rw [if_pos e3, if_pos e3]; simp [Proofs.YtpmmploedkbeoaaGreatDoor.ins2, upd, e, e2, ← e3]
      · rw [if_neg e3, if_neg e3]; simp [Proofs.YtpmmploedkbeoaaGreatDoor.ins2, upd, e, e2]

def full (b : Bool) : Int := if b then 0 else 12

set_option maxRecDepth 20000 in
set_option maxHeartbeats 4000000 in
theorem insert_any {b a z : Nat} {g : G} (k v : V) (w : World) (h : Pt w b a z g) (hi : Inv z (pl z) KOK g) (hz : pw z = true) (hk : KOK k) :
    Calls Tryz.prog 145 #[pp b, vl k.1 k.2.1 k.2.2, vl v.1 v.2.1 v.2.2] w fun e w' => e = .returned (.int .i64 (full (ins (pl z) g k v).2)) ∧ Pt w' b a z (ins (pl z) g k v).1 ∧ Keep (fun x => x ≠ a ∧ x ≠ b) w w' := by
  have HP : Hid _ := h
  have HI : Hid _ := hi
  have HKO : Hid (KOK k) := hk
  have HZ : Hid _ := hz
  have CM := fun w => main_any k.1 k.2.1 k.2.2 z w hk.2.2.1 hk.2.2.2
  rw [(mnE_ok hk hz).1, (mnE_ok hk hz).2, ← pl_cast hz k] at CM
  have hzb := (pw_bounds z hz).2
  have hm0 := pl_lt hz k
  obtain ⟨m, hm⟩ : ∃ m, pl z k = m := ⟨_, rfl⟩
  have HM : Hid (pl z k = m) := hm
  rw [hm] at CM hm0
  clear hm
  obtain ⟨W0, hW0⟩ : ∃ W0, (w.alloc (vb k.1 k.2.1 k.2.2)).alloc (vb v.1 v.2.1 v.2.2) = W0 := ⟨_, rfl⟩
  have B0 : Below w.heap.size w W0 := by rw [← hW0]; exact b2 _ _ _
  have X1 : Bx W0 w.heap.size k := by rw [← hW0]; exact (Bx.made w k).below (b1 _ _)
  have X2 : Bx W0 (w.heap.size + 1) v := by rw [← hW0]; have h0 := Bx.made (w.alloc (vb k.1 k.2.1 k.2.2)) v; simpa using h0
  have P0 : Pt W0 b a z g := h.below B0
  obtain ⟨X, F, F1, F2⟩ := class_of W0
  have HB1 : Hid (b < w.heap.size ∧ a < w.heap.size) := ⟨h.ltb, h.lta⟩
  have HPF : Hid (∀ x, Pt (F x) b a z g) := fun x => P0.below (F1 x)
  have HX1 : Hid (∀ x, Bx (F x) w.heap.size k) := fun x => X1.below (F1 x)
  have HX2 : Hid (∀ x, Bx (F x) (w.heap.size + 1) v) := fun x => X2.below (F1 x)
  have HBF : Hid (∀ x, Below w.heap.size w (F x)) := fun x => bthen B0 B0.size (F1 x)
  have hS : ∀ x, Calls Tryz.prog 111 #[pp b] (F x) fun e w'' => e = .returned (.int .i64 (z : Nat)) ∧ ∃ y, w'' = F y := fun x =>
    (size_any (F x) (HPF.out x)).mono fun e w' ⟨he, hw⟩ => ⟨he, x, hw⟩
  have hM : ∀ x, Calls Tryz.prog 144 #[vl k.1 k.2.1 k.2.2, .int .i64 (z : Nat)] (F x) fun e w'' => e = .returned (.tuple #[.int .i64 (m : Nat), .int .i64 0]) ∧ ∃ y, w'' = F y := fun x =>
    (CM (F x)).mono fun e w' ⟨he, hw⟩ => ⟨he, F2 w' (hw ▸ bthen (F1 x) (F1 x).size (b2 _ _ _))⟩
  have HC : Hid (∃ x, W0.drew = F x) := F2 _ (Below.refl _ _).drew
  have e0 := fun x => (HX1.out x).c0
  have e1 := fun x => (HX1.out x).c1
  have e2 := fun x => (HX1.out x).c2
  clear CM h hi hk hz F1 F2 B0 X1 X2 P0
  unfold pp vl vb at *
  generalize hsz : w.heap.size = B at *
  have HSZ : Hid (w.heap.size = B) := hsz
  have hsz2 : (w.alloc (.cells #[.int .i64 k.1, .int .i64 k.2.1, .string k.2.2] 37)).heap.size = B + 1 := by rw [← hsz]; simp
  go_enter Tryz.func145, Tryz.ntmps145
  go_wp2_with fail
  haveI : Nonempty X := HC.out.elim fun x _ => ⟨x⟩
  refine wp_class (F := F) (by kernel_rfl) (by kernel_rfl) HC.out ?_
  repeat (go_big_quiet_step (first | exact hS _ | exact hM _))
  refine wpQuiet_nil ?_
  intro _ hw'
  obtain ⟨x, rfl⟩ := hw'
  have P1 : Hid (Pt (F x) b a z g) := HPF.out x
  have Y1 : Hid (Bx (F x) B k) := HX1.out x
  have Y2 : Hid (Bx (F x) (B + 1) v) := HX2.out x
  have B1 : Hid (Below B w (F x)) := HBF.out x
  generalize F x = W1 at *
  clear hS hM HC e0 e1 e2 HPF HX1 HX2 HBF hsz hsz2 hW0
  have CH := holds_any m W1 P1.out hm0
  unfold pp at CH
  have hmz : (m : Int) < (z : Int) := by omega
  by_cases hE : g.K m = nil
  · have hb : decide ((g.K m).1 ≠ 0) = false := by rw [hE]; rfl
    rw [hb] at CH
    have HR : Hid (ins (pl z) g k v = (ins0 g m k v, true)) := by show _ = _; rw [ins, HM.out, if_pos hE]
    have HN : Hid _ := HI.out.nf_ins0 v HKO.out.ne (by rw [HM.out]; exact hm0) (by rw [HM.out]; exact hE)
    rw [HM.out] at HN
    clear hb hE
    have c1 := P1.out.all
    have d0 := Y1.out.c0
    have d1 := Y1.out.c1
    have d2 := Y1.out.c2
    have v0 := Y2.out.c0
    have v1 := Y2.out.c1
    have v2 := Y2.out.c2
    obtain ⟨y0, y1, y2, y3, y4, y5, y6, n0, n1, n2, n3, n4, n5, n6⟩ := P1.out.n hm0
    have fz := P1.out.fa
    obtain ⟨W3, hW3⟩ : ∃ W3, Proofs.YtpmmploedkbeoaaGreatDoor.set7 W1 a m k v 0 = W3 := ⟨_, rfl⟩
    have P3 : Hid _ := P1.out.q.set7 hm0 k v 0
    have K3 : Hid _ := (Keep.of (No := fun x => x ≠ a ∧ x ≠ b) (HSZ.out ▸ B1.out)).set7 (a := a) (i := m) k v 0 (fun x => x.1 rfl)
    rw [hW3] at P3 K3
    unfold Proofs.YtpmmploedkbeoaaGreatDoor.set7 at hW3
    go_wp2_with (go_at_call 218; refine CH.mono ?_; rintro e W1 ⟨rfl, rfl⟩)
    refine wp_tail 9 (by kernel_rfl) (by kernel_rfl) ?_
    simp only [List.take_succ_cons, List.take_zero, List.drop_succ_cons, List.drop_zero]
    repeat still_step
    refine wpStill_nil ?_
    go_wp2_with fail
    go_ret
    rw [HR.out]
    exact ⟨rfl, (P3.out.below (bdrew1 _)).pt HN.out rfl, K3.out.bel (bdrew1 _)⟩
  · have hb : decide ((g.K m).1 ≠ 0) = true := decide_eq_true (fun q => hE ((HI.out.kind hm0).1 q))
    rw [hb] at CH
    clear hb
    have HE : Hid (g.K m ≠ nil) := hE
    clear hE
    have CT := takeFree_any W1 P1.out HI.out.fle (by omega) (fun i hi => HI.out.kind hi)
    unfold pp at CT
    cases hT : tf g.K g.f with
    | none =>
      rw [hT] at CT
      have HR : Hid (ins (pl z) g k v = ({ g with f := 0 }, false)) := by show _ = _; rw [ins, HM.out, if_neg HE.out, hT]
      clear hT
      simp only [fi] at CT
      go_wp2_with (first | (go_at_call 218; refine CH.mono ?_; rintro e W1 ⟨rfl, rfl⟩) | (go_at_call 219; refine CT.mono ?_; rintro e W2 ⟨rfl, P2, K2⟩))
      go_ret
      rw [HR.out]
      exact ⟨rfl, P2, (Keep.of (HSZ.out ▸ B1.out)).trans (K2.sub fun g hg => hg.2)⟩
    | some f =>
      rw [hT] at CT
      have HT : Hid (tf g.K g.f = some f) := hT
      clear hT
      simp only [fi] at CT
      obtain ⟨t1, t2, t3⟩ := tf_some HT.out
      have HT2 : Hid (g.K f = nil) := t2
      have hfz : f < z := Nat.lt_of_lt_of_le t1 HI.out.fle
      have hfz' : (f : Int) < (z : Int) := by omega
      have hf0 : ¬ ((f : Int) < 0) := by omega
      clear t1 t2 t3
      go_wp2_with (first | (go_at_call 218; refine CH.mono ?_; rintro e W1 ⟨rfl, rfl⟩) | (go_at_call 219; refine CT.mono ?_; rintro e W2 ⟨rfl, P2, K2⟩))
      have P2' : Hid (Pt W2 b a z { g with f := f }) := P2
      have hBb : B ≠ b ∧ B + 1 ≠ b ∧ B ≠ a ∧ B + 1 ≠ a := by have h0 := HB1.out; omega
      have HBb : Hid _ := hBb
      have Z1 : Hid (Bx W2 B k) := Y1.out.kept K2 hBb.1
      have Z2 : Hid (Bx W2 (B + 1) v) := Y2.out.kept K2 hBb.2.1
      have K2' : Hid (Keep (fun x => x ≠ a ∧ x ≠ b) w W2) := (Keep.of (HSZ.out ▸ B1.out)).trans (K2.sub fun g hg => hg.2)
      clear hBb P2 K2 CH CT P1 Y1 Y2 B1
      have hkm : KOK (g.K m) := (HI.out.key m hm0).resolve_left HE.out
      have CM2 := fun w => main_any (g.K m).1 (g.K m).2.1 (g.K m).2.2 z w hkm.2.2.1 hkm.2.2.2
      rw [(mnE_ok hkm HZ.out).1, (mnE_ok hkm HZ.out).2, ← pl_cast HZ.out (g.K m)] at CM2
      clear hkm
      obtain ⟨Y, H, F1, F2⟩ := class_of W2
      have HPF : Hid (∀ x, Pt (H x) b a z { g with f := f }) := fun x => P2'.out.below (F1 x)
      have HX1 : Hid (∀ x, Bx (H x) B k) := fun x => Z1.out.below (F1 x)
      have HX2 : Hid (∀ x, Bx (H x) (B + 1) v) := fun x => Z2.out.below (F1 x)
      have HKF : Hid (∀ x, Keep (fun x => x ≠ a ∧ x ≠ b) w (H x)) := fun x => K2'.out.bel (F1 x)
      have hS : ∀ x, Calls Tryz.prog 111 #[pp b] (H x) fun e w'' => e = .returned (.int .i64 (z : Nat)) ∧ ∃ y, w'' = H y := fun x =>
        (size_any (H x) (HPF.out x)).mono fun e w' ⟨he, hw⟩ => ⟨he, x, hw⟩
      obtain ⟨o, ho⟩ : ∃ o, pl z (g.K m) = o := ⟨_, rfl⟩
      have HO : Hid (pl z (g.K m) = o) := ho
      rw [ho] at CM2
      clear ho
      have hM : ∀ x, Calls Tryz.prog 144 #[vl (g.K m).1 (g.K m).2.1 (g.K m).2.2, .int .i64 (z : Nat)] (H x) fun e w'' => e = .returned (.tuple #[.int .i64 (o : Nat), .int .i64 0]) ∧ ∃ y, w'' = H y := fun x =>
        (CM2 (H x)).mono fun e w' ⟨he, hw⟩ => ⟨he, F2 w' (hw ▸ bthen (F1 x) (F1 x).size (b2 _ _ _))⟩
      have HC : Hid (∃ x, W2.drew = H x) := F2 _ (Below.refl _ _).drew
      have q0 := fun x => (HPF.out x).all
      have q1 := fun x => ((HPF.out x).k hm0).1
      have q2 := fun x => ((HPF.out x).k hm0).2.1
      have q3 := fun x => ((HPF.out x).k hm0).2.2
      simp only at q1 q2 q3
      clear CM2 F1 F2
      unfold pp vl at *
      haveI : Nonempty Y := HC.out.elim fun x _ => ⟨x⟩
      refine wp_class (F := H) (by kernel_rfl) (by kernel_rfl) HC.out ?_
      repeat (go_big_quiet_step (first | exact hS _ | exact hM _))
      refine wpQuiet_nil ?_
      intro _ hw'
      obtain ⟨y, rfl⟩ := hw'
      have P3 : Hid (Pt (H y) b a z { g with f := f }) := HPF.out y
      have U1 : Hid (Bx (H y) B k) := HX1.out y
      have U2 : Hid (Bx (H y) (B + 1) v) := HX2.out y
      have K3 : Hid (Keep (fun x => x ≠ a ∧ x ≠ b) w (H y)) := HKF.out y
      generalize H y = W3 at *
      clear hS hM HC q0 q1 q2 q3 HPF HX1 HX2 HKF K2' Z1 Z2 P2'
      by_cases hOm : o = m
      · have HR : Hid (ins (pl z) g k v = (ins1 g m f k v, true)) := by
          show _ = _
          rw [ins, HM.out, if_neg HE.out, HT.out]
          simp only
          rw [HO.out, if_pos hOm]
        have HN : Hid _ := HI.out.nf_ins1 v HKO.out.ne (by rw [HM.out]; exact hm0) (by rw [HM.out]; exact HE.out) (by rw [HM.out, HO.out]; exact hOm) HT.out
        rw [HM.out] at HN
        subst hOm
        have CB := beyond_any o f W3.drew (P3.out.below (bdrew1 _)) hm0 hfz (by omega) (HI.out.link_bound (fun k _ => pl_lt HZ.out k) hm0 (by omega))
        unfold pp at CB
        have hfm : Hid (o ≠ f) := fun x => HE.out (x ▸ HT2.out)
        have c1 := P3.out.all
        have d0 := U1.out.c0
        have d1 := U1.out.c1
        have d2 := U1.out.c2
        have v0 := U2.out.c0
        have v1 := U2.out.c1
        have v2 := U2.out.c2
        obtain ⟨y0, y1, y2, y3, y4, y5, y6, n0, n1, n2, n3, n4, n5, n6⟩ := P3.out.n hfz
        have fz := P3.out.fa
        obtain ⟨l6, hl6⟩ : ∃ l6, bey (link (pl z) { g with f := f } o) o f = l6 := ⟨_, rfl⟩
        have HL6 : Hid (bey (link (pl z) g o) o f = l6) := hl6
        rw [hl6] at CB
        clear hl6
        obtain ⟨W4, hW4⟩ : ∃ W4, Proofs.YtpmmploedkbeoaaGreatDoor.set7 W3 a f k v l6 = W4 := ⟨_, rfl⟩
        have P4 : Hid _ := P3.out.q.set7 hfz k v l6
        have K4 : Hid _ := K3.out.set7 (a := a) (i := f) k v l6 (fun x => x.1 rfl)
        rw [hW4] at P4 K4
        unfold Proofs.YtpmmploedkbeoaaGreatDoor.set7 at hW4
        go_wp2_with fail
        refine wp_tail 13 (by kernel_rfl) (by kernel_rfl) ?_
        simp only [List.take_succ_cons, List.take_zero, List.drop_succ_cons, List.drop_zero]
        repeat (first | still_step | still_call CB)
        refine wpStill_nil ?_
        have r0 : W4.cell? ⟨b, 0, none⟩ = some (.slice (some ⟨a, 0, none⟩) z z) := P4.out.all
        have r6 := P4.out.row.c o hm0 6 (by omega)
        have rf := P4.out.fa
        have P5 : Hid _ := P4.out.set hm0 (j0 := 6) (by omega) (.int .i64 ((f : Int) - o))
        have K5 : Hid _ := K4.out.set (p := ⟨a, o * 7 + 6, none⟩) (fun x => x.1 rfl) (.int .i64 ((f : Int) - o))
        go_wp2_with fail
        go_ret
        rw [HR.out]
        refine ⟨rfl, (P5.out.below (bdrew1 _)).pt (fun i hi j hj => ?_) rfl, K5.out.bel (bdrew1 _)⟩
        rw [← HN.out i hi j hj, HL6.out]
        rfl
      · have HR : Hid (ins (pl z) g k v = (ins2 g o m f k v, true)) := by
          show _ = _
          rw [ins, HM.out, if_neg HE.out, HT.out]
          simp only
          rw [HO.out, if_neg hOm]
        obtain ⟨p, bb, q, hC⟩ := HI.out.before (fun k _ => pl_lt HZ.out k) hm0 HE.out (by rw [HO.out]; exact hOm)
        have HN : Hid _ := HI.out.nf_ins2 (fun k _ => pl_lt HZ.out k) v HKO.out.ne (by rw [HM.out]; exact hm0) (by rw [HM.out]; exact HE.out) (by rw [HM.out, HO.out]; exact hOm) HT.out (by rw [HM.out]; exact hC)
        rw [HM.out, HO.out] at HN
        have CO := moveOut_any m f bb p q W3 P3.out HI.out HZ.out hm0 hfz HE.out (by rw [HO.out]; exact hOm) HT2.out hC
        rw [HO.out] at CO
        unfold pp at CO
        clear hC
        have hOm' : ¬ ((o : Int) = (m : Int)) := by omega
        go_wp2_with (go_at_call 220; refine CO.mono ?_; rintro e W4 ⟨rfl, P4, K4⟩)
        have V1 := U1.out.kept K4 HBb.out.2.2.1
        have V2 := U2.out.kept K4 HBb.out.2.2.2
        have c1 := P4.all
        have d0 := V1.c0
        have d1 := V1.c1
        have d2 := V1.c2
        have v0 := V2.c0
        have v1 := V2.c1
        have v2 := V2.c2
        obtain ⟨y0, y1, y2, y3, y4, y5, y6, n0, n1, n2, n3, n4, n5, n6⟩ := P4.n hm0
        have fz := P4.fa
        obtain ⟨W5, hW5⟩ : ∃ W5, Proofs.YtpmmploedkbeoaaGreatDoor.set7 W4 a m k v 0 = W5 := ⟨_, rfl⟩
        have P5 : Hid _ := P4.set7 hm0 k v 0
        have K5 : Hid _ := (K3.out.trans (K4.sub fun g hg => hg.1)).set7 (a := a) (i := m) k v 0 (fun x => x.1 rfl)
        rw [hW5] at P5 K5
        unfold Proofs.YtpmmploedkbeoaaGreatDoor.set7 at hW5
        clear P4 K4 V1 V2
        go_wp2_with fail
        refine wp_tail 9 (by kernel_rfl) (by kernel_rfl) ?_
        simp only [List.take_succ_cons, List.take_zero, List.drop_succ_cons, List.drop_zero]
        repeat still_step
        refine wpStill_nil ?_
        go_wp2_with fail
        go_ret
        rw [HR.out]
        exact ⟨rfl, (P5.out.below (bdrew1 _)).pt HN.out rfl, K5.out.bel (bdrew1 _)⟩
end Go.Proofs.YtpmmploedkbeoaaGreatDoor

/- The walks of Find and insert where there is no main position, and of Put. -/
namespace Go.Proofs.YtpmmploedkbeoaaGreatDoor
open Go.RowKit

set_option maxRecDepth 20000 in
set_option maxHeartbeats 2000000 in
theorem find_bad {p : Value} {z : Int} (k : V) (w : World) (hS0 : ∀ W, Below w.heap.size w W → Calls Tryz.prog 111 #[p] W fun e w' => e = .returned (.int .i64 z) ∧ w' = W) (hk0 : -9223372036854775808 ≤ k.2.1) (hk1 : k.2.1 ≤ 9223372036854775807) (hE : mnE k.1 k.2.1 k.2.2 z ≠ 0) :
    Calls Tryz.prog 102 #[p, vl k.1 k.2.1 k.2.2] w fun e w' => e = .returned (.tuple #[.int .i64 (-1), .int .i64 0]) ∧ Below w.heap.size w w' := by
  have CM := fun w => main_any k.1 k.2.1 k.2.2 z w hk0 hk1
  obtain ⟨X, F, F1, F2⟩ := class_of (w.alloc (vb k.1 k.2.1 k.2.2))
  have HB : Hid (∀ x, Below w.heap.size w (F x)) := fun x => bthen (b1 w _) (by simp) (F1 x)
  have e0 : ∀ x, (F x).cell? ⟨w.heap.size, 0, none⟩ = some (.int .i64 k.1) := fun x => by rw [(F1 x).cell (by simp)]; simp [go_sem]
  have e1 : ∀ x, (F x).cell? ⟨w.heap.size, 1, none⟩ = some (.int .i64 k.2.1) := fun x => by rw [(F1 x).cell (by simp)]; simp [go_sem]
  have e2 : ∀ x, (F x).cell? ⟨w.heap.size, 2, none⟩ = some (.string k.2.2) := fun x => by rw [(F1 x).cell (by simp)]; simp [go_sem]
  have hS : ∀ x, Calls Tryz.prog 111 #[p] (F x) fun e w'' => e = .returned (.int .i64 z) ∧ ∃ y, w'' = F y := fun x =>
    (hS0 (F x) (HB.out x)).mono fun e w' ⟨he, hw⟩ => ⟨he, x, hw⟩
  have hM : ∀ x, Calls Tryz.prog 144 #[vl k.1 k.2.1 k.2.2, .int .i64 z] (F x) fun e w'' => e = .returned (.tuple #[.int .i64 (mnP k.1 k.2.1 k.2.2 z), .int .i64 (mnE k.1 k.2.1 k.2.2 z)]) ∧ ∃ y, w'' = F y := fun x =>
    (CM (F x)).mono fun e w' ⟨he, hw⟩ => ⟨he, F2 w' (hw ▸ bthen (F1 x) (F1 x).size (b2 _ _ _))⟩
  have HC : Hid (∃ x, (w.alloc (vb k.1 k.2.1 k.2.2)).drew = F x) := F2 _ (Below.refl _ _).drew
  clear CM hS0 F1 F2
  unfold vl vb at *
  generalize mnE k.1 k.2.1 k.2.2 z = q at *
  generalize mnP k.1 k.2.1 k.2.2 z = r at *
  go_enter Tryz.func102, Tryz.ntmps102
  go_wp2_with fail
  haveI : Nonempty X := HC.out.elim fun x _ => ⟨x⟩
  refine wp_class (F := F) (by kernel_rfl) (by kernel_rfl) HC.out ?_
  repeat (go_big_quiet_step (first | exact hS _ | exact hM _))
  refine wpQuiet_nil ?_
  intro _ hw'
  obtain ⟨x, rfl⟩ := hw'
  go_wp2_with fail
  go_ret2
  exact ⟨rfl, HB.out x⟩

set_option maxRecDepth 20000 in
set_option maxHeartbeats 2000000 in
theorem insert_bad {p : Value} {z : Int} (k v : V) (w : World) (hS0 : ∀ W, Below w.heap.size w W → Calls Tryz.prog 111 #[p] W fun e w' => e = .returned (.int .i64 z) ∧ w' = W) (hk0 : -9223372036854775808 ≤ k.2.1) (hk1 : k.2.1 ≤ 9223372036854775807) (hE : mnE k.1 k.2.1 k.2.2 z ≠ 0) :
    Calls Tryz.prog 145 #[p, vl k.1 k.2.1 k.2.2, vl v.1 v.2.1 v.2.2] w fun e w' => e = .returned (.int .i64 12) ∧ Below w.heap.size w w' := by
  have CM := fun w => main_any k.1 k.2.1 k.2.2 z w hk0 hk1
  obtain ⟨X, F, F1, F2⟩ := class_of ((w.alloc (vb k.1 k.2.1 k.2.2)).alloc (vb v.1 v.2.1 v.2.2))
  have HB : Hid (∀ x, Below w.heap.size w (F x)) := fun x => bthen (b2 w _ _) (by simp; omega) (F1 x)
  have X1 : Bx ((w.alloc (vb k.1 k.2.1 k.2.2)).alloc (vb v.1 v.2.1 v.2.2)) w.heap.size k := (Bx.made w k).below (b1 _ _)
  have e0 := fun x => (X1.below (F1 x)).c0
  have e1 := fun x => (X1.below (F1 x)).c1
  have e2 := fun x => (X1.below (F1 x)).c2
  have hS : ∀ x, Calls Tryz.prog 111 #[p] (F x) fun e w'' => e = .returned (.int .i64 z) ∧ ∃ y, w'' = F y := fun x =>
    (hS0 (F x) (HB.out x)).mono fun e w' ⟨he, hw⟩ => ⟨he, x, hw⟩
  have hM : ∀ x, Calls Tryz.prog 144 #[vl k.1 k.2.1 k.2.2, .int .i64 z] (F x) fun e w'' => e = .returned (.tuple #[.int .i64 (mnP k.1 k.2.1 k.2.2 z), .int .i64 (mnE k.1 k.2.1 k.2.2 z)]) ∧ ∃ y, w'' = F y := fun x =>
    (CM (F x)).mono fun e w' ⟨he, hw⟩ => ⟨he, F2 w' (hw ▸ bthen (F1 x) (F1 x).size (b2 _ _ _))⟩
  have HC : Hid (∃ x, ((w.alloc (vb k.1 k.2.1 k.2.2)).alloc (vb v.1 v.2.1 v.2.2)).drew = F x) := F2 _ (Below.refl _ _).drew
  clear CM hS0 F1 F2 X1
  unfold vl vb at *
  generalize mnE k.1 k.2.1 k.2.2 z = q at *
  generalize mnP k.1 k.2.1 k.2.2 z = r at *
  go_enter Tryz.func145, Tryz.ntmps145
  go_wp2_with fail
  haveI : Nonempty X := HC.out.elim fun x _ => ⟨x⟩
  refine wp_class (F := F) (by kernel_rfl) (by kernel_rfl) HC.out ?_
  repeat (go_big_quiet_step (first | exact hS _ | exact hM _))
  refine wpQuiet_nil ?_
  intro _ hw'
  obtain ⟨x, rfl⟩ := hw'
  go_wp2_with fail
  go_ret
  exact ⟨rfl, HB.out x⟩

/-- What Put comes to: the part behind it, the nodes read, the error. -/
def fm (v : V) : Bool := inF v.1 v.2.1 v.2.2
def put (z : Nat) (g : G) (k v : V) : G × Nat × Int :=
  if fm k = true ∧ fm v = true then
    if k.1 = 0 then (g, 0, 9)
    else if z = 0 then (g, 0, if v.1 = 0 then 0 else 12)
    else match find (pl z) g k with
      | (some i, n) => (setX g i v, n, 0)
      | (none, n) => if v.1 = 0 then (g, n, 0) else ((ins (pl z) g k v).1, n, full (ins (pl z) g k v).2)
  else (g, 0, 2)
def Rng (v : V) : Prop := -9223372036854775808 ≤ v.2.1 ∧ v.2.1 ≤ 9223372036854775807
def Rt (z : Nat) : Prop := z = 0 ∨ pw z = true
theorem Rt.le {z : Nat} (h : Rt z) : z ≤ 65536 := by
  rcases h with h | h
  · omega
  · have := (pw_bounds z h).2; omega
theorem pw0 : pw (0 : Int) = false := by decide
theorem mnE_bad {k : V} {z : Int} (h : pw z = false ∨ fm k = false ∨ k.1 = 0) : mnE k.1 k.2.1 k.2.2 z ≠ 0 := by
  unfold mnE
  unfold fm at h
  rcases h with h | h | h
  · rw [h]; split <;> simp
  · rw [h]; simp
  · rw [if_pos h]; split
    · split <;> simp
    · simp
theorem Pt.sizes {w : World} {b a z : Nat} {g : G} (h : Pt w b a z g) : ∀ W, Below w.heap.size w W → Calls Tryz.prog 111 #[pp b] W fun e w' => e = .returned (.int .i64 (z : Nat)) ∧ w' = W := fun W hW => size_any W (h.below hW)
theorem chk_of (v : V) : chk v.1 v.2.1 v.2.2 = if fm v = true then 0 else 2 := rfl

set_option maxRecDepth 20000 in
set_option maxHeartbeats 2000000 in
theorem put_form {p : Value} (k v : V) (w : World) (hf : ¬ (fm k = true ∧ fm v = true)) :
    Calls Tryz.prog 104 #[p, vl k.1 k.2.1 k.2.2, vl v.1 v.2.1 v.2.2] w fun e w' => e = .returned (.tuple #[.int .i64 0, .int .i64 2]) ∧ Below w.heap.size w w' := by
  have C1 := check_any k.1 k.2.1 k.2.2
  have C2 := check_any v.1 v.2.1 v.2.2
  rw [chk_of] at C1 C2
  have B2 := fun o => bthen (b2 w (vb k.1 k.2.1 k.2.2) (vb v.1 v.2.1 v.2.2)) (by simp; omega) (b1 _ o)
  have B3 := fun o o' => bthen (B2 o) (by simp; omega) (b1 _ o')
  by_cases h1 : fm k = true
  · have h2 : fm v = false := by cases h0 : fm v; rfl; exact absurd ⟨h1, h0⟩ hf
    rw [if_pos h1] at C1
    rw [h2, if_neg (by simp)] at C2
    have B4 := B3 (vb k.1 k.2.1 k.2.2) (vb v.1 v.2.1 v.2.2)
    clear hf h1 h2 B2 B3
    unfold vl vb at *
    go_enter Tryz.func104, Tryz.ntmps104
    go_wp2_with fail
    refine (C1 _).mono ?_; rintro e w' ⟨rfl, rfl⟩
    go_wp2_with fail
    refine (C2 _).mono ?_; rintro e w' ⟨rfl, rfl⟩
    go_wp2_with fail
    go_ret2
    exact ⟨rfl, B4⟩
  · rw [if_neg h1] at C1
    have B4 := B2 (vb k.1 k.2.1 k.2.2)
    clear hf h1 B2 B3 C2
    unfold vl vb at *
    go_enter Tryz.func104, Tryz.ntmps104
    go_wp2_with fail
    refine (C1 _).mono ?_; rintro e w' ⟨rfl, rfl⟩
    go_wp2_with fail
    go_ret2
    exact ⟨rfl, B4⟩

set_option maxRecDepth 20000 in
set_option maxHeartbeats 2000000 in
theorem put_key {p : Value} (k v : V) (w : World) (hf : fm k = true ∧ fm v = true) (hk : k.1 = 0) :
    Calls Tryz.prog 104 #[p, vl k.1 k.2.1 k.2.2, vl v.1 v.2.1 v.2.2] w fun e w' => e = .returned (.tuple #[.int .i64 0, .int .i64 9]) ∧ Below w.heap.size w w' := by
  have C1 := check_any k.1 k.2.1 k.2.2
  have C2 := check_any v.1 v.2.1 v.2.2
  rw [chk_of, if_pos hf.1] at C1
  rw [chk_of, if_pos hf.2] at C2
  have B4 := bthen (bthen (b2 w (vb k.1 k.2.1 k.2.2) (vb v.1 v.2.1 v.2.2)) (by simp; omega) (b1 _ (vb k.1 k.2.1 k.2.2))) (by simp; omega) (b1 _ (vb v.1 v.2.1 v.2.2))
  clear hf
  unfold vl vb at *
  rw [hk] at *
  go_enter Tryz.func104, Tryz.ntmps104
  go_wp2_with fail
  refine (C1 _).mono ?_; rintro e w' ⟨rfl, rfl⟩
  go_wp2_with fail
  refine (C2 _).mono ?_; rintro e w' ⟨rfl, rfl⟩
  go_wp2_with fail
  go_ret2
  exact ⟨rfl, B4⟩
end Go.Proofs.YtpmmploedkbeoaaGreatDoor
