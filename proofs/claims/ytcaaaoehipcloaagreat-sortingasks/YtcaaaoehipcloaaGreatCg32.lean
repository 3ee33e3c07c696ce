/- The walk of begin, on: both tables. -/
import Derived.Test.YtcaaaoehipcloaaGreatCg17
import Derived.Test.YtcaaaoehipcloaaGreatCg31
import Derived.Test.YtcaaaoehipcloaaGreatCg30
import Derived.Test.YtcaaaoehipcloaaGreatCg08
namespace Go.Proofs.YtcaaaoehipcloaaGreat
open Go.RowKit

theorem Okn.new {No : Nat → Prop} {w : World} {S hb c n z : Nat} {vb : Value} {s : H.St} {x y : Int} (o : Okn s x y n z) (h : H.Hp No w S hb c vb s) (hc : c ≤ 700000) (iv : H.Inv 0 s) :
    Calls Tryz.prog 14 #[.pointer (some ⟨S, 0, none⟩), .int .i64 x, .int .i64 y] w fun e w' => ∃ T A b a, e = .returned (.tuple #[.pointer (some ⟨T, 0, none⟩), .int .i64 0]) ∧ TT No w' T A b a S hb (c + 3) (newT n z (H.takeId (H.takeSt s 4) (n : Nat)) (H.takeId (H.takeSt (H.takeSt s 4) (n : Nat)) (3 * (z : Nat)))) (nS s x y) ∧ Keep No w w' := by
  obtain ⟨m, rfl, hm, hz⟩ := o.hy
  obtain ⟨e3, e4⟩ := tpE_two (z := (z : Nat)) o.e2
  rw [if_neg (fun q => q o.e3)] at e4
  rw [o.es, ← e4, o.ex]
  exact new_good h hc iv n m z o.hn hm hz o.hz o.e1 (e3.trans o.e3)
theorem Okn.rnew {No : Nat → Prop} {w : World} {S c n z : Nat} {s : H.St} {x y : Int} (o : Okn s x y n z) (h : RH No w S c s) (hc : c ≤ 700000) (iv : H.Inv 0 s) :
    Calls Tryz.prog 15 #[.pointer (some ⟨S, 0, none⟩), .int .i64 x, .int .i64 y] w fun e w' => ∃ RT A P ka va ca, e = .returned (.tuple #[.pointer (some ⟨RT, 0, none⟩), .int .i64 0]) ∧ RH (fun g => No g ∨ g = RT ∨ g = A ∨ g = P ∨ g = ka ∨ g = va ∨ g = ca) w' S (c + 3) (nS s x y) ∧ Keep No w w' ∧
      Nr w w' n z RT A P ka va ca S (H.takeId (H.takeSt s 4) (n : Nat)) (H.takeId (H.takeSt (H.takeSt s 4) (n : Nat)) (3 * (z : Nat))) := by
  obtain ⟨m, rfl, hm, hz⟩ := o.hy
  rw [o.es, o.ex]
  exact rnew_good h hc iv n m z o.hn hm hz o.hz.le o.e1 o.e2 o.e3
/-- Both tables behind begin: the program's blocks lie below M, the reference's from M on. -/
structure Bgn (w w' : World) (M T A b a S hb RT RA P ka va ca G n z : Nat) (t : TS) (s : H.St) : Prop where
  tt : TT (fun g => g < w.heap.size ∨ (M ≤ g ∧ g < w'.heap.size)) w' T A b a S hb 3 t s
  rh : RH (fun g => g < M ∨ g = RT ∨ g = RA ∨ g = P ∨ g = ka ∨ g = va ∨ g = ca) w' G 3 s
  nr : ∃ W, M ≤ W.heap.size ∧ Nr W w' n z RT RA P ka va ca G t.sb t.nb
  bel : Below w.heap.size w w'
  le : w.heap.size ≤ M
  iv : H.Inv 0 s
  et : t = newT n z t.sb t.nb
  rt : Rt z
  en : n ≤ 65536
end Go.Proofs.YtcaaaoehipcloaaGreat

/- What begin makes of a list (no program in it). -/
namespace Go.Proofs.YtcaaaoehipcloaaGreat
open Go.RowKit

theorem Okn.tb {s : H.St} {x y : Int} {n z : Nat} (o : Okn s x y n z) (iv : H.Inv 0 s) {t : TS} (et : t = newT n z t.sb t.nb) (e1 : t.sb = H.takeId (H.takeSt s 4) (n : Nat)) (e2 : t.nb = H.takeId (H.takeSt (H.takeSt s 4) (n : Nat)) (3 * (z : Nat))) : TB t (nS s x y) (s.live + 4) := by
  obtain ⟨m, rfl, hm, hz⟩ := o.hy
  have hn : t.p.n = n := by rw [et]; rfl
  have hzz : t.p.z = z := by rw [et]; rfl
  have hin : inP x ∧ inP (m : Int) := by
    rw [o.ex]
    exact ⟨⟨by omega, by have := o.hn; omega⟩, ⟨by omega, by omega⟩⟩
  have eS : nS s x (m : Nat) = H.takeSt (H.takeSt (H.takeSt s 4) (n : Nat)) (3 * (z : Nat)) := by
    unfold nS
    rw [if_neg (fun q => q hin), if_neg (fun q => q o.e1), hz, o.ex]
    obtain ⟨q1, q2⟩ | ⟨q1, q2, q3, q4⟩ | ⟨q1, q2, q3, q4⟩ := tp_cases (H.takeSt s 4) (n : Nat) (z : Nat)
    · exact absurd o.e2 q1
    · exact absurd o.e3 q2
    · rw [if_neg (fun q => q q3), q4]
  obtain ⟨a1, a2, a3, a4⟩ := blk_take iv o.e1
  obtain ⟨c1, c2, c3, c4⟩ := blk_take (iv.take 4) o.e2
  obtain ⟨d1, d2, d3, d4⟩ := blk_take ((iv.take 4).take (n : Nat)) o.e3
  have m1 := d4 _ _ c1
  rw [eS]
  refine ⟨by rw [hn, e1]; exact m1.1, by rw [hzz, e2]; exact d1, fun e => ?_, by rw [d2, c2, a2, hn, hzz]⟩
  rw [e1] at e ⊢
  rw [e2] at e
  exact m1.2 e
/-- The last place whose value is in form. -/
def nlast (F : Nat → V) : Nat → Int
  | 0 => 0
  | k + 1 => if fm (F k) = true then (k : Int) + 1 else nlast F k
theorem nlast_all {F : Nat → V} : ∀ k : Nat, (∀ j, j < k → fm (F j) = true) → nlast F k = (k : Int)
  | 0, _ => rfl
  | k + 1, h => by
    unfold nlast
    rw [if_pos (h k (by omega))]
    omega
theorem nlast_le (F : Nat → V) : ∀ k : Nat, 0 ≤ nlast F k ∧ nlast F k ≤ (k : Int)
  | 0 => ⟨Int.le_refl _, Int.le_refl _⟩
  | k + 1 => by
    have := nlast_le F k
    unfold nlast
    split <;> omega
/-- What stands at a key behind k rounds. -/
def bgm (F : Nat → V) (k : Nat) (x : V) : V := if x.1 = 2 ∧ 1 ≤ x.2.1 ∧ x.2.1 ≤ (k : Int) ∧ fm (F (x.2.1 - 1).toNat) = true then F (x.2.1 - 1).toNat else nil
structure Bj (F : Nat → V) (k : Nat) (t : TS) (s : H.St) : Prop where
  tb : TB t s 4
  lim : s.lim = 3000
  sm : S3 t k
  mp : ∀ x, KOK x → pget t.p x = bgm F k x
theorem kn_of {x : V} (h : fm x = true) (h2 : x.1 = 2) : x = kn x.2.1 := by
  obtain ⟨k, n, s⟩ := x
  simp only at h2
  subst h2
  have h1 : inF 2 n s = true := h
  unfold inF at h1
  have e : s = ⟨#[]⟩ := bytes_iff.1 (by
    simp [ByteArray.toList_eq] at h1 ⊢
    simpa using h1)
  rw [e]
theorem Bj.set {F : Nat → V} {k : Nat} {t : TS} {s : H.St} (h : Bj F k t s) (ti : TI t.p) (iv : H.Inv 0 s) (hv : fm (F k) = true) (hk : k ≤ 62) (ti' : TI (tset t s (kn ((k : Int) + 1)) (F k)).1.p) : Bj F (k + 1) (tset t s (kn ((k : Int) + 1)) (F k)).1 (tset t s (kn ((k : Int) + 1)) (F k)).2.1 := by
  have hr : Rng (kn ((k : Int) + 1)) := ⟨by show -9223372036854775808 ≤ (k : Int) + 1; omega, by show (k : Int) + 1 ≤ 9223372036854775807; omega⟩
  have e0 : (tset t s (kn ((k : Int) + 1)) (F k)).2.2 = 0 := set_zero3 ti hr (fm_kn _) hv (by simp) h.tb iv h.lim h.sm (by omega)
  have tb := h.tb.set iv (kn ((k : Int) + 1)) (F k)
  obtain ⟨_, _, m1, m2⟩ := (tset_map (s := s) (v := F k) ti hr).1 e0
  refine ⟨tb.1, tb.2.trans h.lim, h.sm.set (by omega) ti hr ti', fun x hx => ?_⟩
  by_cases q : x = kn ((k : Int) + 1)
  · subst q
    rw [m1]
    unfold bgm
    have e : ((k : Int) + 1 - 1).toNat = k := by omega
    rw [if_pos ⟨rfl, by show 1 ≤ (k : Int) + 1; omega, by show (k : Int) + 1 ≤ ((k + 1 : Nat) : Int); omega, by show fm (F ((k : Int) + 1 - 1).toNat) = true; rw [e]; exact hv⟩]
    show F k = F ((k : Int) + 1 - 1).toNat
    rw [e]
  · rw [m2 x hx q, h.mp x hx]
    unfold bgm
    by_cases z : x.1 = 2 ∧ 1 ≤ x.2.1 ∧ x.2.1 ≤ (k : Int) ∧ fm (F (x.2.1 - 1).toNat) = true
    · rw [if_pos z, if_pos ⟨z.1, z.2.1, by omega, z.2.2.2⟩]
    · rw [if_neg z, if_neg (fun y => z ⟨y.1, y.2.1, by
        have y3 := y.2.2.1
        by_cases w : x.2.1 = (k : Int) + 1
        · exact absurd (by rw [kn_of hx.1 y.1, w]) q
        · omega, y.2.2.2⟩)]
theorem Bj.skip {F : Nat → V} {k : Nat} {t : TS} {s : H.St} (h : Bj F k t s) (hv : ¬ fm (F k) = true) : Bj F (k + 1) t s := by
  refine ⟨h.tb, h.lim, ⟨h.sm.n, h.sm.z, Nat.le_succ_of_le h.sm.pr⟩, fun x hx => ?_⟩
  rw [h.mp x hx]
  unfold bgm
  by_cases z : x.1 = 2 ∧ 1 ≤ x.2.1 ∧ x.2.1 ≤ (k : Int) ∧ fm (F (x.2.1 - 1).toNat) = true
  · rw [if_pos z, if_pos ⟨z.1, z.2.1, by omega, z.2.2.2⟩]
  · rw [if_neg z, if_neg (fun y => z ⟨y.1, y.2.1, by
      have y3 := y.2.2.1
      by_cases w : x.2.1 = (k : Int) + 1
      · exfalso
        have e : (x.2.1 - 1).toNat = k := by omega
        rw [e] at y
        exact hv y.2.2.2
      · omega, y.2.2.2⟩)]
/-- All in form and none Nil: the places hold the list. -/
theorem Bj.mt {F : Nat → V} {n : Nat} {t : TS} {s : H.St} (h : Bj F n t s) (ti : TI t.p) (hn : n ≤ 60) (hg : ∀ j, j < n → Gv (F j)) : Mt n t s (fun k => F (k - 1).toNat) := by
  refine ⟨ti, fun k k1 k2 => ?_⟩
  have hg' := hg (k - 1).toNat (by omega)
  rw [h.mp (kn k) (KOK_pos k1 (by omega))]
  unfold bgm
  rw [if_pos ⟨rfl, k1, k2, hg'.1⟩]
  exact ⟨rfl, hg'⟩
theorem ok3 : ∃ n z, Okn (H.newSt 3000) 0 0 n z ∧ n = 0 ∧ z = 0 := by
  have h4 : H.takeE (H.newSt 3000) 4 = 0 := by kernel_rfl
  have he : nE (H.newSt 3000) 0 0 = 0 := by kernel_rfl
  obtain ⟨n, z, o⟩ := okn he
  refine ⟨n, z, o, ?_, ?_⟩
  · have := o.ex; omega
  · obtain ⟨m, hm, _, hz⟩ := o.hy
    have e : m = 0 := by omega
    subst e
    have u : C.up2 0 = 0 := by kernel_rfl
    simp only [Int.ofNat_zero] at hz
    have : C.up2 ((0 : Nat) : Int) = (z : Int) := hz
    have u' : C.up2 ((0 : Nat) : Int) = 0 := u
    omega
end Go.Proofs.YtcaaaoehipcloaaGreat

/- The reference's table in memory; the walks of within, Places, Stats. The great seat's numbers. -/
namespace Go.Proofs.YtcaaaoehipcloaaGreat
open Go.RowKit

/-- The reference's table: the struct in RT, its slots in A, its part in P. -/
structure Rb (w : World) (RT A P ka va ca : Nat) (cb : Nat → Nat) (G : Nat) (t : TS) : Prop where
  c0 : w.cell? ⟨RT, 0, none⟩ = some (.slice (some ⟨A, 0, none⟩) t.p.n t.p.n)
  c1 : w.cell? ⟨RT, 1, none⟩ = some (.pointer (some ⟨P, 0, none⟩))
  c2 : w.cell? ⟨RT, 2, none⟩ = some (.int .i64 t.sb)
  c3 : w.cell? ⟨RT, 3, none⟩ = some (.int .i64 t.nb)
  c4 : w.cell? ⟨RT, 4, none⟩ = some (.int .i64 t.hint)
  c5 : w.cell? ⟨RT, 5, none⟩ = some (.int .i64 t.pr)
  c6 : w.cell? ⟨RT, 6, none⟩ = some (.pointer (some ⟨G, 0, none⟩))
  fz : ∀ j, w.frozen? ⟨RT, j, none⟩ = false
  sl : Rv w A t.p.n t.p.F
  fA : ∀ j, w.frozen? ⟨A, j, none⟩ = false
  ltR : RT < w.heap.size
  ltA : A < w.heap.size
  rp : Rp w P ka va ca t.p.z t.p.g cb
  nRA : RT ≠ A
  nR : ∀ x, Rp.Own P ka va ca t.p.z t.p.g cb x → x ≠ RT
  nA : ∀ x, Rp.Own P ka va ca t.p.z t.p.g cb x → x ≠ A
/-- The blocks that are its own. -/
def Rb.Own (RT A P ka va ca : Nat) (cb : Nat → Nat) (t : TS) (x : Nat) : Prop := x = RT ∨ x = A ∨ Rp.Own P ka va ca t.p.z t.p.g cb x
theorem Rb.kept {No : Nat → Prop} {w w' : World} {RT A P ka va ca : Nat} {cb : Nat → Nat} {G : Nat} {t : TS} (h : Rb w RT A P ka va ca cb G t) (k : Keep No w w') (hn : ∀ x, Rb.Own RT A P ka va ca cb t x → No x) : Rb w' RT A P ka va ca cb G t := by
  have eR := k.block RT h.ltR (hn RT (.inl rfl))
  have eA := k.block A h.ltA (hn A (.inr (.inl rfl)))
  exact ⟨by rw [World.cell?_of_block (w := w) eR]; exact h.c0, by rw [World.cell?_of_block (w := w) eR]; exact h.c1, by rw [World.cell?_of_block (w := w) eR]; exact h.c2, by rw [World.cell?_of_block (w := w) eR]; exact h.c3, by rw [World.cell?_of_block (w := w) eR]; exact h.c4, by rw [World.cell?_of_block (w := w) eR]; exact h.c5, by rw [World.cell?_of_block (w := w) eR]; exact h.c6, fun j => by rw [World.frozen?_of_block (w := w) eR]; exact h.fz j, h.sl.block eA, fun j => by rw [World.frozen?_of_block (w := w) eA]; exact h.fA j, Nat.lt_of_lt_of_le h.ltR k.size, Nat.lt_of_lt_of_le h.ltA k.size, h.rp.kept k (fun x q => hn x (.inr (.inr q))), h.nRA, h.nR, h.nA⟩
theorem Rb.below {w w' : World} {RT A P ka va ca : Nat} {cb : Nat → Nat} {G : Nat} {t : TS} (h : Rb w RT A P ka va ca cb G t) (k : Below w.heap.size w w') : Rb w' RT A P ka va ca cb G t := h.kept (No := fun _ => True) (Keep.of k) (fun _ _ => trivial)

set_option maxRecDepth 20000 in
set_option maxHeartbeats 2000000 in
theorem rwithin_any {RT A : Nat} {n : Nat} (k : V) (w : World) (h : w.cell? ⟨RT, 0, none⟩ = some (.slice (some ⟨A, 0, none⟩) n n)) (hlt : RT < w.heap.size) :
    Calls Tryz.prog 33 #[.pointer (some ⟨RT, 0, none⟩), vv k] w fun e w' => e = .returned (.bool (decide (inA n k))) ∧ Below w.heap.size w w' := by
  have c0' : (w.alloc (vb k.1 k.2.1 k.2.2)).cell? ⟨RT, 0, none⟩ = some (.slice (some ⟨A, 0, none⟩) n n) := by
    rw [World.cell?_of_block (w := w) (Below.heap_alloc _ _ _ hlt)]; exact h
  have HE : Hid (decide (inA n k) = decide (k.1 = 2 ∧ k.2.2.toList = [] ∧ 1 ≤ k.2.1 ∧ k.2.1 ≤ (n : Int))) := by
    show _ = _
    unfold inA
    have : k.2.2 = ⟨#[]⟩ ↔ k.2.2.toList = [] := by rw [← bytes_iff]; simp [ByteArray.toList_eq]
    simp only [this]
  clear h
  obtain ⟨k0, k1, k2⟩ := k
  unfold vv vl
  unfold vb at *
  simp only at *
  have HB : Hid _ := b1 w (.cells #[.int .i64 k0, .int .i64 k1, .string k2] 34)
  by_cases h1 : k0 = 2
  · subst h1
    by_cases h2 : k2.toList = []
    · have g2 : (k2.toList == []) = true := by simp [h2]
      by_cases h3 : 1 ≤ k1
      · have g3 : decide (1 ≤ k1) = true := by simp [h3]
        by_cases h4 : k1 ≤ (n : Int)
        · have g4 : decide (k1 ≤ (n : Int)) = true := by simp [h4]
          have E : Hid (decide (inA n (2, k1, k2)) = true) := HE.out.trans (decide_eq_true ⟨rfl, h2, h3, h4⟩)
          clear HE
          go_enter Tryz.func33, Tryz.ntmps33
          go_wp2_with fail
          go_quiet (fail)
          go_wp2_with fail
          go_ret
          rw [E.out]
          exact ⟨rfl, bthen HB.out (by simp) (bdrew _ _ _)⟩
        · have g4 : decide (k1 ≤ (n : Int)) = false := by simp [h4]
          have E : Hid (decide (inA n (2, k1, k2)) = false) := HE.out.trans (decide_eq_false (fun q => h4 q.2.2.2))
          clear HE
          go_enter Tryz.func33, Tryz.ntmps33
          go_wp2_with fail
          go_quiet (fail)
          go_wp2_with fail
          go_ret
          rw [E.out]
          exact ⟨rfl, bthen HB.out (by simp) (bdrew _ _ _)⟩
      · have g3 : decide (1 ≤ k1) = false := by simp [h3]
        have E : Hid (decide (inA n (2, k1, k2)) = false) := HE.out.trans (decide_eq_false (fun q => h3 q.2.2.1))
        clear HE c0'
        go_enter Tryz.func33, Tryz.ntmps33
        go_wp2_with fail
        go_quiet (fail)
        go_wp2_with fail
        go_ret
        rw [E.out]
        exact ⟨rfl, bthen HB.out (by simp) (bdrew _ _ _)⟩
    · have g2 : (k2.toList == []) = false := by simpa using h2
      have E : Hid (decide (inA n (2, k1, k2)) = false) := HE.out.trans (decide_eq_false (fun q => h2 q.2.1))
      clear HE c0'
      go_enter Tryz.func33, Tryz.ntmps33
      go_wp2_with fail
      go_quiet (fail)
      go_wp2_with fail
      go_ret
      rw [E.out]
      exact ⟨rfl, bthen HB.out (by simp) (bdrew _ _ _)⟩
  · have g1 : (k0 == 2) = false := by simpa using h1
    have E : Hid (decide (inA n (k0, k1, k2)) = false) := HE.out.trans (decide_eq_false (fun q => h1 q.1))
    clear HE c0'
    go_enter Tryz.func33, Tryz.ntmps33
    go_wp2_with fail
    go_quiet (fail)
    go_wp2_with fail
    go_ret
    rw [E.out]
    exact ⟨rfl, bthen HB.out (by simp) (bdrew _ _ _)⟩
set_option maxHeartbeats 1000000 in
theorem rpsize_any {P ka va ca z : Nat} {g : G} {cb : Nat → Nat} (w : World) (h : Rp w P ka va ca z g cb) : Calls Tryz.prog 60 #[.pointer (some ⟨P, 0, none⟩)] w fun e w' => e = .returned (.int .i64 (z : Nat)) ∧ w' = w := by
  have c0 := h.s0
  clear h
  go_enter Tryz.func60, Tryz.ntmps60
  go_wp2_with fail
  go_ret
  exact ⟨rfl, rfl⟩
end Go.Proofs.YtcaaaoehipcloaaGreat

/- The walks of the reference's Of, Place and key. -/
namespace Go.Proofs.YtcaaaoehipcloaaGreat
open Go.RowKit
set_option maxHeartbeats 1000000 in
theorem rof_any (s : ByteArray) (w : World) (hs : s.size ≤ 9223372036854775807) :
    Calls Tryz.prog 78 #[.string s] w fun e w' => e = .returned (.int .i64 (fnv s.data.toList)) ∧ w' = w := by
  go_enter Tryz.func78, Tryz.ntmps78
  go_wp2
  go_loop [3, 4] (fun h i => ∃ k : Nat, k ≤ s.size ∧ i = .int .i64 k ∧ ∃ m : Nat, h = .int .i64 (m : Nat) ∧ Hid (m = fnv (s.data.toList.take k))) (fun _ i => s.size - (intOf i).toNat)
  case atStart => exact ⟨0, Nat.zero_le _, rfl, 2166136261, rfl, rfl⟩
  case round =>
    obtain ⟨k, hk, rfl, m, rfl, HM⟩ := hrel
    by_cases hlt : k < s.size
    · have hm : m < 4294967296 := by rw [HM.out]; exact fnv_lt _
      have h1 : Hid _ := step_i64 m s[k] hm
      have HM2 : Hid (fnv1 m s[k] = fnv (s.data.toList.take (k + 1))) := by
        show _ = _
        rw [take_snoc s k hlt, fnv_snoc, HM.out]
      clear HM
      go_wp2
      go_round
      case rel => exact ⟨k + 1, by omega, by go_num, fnv1 m s[k], congrArg (Value.int .i64) h1.out, HM2⟩
      case measure => simp [intOf]; omega
    · have HT := take_all s k hlt
      rw [HT] at HM
      have hm : m < 4294967296 := by rw [HM.out]; exact fnv_lt _
      clear HT
      go_wp2
      go_ret
      exact ⟨ret1 (by rw [HM.out]), rfl⟩

set_option maxHeartbeats 600000 in
theorem rplace_any (k n : Int) (s : ByteArray) (z : Int) (w : World) (hn0 : -9223372036854775808 ≤ n) (hn1 : n ≤ 9223372036854775807) (hF : inF k n s = true) (hP : pw z = true) (hk0 : k ≠ 0) :
    Calls Tryz.prog 57 #[vl k n s, .int .i64 z] w fun e w' => e = .returned (.int .i64 (mp k n s z)) ∧ w' = w.alloc (vb k n s) := by
  unfold vl vb at *
  obtain ⟨hz0, hz1⟩ := pw_bounds z hP
  have HK : Hid _ := inF_kind k n s hF
  clear hF hP
  rcases HK.out with h | ⟨h, hn⟩ | h | ⟨h, hs⟩ | ⟨h, hn⟩
  · exact absurd h hk0
  · subst h
    clear hk0
    have e1 : mp 1 n s z = n % z := by simp [mp]
    rw [e1]
    clear e1
    have HT : Hid (n.tmod z = n % z) := Int.tmod_eq_emod_of_nonneg (by omega)
    by_cases hz : z = 1
    · subst hz
      go_enter Tryz.func57, Tryz.ntmps57
      go_wp2
      go_ret; exact ⟨ret1 (by first | rfl | exact HT.out | omega), rfl⟩
    · go_enter Tryz.func57, Tryz.ntmps57
      go_wp2
      go_ret; exact ⟨ret1 (by first | rfl | exact HT.out | omega), rfl⟩
  · subst h
    clear hk0
    have e1 : mp 2 n s z = (n % 18446744073709551616) % dm z := by simp [mp]
    rw [e1]
    clear e1
    by_cases hz : z = 1
    · subst hz
      have hd : dm 1 = 1 := rfl
      rw [hd]
      clear hd
      go_enter Tryz.func57, Tryz.ntmps57
      go_wp2
      go_ret; exact ⟨ret1 (by first | rfl | omega), rfl⟩
    · have hd : dm z = z - 1 := by unfold dm; rw [if_neg hz]
      rw [hd]
      clear hd
      go_enter Tryz.func57, Tryz.ntmps57
      go_wp2
      go_ret; refine ⟨ret1 ?_, rfl⟩
      exact wtm _ _ (by omega) (by omega)
  · subst h
    clear hk0
    have e1 : mp 3 n s z = (fnv s.data.toList : Int) % z := by simp [mp]
    have C3 := fun w => rof_any s w (by omega)
    obtain ⟨f, hf⟩ : ∃ f, (fnv s.data.toList) = f := ⟨_, rfl⟩
    rw [hf] at C3 e1
    clear hf
    rw [e1]
    clear e1
    by_cases hz : z = 1
    · subst hz
      go_enter Tryz.func57, Tryz.ntmps57
      go_wp2_with (go_at_call 78; refine (C3 _).mono ?_; rintro e w' ⟨rfl, rfl⟩)
      go_ret; exact ⟨ret1 (by first | rfl | omega | (simp; done)), rfl⟩
    · go_enter Tryz.func57, Tryz.ntmps57
      go_wp2_with (go_at_call 78; refine (C3 _).mono ?_; rintro e w' ⟨rfl, rfl⟩)
      go_ret; exact ⟨ret1 (by first | rfl | exact Int.tmod_eq_emod_of_nonneg (by omega)), rfl⟩
  · have e1 : mp k n s z = ((4 * n + k) % 18446744073709551616) % dm z := by
      rw [mp, if_neg (by omega), if_neg (by omega), if_neg (by omega)]
    rw [e1]
    clear e1
    have hu : n % 18446744073709551616 = n := by omega
    by_cases hz : z = 1
    · subst hz
      have hd : dm 1 = 1 := rfl
      rw [hd]
      clear hd
      rcases h with h | h | h
      all_goals
        subst h
        go_enter Tryz.func57, Tryz.ntmps57
        go_wp2
        go_ret; exact ⟨ret1 (by first | rfl | omega), rfl⟩
    · have hd : dm z = z - 1 := by unfold dm; rw [if_neg hz]
      rw [hd]
      clear hd
      rcases h with h | h | h
      all_goals
        subst h
        go_enter Tryz.func57, Tryz.ntmps57
        go_wp2
        go_ret; refine ⟨ret1 ?_, rfl⟩
        rw [wtm2 _ _ _ (by omega) (by omega)]

set_option maxHeartbeats 2000000 in
theorem rkey_any {S ka va ca z : Nat} {g : G} {cb : Nat → Nat} (k : V) (w : World) (h : Rp w S ka va ca z g cb) : Calls Tryz.prog 77 #[pp S, vl k.1 k.2.1 k.2.2] w fun e w' => e = .returned (.bool (decide (z ≠ 0) && (fm k && decide (k.1 ≠ 0)))) ∧ Below w.heap.size w w' := by
  have CK := rcheck_any k.1 k.2.1 k.2.2
  rw [chk_of] at CK
  have c0 := h.s0
  have hS := h.lt.1
  have HB1 : Hid (Below w.heap.size w (w.alloc (vb k.1 k.2.1 k.2.2))) := b1 _ _
  have HB2 : Hid (Below w.heap.size w ((w.alloc (vb k.1 k.2.1 k.2.2)).alloc (vb k.1 k.2.1 k.2.2))) := b2 _ _ _
  clear h
  unfold pp vl vb at *
  by_cases hz : z = 0
  · subst hz
    have e : (decide ((0 : Nat) ≠ 0) && (fm k && decide (k.1 ≠ 0))) = false := rfl
    rw [e]
    clear e CK
    have c0' : w.cell? ⟨S, 0, none⟩ = some (.slice (some ⟨ka, 0, none⟩) 0 0) := c0
    go_enter Tryz.func77, Tryz.ntmps77
    go_wp2_with fail
    go_ret
    exact ⟨rfl, HB1.out⟩
  · have hz' : (0 : Int) < (z : Int) := by omega
    rw [decide_eq_true (show z ≠ 0 from hz), Bool.true_and]
    cases hf : fm k
    · rw [hf, if_neg (by simp)] at CK
      rw [Bool.false_and]
      go_enter Tryz.func77, Tryz.ntmps77
      go_wp2_with fail
      refine (CK _).mono ?_; rintro e w' ⟨rfl, rfl⟩
      go_wp2_with fail
      go_ret
      exact ⟨rfl, HB2.out⟩
    · rw [hf, if_pos rfl] at CK
      rw [Bool.true_and]
      clear hf
      go_enter Tryz.func77, Tryz.ntmps77
      go_wp2_with fail
      refine (CK _).mono ?_; rintro e w' ⟨rfl, rfl⟩
      go_wp2_with fail
      go_ret
      exact ⟨ret_bool (by rw [Bool.eq_iff_iff]; simp), HB2.out⟩
end Go.Proofs.YtcaaaoehipcloaaGreat
