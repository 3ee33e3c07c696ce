/- The document's first example, as plain data; the walk of fixed. -/
import Derived.Test.YtonopchpnhninaaGreatCg19
import Derived.ProofKit
import Derived.OpenShut
import Derived.ChangeSlices
import Derived.ChangeOld
import Derived.SizedLaws
import Derived.Deep.Slices
import Derived.Deep.Fields
import Derived.Deep.Strs
namespace Go.Proofs.YtonopchpnhninaaGreat
open Go.RowKit
abbrev kI (n : Int) : V := (2, n, ⟨#[]⟩)
abbrev kS (s : ByteArray) : V := (3, 0, s)
def fs0 : H.St := nS (H.newSt 100) 0 0
def ft0 : TS := newT 0 0 (H.takeId (H.takeSt (H.newSt 100) 4) ((0 : Nat) : Int)) (H.takeId (H.takeSt (H.takeSt (H.newSt 100) 4) ((0 : Nat) : Int)) (3 * ((0 : Nat) : Int)))
def nxs (q : TS × H.St × Int) (k v : V) : TS × H.St × Int := tset q.1 q.2.1 k v
def fza : Nat → TS × H.St × Int
  | 0 => (ft0, fs0, 0)
  | i + 1 => nxs (fza i) (kI ((i : Int) + 1)) (kS ⟨#[97]⟩)
def fz5 := nxs (fza 4) (kS ⟨#[120]⟩) (kI 1)
def fz6 := nxs fz5 (kS ⟨#[121]⟩) (kI 2)
theorem fz6n : fz6.1.p.n = 4 ∧ fz6.1.p.z = 2 ∧ fz6.1.hint = 0 ∧ fz6.2.1.live = 14 := ⟨by kernel_rfl, by kernel_rfl, by kernel_rfl, by kernel_rfl⟩
theorem fz6g : pget fz6.1.p (kI 3) = kS ⟨#[97]⟩ ∧ pget fz6.1.p (kS ⟨#[120]⟩) = kI 1 := ⟨by kernel_rfl, by kernel_rfl⟩
theorem ok0 : Okn (H.newSt 100) 0 0 0 0 := ⟨rfl, by omega, ⟨0, rfl, by omega, by kernel_rfl⟩, .inl rfl, by kernel_rfl, by kernel_rfl, by kernel_rfl, by kernel_rfl⟩

theorem under42 : Tryz.prog.underlying 41 = some (.struct (Tryz.prog.fieldsOf 41)) := by kernel_rfl
theorem stood42 : Tryz.prog.stoodInHeld 41 = false := by kernel_rfl
theorem eql42 (x y u v x' y' u' v' : Int) (W : World) : (binOp .eql 41 (sv x y u v) (sv x' y' u' v')).run Tryz.prog W = .ok (.bool (decide (x = x' ∧ y = y' ∧ u = u' ∧ v = v'))) W := by
  unfold sv
  rw [run_eql_struct, run_equalIn_agg W _ _ _ _ under42 stood42]
  simp [go_sem]
  by_cases h1 : x = x' <;> by_cases h2 : y = y' <;> by_cases h3 : u = u' <;> by_cases h4 : v = v' <;> simp [h1, h2, h3, h4]
theorem neq42 (x y u v x' y' u' v' : Int) (W : World) : (binOp .neq 41 (sv x y u v) (sv x' y' u' v')).run Tryz.prog W = .ok (.bool (!decide (x = x' ∧ y = y' ∧ u = u' ∧ v = v'))) W := by
  unfold sv
  rw [run_neq_struct, run_equalIn_agg W _ _ _ _ under42 stood42]
  simp [go_sem]
  by_cases h1 : x = x' <;> by_cases h2 : y = y' <;> by_cases h3 : u = u' <;> by_cases h4 : v = v' <;> simp [h1, h2, h3, h4]
theorem fld0 (x y u v : Int) (W : World) : (Instr.field 41 (sv x y u v) 0).run Tryz.prog W = .ok (.int .i64 x) W := by kernel_rfl
theorem fld1 (x y u v : Int) (W : World) : (Instr.field 41 (sv x y u v) 1).run Tryz.prog W = .ok (.int .i64 y) W := by kernel_rfl
theorem fld2 (x y u v : Int) (W : World) : (Instr.field 41 (sv x y u v) 2).run Tryz.prog W = .ok (.int .i64 u) W := by kernel_rfl
theorem fld3 (x y u v : Int) (W : World) : (Instr.field 41 (sv x y u v) 3).run Tryz.prog W = .ok (.int .i64 v) W := by kernel_rfl
/-- A table that was made behind the world w. -/
def FSt (w : World) (T S hb c : Nat) (q : TS × H.St × Int) (W : World) : Prop := (∃ A b a, TT (fun g => g < w.heap.size) W T A b a S hb c q.1 q.2.1) ∧ Below w.heap.size w W
theorem FSt.below {w W W' : World} {T S hb c : Nat} {q : TS × H.St × Int} (h : FSt w T S hb c q W) (k : Below W.heap.size W W') : FSt w T S hb c q W' := by
  obtain ⟨⟨A, b, a, ht⟩, hb⟩ := h
  exact ⟨⟨A, b, a, ht.below k⟩, bthen hb hb.size k⟩
theorem FSt.set {w W : World} {T S hb c : Nat} {q : TS × H.St × Int} (h : FSt w T S hb c q W) (hc : c ≤ 700000) (k v : V) (hr : Rng k) :
    Calls Tryz.prog 9 #[tp T, vv k, vv v] W fun e w' => e = .returned (.int .i64 (nxs q k v).2.2) ∧ FSt w T S hb (c + 7) (nxs q k v) w' := by
  obtain ⟨⟨A, b, a, ht⟩, hb⟩ := h
  refine (tset_any ht hc k v hr).mono ?_
  rintro e w' ⟨rfl, ⟨A', b', a', h'⟩, kk⟩
  exact ⟨rfl, ⟨A', b', a', h'⟩, hb.trans (kk.below hb.size (fun g hg => hg))⟩
theorem FSt.get {w W : World} {T S hb c : Nat} {q : TS × H.St × Int} (h : FSt w T S hb c q W) (hc : c ≤ 700000) (k : V) (hr : Rng k) :
    Calls Tryz.prog 11 #[tp T, vv k] W fun e w' => e = .returned (vv (pget q.1.p k)) ∧ FSt w T S hb (c + 1) ({ q.1 with pr := q.1.pr + (prd q.1.p k : Nat) }, q.2.1, q.2.2) w' := by
  obtain ⟨⟨A, b, a, ht⟩, hb⟩ := h
  refine (tget_any ht (by omega) k hr).mono ?_
  rintro e w' ⟨rfl, h', kk⟩
  exact ⟨rfl, ⟨A, b, a, h'⟩, hb.trans (kk.below hb.size (fun g hg => hg))⟩
theorem FSt.stats {w W : World} {T S hb c : Nat} {q : TS × H.St × Int} (h : FSt w T S hb c q W) : Calls Tryz.prog 15 #[tp T] W fun e w' => e = .returned (ts q.1) ∧ FSt w T S hb c q w' := by
  have h' := h
  obtain ⟨⟨A, b, a, ht⟩, hb⟩ := h
  refine (stats_any ht.tm).mono ?_
  rintro e w' ⟨rfl, kk⟩
  exact ⟨rfl, h'.below kk⟩
theorem FSt.live {w W : World} {T S hb c : Nat} {q : TS × H.St × Int} (h : FSt w T S hb c q W) : Calls Tryz.prog 19 #[tp S] W fun e w' => e = .returned (.int .i64 q.2.1.live) ∧ w' = W := by
  obtain ⟨⟨A, b, a, ht⟩, hb⟩ := h
  obtain ⟨v, hp⟩ := ht.hp
  exact H.live_any _ S _ hp.c1
set_option maxRecDepth 20000 in
set_option maxHeartbeats 4000000 in
theorem fixed_any (w : World) : Calls Tryz.prog 6 #[] w fun e w' => e = .returned (.bool true) ∧ Below w.heap.size w w' := by
  have iv := H.Inv.new 100 (by omega) (by omega)
  have C1 := H.new_walk w 100 (by omega) (by omega)
  have hp := new_hp w 100 (fun g => g < w.heap.size) (fun g q => q)
  have B1 := b2 w (.map #[] 0) (.cells #[.int .i64 100, .int .i64 0, .int .i64 0, .slice none 0 0, .map (some w.heap.size)] 93)
  obtain ⟨W1, hW1⟩ : ∃ W1, (w.alloc (.map #[] 0)).alloc (.cells #[.int .i64 100, .int .i64 0, .int .i64 0, .slice none 0 0, .map (some w.heap.size)] 93) = W1 := ⟨_, rfl⟩
  rw [hW1] at hp B1 C1
  have C2 := ok0.new hp (by omega) iv
  have HB1 : Hid (Below w.heap.size w W1) := B1
  generalize hS : w.heap.size + 1 = S at *
  clear iv hp B1
  go_enter Tryz.func6, Tryz.ntmps6
  go_wp2_with fail
  refine C1.mono ?_; rintro e w1 ⟨rfl, hw1⟩; rw [hw1]; clear hw1 C1
  go_wp2_with fail
  refine C2.mono ?_; rintro e W2 ⟨T, A, b, a, rfl, tt2, kk2⟩
  have HT : Hid (FSt w T S w.heap.size 3 (fza 0) W2) := ⟨⟨A, b, a, tt2⟩, HB1.out.trans (kk2.below HB1.out.size (fun g hg => hg))⟩
  clear C2 tt2 kk2
  go_wp2_with fail
  go_loopw [5] (fun iw wr => ∃ i : Nat, iw = .int .i64 ((i : Int) + 1) ∧ i ≤ 4 ∧ Hid (FSt w T S w.heap.size (3 + 7 * i) (fza i) wr)) (fun iw _ => 5 - (intOf iw).toNat)
  case atStart => exact ⟨0, by go_num, by omega, HT⟩
  case round =>
    obtain ⟨i, rfl, hi, HR⟩ := hrel
    clear HT
    by_cases hlt : i < 4
    · have hle : (i : Int) + 1 ≤ 4 := by omega
      have CI := fun W => mkI ((i : Int) + 1) W
      have CS := fun W => mkS ⟨#[97]⟩ W
      unfold vl at CI CS
      go_wp2_with fail
      refine (CI _).mono ?_; rintro e W3 ⟨rfl, b3⟩
      have H3 : Hid (FSt w T S w.heap.size (3 + 7 * i) (fza i) W3) := HR.out.below b3
      clear b3 HR
      go_wp2_with fail
      refine (CS _).mono ?_; rintro e W4 ⟨rfl, b4⟩
      have C4 := (H3.out.below b4).set (by omega) (kI ((i : Int) + 1)) (kS ⟨#[97]⟩) (by constructor <;> simp <;> omega)
      unfold vv vl tp at C4
      clear b4 H3
      go_wp2_with fail
      refine C4.mono ?_; rintro e W5 ⟨rfl, h5⟩
      have H5 : Hid (FSt w T S w.heap.size (3 + 7 * (i + 1)) (fza (i + 1)) W5) := h5
      clear C4 h5
      go_wp2_with fail
      go_round
      case rel => exact ⟨i + 1, by go_num, by omega, H5⟩
      case measure => simp [intOf]; omega
    · obtain rfl : i = 4 := by omega
      have hle : ¬ ((4 : Int) + 1 ≤ 4) := by omega
      have C1 := fun W => mkS ⟨#[120]⟩ W
      have C2 := fun W => mkI 1 W
      have C3 := fun W => mkS ⟨#[121]⟩ W
      have C4 := fun W => mkI 2 W
      unfold vl at C1 C2 C3 C4
      obtain ⟨W3, hW3⟩ : ∃ W3, W3 = wr := ⟨_, rfl⟩
      rw [← hW3] at HR ⊢
      clear hW3
      go_wp2_with fail
      refine (C1 _).mono ?_; rintro e W4 ⟨rfl, b4⟩
      have H4 : Hid (FSt w T S w.heap.size (3 + 7 * 4) (fza 4) W4) := HR.out.below b4
      clear b4 HR
      go_wp2_with fail
      refine (C2 _).mono ?_; rintro e W5 ⟨rfl, b5⟩
      have D5 := (H4.out.below b5).set (by omega) (kS ⟨#[120]⟩) (kI 1) (by constructor <;> simp)
      unfold vv vl tp at D5
      clear b5 H4
      go_wp2_with fail
      refine D5.mono ?_; rintro e W6 ⟨rfl, h6⟩
      have H6 : Hid (FSt w T S w.heap.size (3 + 7 * 4 + 7) fz5 W6) := h6
      clear D5 h6
      go_wp2_with fail
      refine (C3 _).mono ?_; rintro e W7 ⟨rfl, b7⟩
      have H7 : Hid (FSt w T S w.heap.size (3 + 7 * 4 + 7) fz5 W7) := H6.out.below b7
      clear b7 H6
      go_wp2_with fail
      refine (C4 _).mono ?_; rintro e W8 ⟨rfl, b8⟩
      have D8 := (H7.out.below b8).set (by omega) (kS ⟨#[121]⟩) (kI 2) (by constructor <;> simp)
      unfold vv vl tp at D8
      clear b8 H7 C1 C2 C3 C4
      go_wp2_with fail
      refine D8.mono ?_; rintro e W9 ⟨rfl, h9⟩
      have H9 : Hid (FSt w T S w.heap.size 45 fz6 W9) := h9
      have CT := H9.out.stats
      clear D8 h9
      generalize (nxs fz5 (kS ⟨#[121]⟩) (kI 2)).2.2 = u1
      generalize (nxs (fza 4) (kS ⟨#[120]⟩) (kI 1)).2.2 = u2
      unfold ts sv tp at CT
      rw [fz6n.1, fz6n.2.1, fz6n.2.2.1] at CT
      have HG : Hid (∀ W, FSt w T S w.heap.size 45 fz6 W → Calls Tryz.prog 11 #[.pointer (some ⟨T, 0, none⟩), .agg #[.int .i64 2, .int .i64 3, .string ⟨#[]⟩]] W fun e w' => e = .returned (.agg #[.int .i64 3, .int .i64 0, .string ⟨#[97]⟩]) ∧ FSt w T S w.heap.size 46 ({ fz6.1 with pr := fz6.1.pr + (prd fz6.1.p (kI 3) : Nat) }, fz6.2.1, fz6.2.2) w') := fun W hW => by
        have h0 := hW.get (by omega) (kI 3) (by constructor <;> simp)
        rw [fz6g.1] at h0
        exact h0
      have HG2 : Hid (∀ W, FSt w T S w.heap.size 46 ({ fz6.1 with pr := fz6.1.pr + (prd fz6.1.p (kI 3) : Nat) }, fz6.2.1, fz6.2.2) W → Calls Tryz.prog 11 #[.pointer (some ⟨T, 0, none⟩), .agg #[.int .i64 3, .int .i64 0, .string ⟨#[120]⟩]] W fun e w' => e = .returned (.agg #[.int .i64 2, .int .i64 1, .string ⟨#[]⟩]) ∧ ∃ q, FSt w T S w.heap.size 47 q w' ∧ q.2.1.live = 14) := fun W hW => by
        have h0 := hW.get (by omega) (kS ⟨#[120]⟩) (by constructor <;> simp)
        have e0 : pget ({ fz6.1 with pr := fz6.1.pr + (prd fz6.1.p (kI 3) : Nat) } : TS).p (kS ⟨#[120]⟩) = kI 1 := fz6g.2
        rw [e0] at h0
        refine h0.mono ?_
        rintro e w' ⟨rfl, h1⟩
        exact ⟨rfl, _, h1, fz6n.2.2.2⟩
      have HST : Hid (∀ W, FSt w T S w.heap.size 45 fz6 W → Calls Tryz.prog 15 #[.pointer (some ⟨T, 0, none⟩)] W fun e w' => e = .returned (.agg #[.int .i64 4, .int .i64 2, .int .i64 (fz6.1.p.g.f : Nat), .int .i64 0]) ∧ FSt w T S w.heap.size 45 fz6 w') := fun W hW => by
        have h0 := hW.stats
        unfold ts sv at h0
        rw [fz6n.1, fz6n.2.1, fz6n.2.2.1] at h0
        exact h0
      have Q1 := fun W => eql42 4 2 (fz6.1.p.g.f : Nat) 0 4 2 (fz6.1.p.g.f : Nat) 0 W
      unfold sv at Q1
      rw [decide_eq_true ⟨rfl, rfl, rfl, rfl⟩] at Q1
      have CI3 := fun W => mkI 3 W
      have CSa := fun W => mkS ⟨#[97]⟩ W
      have CSx := fun W => mkS ⟨#[120]⟩ W
      have CI1 := fun W => mkI 1 W
      have Q2 := fun W => eql32 3 0 3 0 ⟨#[97]⟩ ⟨#[97]⟩ W
      have Q3 := fun W => eql32 2 1 2 1 ⟨#[]⟩ ⟨#[]⟩ W
      unfold vl at CI3 CSa CSx CI1 Q2 Q3
      rw [decide_eq_true rfl] at Q2 Q3
      clear CT
      generalize (fz6.1.p.g.f : Nat) = ff at *
      go_wp2_with fail
      refine (HST.out W9 H9.out).mono ?_; rintro e W10 ⟨rfl, h10⟩
      have H10 : Hid (FSt w T S w.heap.size 45 fz6 W10) := h10
      clear h10 H9
      go_wp2_with fail
      refine (HST.out W10 H10.out).mono ?_; rintro e W11 ⟨rfl, h11⟩
      have H11 : Hid (FSt w T S w.heap.size 45 fz6 W11) := h11
      clear h11 H10
      have F2 := fun W => fld2 4 2 ff 0 W
      unfold sv at F2
      go_wp2_with fail
      refine (CI3 _).mono ?_; rintro e W12 ⟨rfl, b12⟩
      have D12 := HG.out W12 (H11.out.below b12)
      clear b12 CI3
      go_wp2_with fail
      refine D12.mono ?_; rintro e W13 ⟨rfl, h13⟩
      have H13 : Hid _ := h13
      clear D12 H11
      go_wp2_with fail
      refine (CSa _).mono ?_; rintro e W14 ⟨rfl, b14⟩
      have h14 := h13.below b14
      have HH14 : Hid (∀ W, Below W14.heap.size W14 W → FSt w T S w.heap.size 46 ({ fz6.1 with pr := fz6.1.pr + (prd fz6.1.p (kI 3) : Nat) }, fz6.2.1, fz6.2.2) W) := fun W hW => h14.below hW
      clear b14 CSa h13 H13 h14
      go_wp2_with fail
      refine (CSx _).mono ?_; rintro e W15 ⟨rfl, b15⟩
      have D15 := HG2.out W15 (HH14.out W15 b15)
      clear b15 CSx
      go_wp2_with fail
      refine D15.mono ?_; rintro e W16 ⟨rfl, q, h16, hl⟩
      have H16 : Hid (FSt w T S w.heap.size 47 q W16 ∧ q.2.1.live = 14) := ⟨h16, hl⟩
      clear D15 h16 hl
      go_wp2_with fail
      refine (CI1 _).mono ?_; rintro e W17 ⟨rfl, b17⟩
      have h17 := H16.out.1.below b17
      have CL := h17.live
      unfold tp at CL
      rw [H16.out.2] at CL
      have HB17 : Hid (Below w.heap.size w W17) := h17.2
      clear b17 CI1 h17 H16
      go_wp2_with fail
      refine CL.mono ?_; rintro e W18 ⟨rfl, hw18⟩; rw [hw18]; clear hw18 CL
      go_wp2_with fail
      go_ret
      exact ⟨rfl, HB17.out⟩
end Go.Proofs.YtonopchpnhninaaGreat

/- The walk of cut. -/
namespace Go.Proofs.YtonopchpnhninaaGreat
open Go.RowKit

def cN (x : Int) : Int := if x ≤ 65536 then min x 2000 else x
set_option maxRecDepth 20000 in
set_option maxHeartbeats 4000000 in
theorem cut_any (l x y : Int) (a : Option Addr) (n cap : Nat) (hn : n ≤ cap) (w : World) :
    Calls Tryz.prog 7 #[cv l x y (.slice a n cap)] w fun e w' => e = .returned (cv l (cN x) (cN y) (.slice a (min n 300) cap)) ∧ Below w.heap.size w w' := by
  have hm : (min (n : Int) 300).toNat = min n 300 := by omega
  have HM : Hid (∀ o1 o2, Below w.heap.size w ((w.alloc o1).alloc o2)) := fun o1 o2 => b2 w o1 o2
  unfold cv
  by_cases hx : x ≤ 65536
  · have ex : cN x = min x 2000 := if_pos hx
    rw [ex]
    by_cases hy : y ≤ 65536
    · have ey : cN y = (min y 2000) := if_pos hy
      rw [ey]
      clear ex ey
      go_enter Tryz.func7, Tryz.ntmps7
      go_wp2_with fail
      refine bodyPost_ret (v := .agg #[.int .i64 l, .int .i64 (min x 2000), .int .i64 (min y 2000), .slice a (min n 300) cap]) (by simp [results, Tryz.results7, go_sem]) rfl ⟨rfl, HM.out _ _⟩
    · have ey : cN y = y := if_neg hy
      rw [ey]
      clear ex ey
      go_enter Tryz.func7, Tryz.ntmps7
      go_wp2_with fail
      refine bodyPost_ret (v := .agg #[.int .i64 l, .int .i64 (min x 2000), .int .i64 y, .slice a (min n 300) cap]) (by simp [results, Tryz.results7, go_sem]) rfl ⟨rfl, HM.out _ _⟩
  · have ex : cN x = x := if_neg hx
    rw [ex]
    by_cases hy : y ≤ 65536
    · have ey : cN y = (min y 2000) := if_pos hy
      rw [ey]
      clear ex ey
      go_enter Tryz.func7, Tryz.ntmps7
      go_wp2_with fail
      refine bodyPost_ret (v := .agg #[.int .i64 l, .int .i64 x, .int .i64 (min y 2000), .slice a (min n 300) cap]) (by simp [results, Tryz.results7, go_sem]) rfl ⟨rfl, HM.out _ _⟩
    · have ey : cN y = y := if_neg hy
      rw [ey]
      clear ex ey
      go_enter Tryz.func7, Tryz.ntmps7
      go_wp2_with fail
      refine bodyPost_ret (v := .agg #[.int .i64 l, .int .i64 x, .int .i64 y, .slice a (min n 300) cap]) (by simp [results, Tryz.results7, go_sem]) rfl ⟨rfl, HM.out _ _⟩
end Go.Proofs.YtonopchpnhninaaGreat

/- How a case that came in is read: a limit, two sizes, a list of operations. -/
namespace Go.Proofs.YtonopchpnhninaaGreat
open Go.RowKit Go.ChangeShapes Go.WideShapes Go.ChangeAt Go.Deep

/-- An operation's eight cells. -/
def oc (q : Int × V × V × Int) : Nat → Value
  | 0 => .int .i64 q.1
  | 1 => .int .i64 q.2.1.1
  | 2 => .int .i64 q.2.1.2.1
  | 3 => .string q.2.1.2.2
  | 4 => .int .i64 q.2.2.1.1
  | 5 => .int .i64 q.2.2.1.2.1
  | 6 => .string q.2.2.1.2.2
  | _ => .int .i64 q.2.2.2
theorem lt8 {j : Nat} (h : j < 8) : j = 0 ∨ j = 1 ∨ j = 2 ∨ j = 3 ∨ j = 4 ∨ j = 5 ∨ j = 6 ∨ j = 7 := by omega
/-- The list of L operations that v is, all below block N. -/
def Ops (N : Nat) (w : World) (a : Option Addr) (L : Nat) (Q : Nat → Int × V × V × Int) : Prop :=
  (∀ i, i < L → Rng (Q i).2.1 ∧ -9223372036854775808 ≤ (Q i).2.2.2 ∧ (Q i).2.2.2 ≤ 9223372036854775807) ∧ (0 < L → ∃ b off, a = some ⟨b, off, none⟩ ∧ b < N ∧ ∀ i, i < L → ∀ j, j < 8 → w.cell? ⟨b, off + i * 8 + j, none⟩ = some (oc (Q i) j))
theorem Ops.below {N : Nat} {w w' : World} {a : Option Addr} {L : Nat} {Q : Nat → Int × V × V × Int} (h : Ops N w a L Q) (hb : Below N w w') : Ops N w' a L Q := by
  refine ⟨h.1, fun hl => ?_⟩
  obtain ⟨b, off, rfl, hg, hx⟩ := h.2 hl
  exact ⟨b, off, rfl, hg, fun i hi j hj => by rw [hb.cell (by exact hg)]; exact hx i hi j hj⟩
theorem Ops.cut {N : Nat} {w : World} {a : Option Addr} {L m : Nat} {Q : Nat → Int × V × V × Int} (h : Ops N w a L Q) (hm : m ≤ L) : Ops N w a m Q := by
  refine ⟨fun i hi => h.1 i (by omega), fun hl => ?_⟩
  obtain ⟨b, off, rfl, hg, hx⟩ := h.2 (by omega)
  exact ⟨b, off, rfl, hg, fun i hi j hj => hx i (by omega) j hj⟩
theorem Ops.at {N : Nat} {w : World} {a : Option Addr} {L : Nat} {Q : Nat → Int × V × V × Int} (h : Ops N w a L Q) {i : Nat} (hi : i < L) : ∃ b off, a = some ⟨b, off, none⟩ ∧ b < N ∧
    w.cell? ⟨b, off + i * 8, none⟩ = some (.int .i64 (Q i).1) ∧ w.cell? ⟨b, off + i * 8 + 1, none⟩ = some (.int .i64 (Q i).2.1.1) ∧ w.cell? ⟨b, off + i * 8 + 2, none⟩ = some (.int .i64 (Q i).2.1.2.1) ∧ w.cell? ⟨b, off + i * 8 + 3, none⟩ = some (.string (Q i).2.1.2.2) ∧
    w.cell? ⟨b, off + i * 8 + 4, none⟩ = some (.int .i64 (Q i).2.2.1.1) ∧ w.cell? ⟨b, off + i * 8 + 5, none⟩ = some (.int .i64 (Q i).2.2.1.2.1) ∧ w.cell? ⟨b, off + i * 8 + 6, none⟩ = some (.string (Q i).2.2.1.2.2) ∧ w.cell? ⟨b, off + i * 8 + 7, none⟩ = some (.int .i64 (Q i).2.2.2) := by
  obtain ⟨b, off, rfl, hg, hx⟩ := h.2 (by omega)
  exact ⟨b, off, rfl, hg, hx i hi 0 (by omega), hx i hi 1 (by omega), hx i hi 2 (by omega), hx i hi 3 (by omega), hx i hi 4 (by omega), hx i hi 5 (by omega), hx i hi 6 (by omega), hx i hi 7 (by omega)⟩

theorem cells3 : Tryz.prog.cellsOf 3 = 1 := by kernel_rfl
theorem cells9 : Tryz.prog.cellsOf 9 = 1 := by kernel_rfl
theorem cells22 : Tryz.prog.cellsOf 22 = 1 := by kernel_rfl
theorem cells34 : Tryz.prog.cellsOf 35 = 3 := by kernel_rfl
theorem cells36 : Tryz.prog.cellsOf 45 = 8 := by kernel_rfl
theorem cells24 : Tryz.prog.cellsOf 24 = 4 := by kernel_rfl
theorem laidOut : laidOutB Tryz.prog = true := by kernel_rfl
theorem trod_struct4 {H : Type} {enc : TypeId × Value → H} {P : Program} {w : World} {base : Nat} {spare : Nat → Bool} {held : Bool} {t : TypeId} {f0 f1 f2 f3 : Field} {fuel : Nat} {cs : List Value} {x : DataW H × List MemPlace} (ht : P.underlying t = some (.struct #[f0, f1, f2, f3])) (h : DataW.trod enc P w base spare held fuel t cs = some x) :
    ∃ y0 y1 y2 y3 n, x = (.agg [y0.1, y1.1, y2.1, y3.1], y0.2 ++ (y1.2 ++ (y2.2 ++ y3.2))) ∧ cs.length = P.cellsOf t ∧ DataW.trod enc P w base spare held n f0.type ((cs.drop f0.offset).take (P.cellsOf f0.type)) = some y0 ∧
      DataW.trod enc P w base spare held n f1.type ((cs.drop f1.offset).take (P.cellsOf f1.type)) = some y1 ∧ DataW.trod enc P w base spare held n f2.type ((cs.drop f2.offset).take (P.cellsOf f2.type)) = some y2 ∧ DataW.trod enc P w base spare held n f3.type ((cs.drop f3.offset).take (P.cellsOf f3.type)) = some y3 := by
  obtain ⟨xs, n, _, rfl, hl, hlen, hf⟩ := DataW.trod_struct ht h
  match xs, hlen with
  | [y0, y1, y2, y3], _ => exact ⟨y0, y1, y2, y3, n, by simp, hl, by simpa using hf 0 f0 rfl, by simpa using hf 1 f1 rfl, by simpa using hf 2 f2 rfl, by simpa using hf 3 f3 rfl⟩

theorem elem_val {H : Type} {enc : TypeId × Value → H} {W : World} {base : Nat} {sp : Nat → Bool} {held : Bool} {fuel : Nat} {cs : List Value} {x : DataW H × List MemPlace}
    (hlen : cs.length = 3) (hf : DataW.trod enc Tryz.prog W base sp held fuel 35 cs = some x) :
    ∃ (k n : Int) (s : ByteArray), cs = [.int .i64 k, .int .i64 n, .string s] ∧ (Lit.int .i64 n).wf = true := by
  obtain ⟨c0, c1, c2, rfl⟩ : ∃ c0 c1 c2, cs = [c0, c1, c2] := by
    match cs, hlen with
    | [c0, c1, c2], _ => exact ⟨c0, c1, c2, rfl⟩
  obtain ⟨y0, y1, y2, m, hx, _, t0, t1, t2⟩ := trod_struct3 Tryz.underlying35 hf
  obtain ⟨k, e0, f0, g0⟩ := DataW.trod_int Tryz.underlying3 t0
  obtain ⟨n, e1, f1, g1⟩ := DataW.trod_int Tryz.underlying3 t1
  obtain ⟨s, e2, f2, g2⟩ := DataW.trod_string Tryz.underlying9 t2
  simp [cells3, cells9] at e0 e1 e2
  subst e0 e1 e2
  exact ⟨k, n, s, rfl, g1⟩
set_option maxRecDepth 100000 in
theorem elem_op {H : Type} {enc : TypeId × Value → H} {W : World} {base : Nat} {sp : Nat → Bool} {held : Bool} {fuel : Nat} {cs : List Value} {x : DataW H × List MemPlace}
    (hlen : cs.length = 8) (hf : DataW.trod enc Tryz.prog W base sp held fuel 45 cs = some x) : ∃ q : Int × V × V × Int, (∀ j, j < 8 → cs[j]? = some (oc q j)) ∧ Rng q.2.1 ∧ -9223372036854775808 ≤ q.2.2.2 ∧ q.2.2.2 ≤ 9223372036854775807 := by
  obtain ⟨c0, c1, c2, c3, c4, c5, c6, c7, rfl⟩ : ∃ c0 c1 c2 c3 c4 c5 c6 c7, cs = [c0, c1, c2, c3, c4, c5, c6, c7] := by
    match cs, hlen with
    | [c0, c1, c2, c3, c4, c5, c6, c7], _ => exact ⟨c0, c1, c2, c3, c4, c5, c6, c7, rfl⟩
  obtain ⟨y0, y1, y2, y3, m, hx, _, t0, t1, t2, t3⟩ := trod_struct4 Tryz.underlying45 hf
  obtain ⟨k, e0, f0, g0⟩ := DataW.trod_int Tryz.underlying3 t0
  obtain ⟨nn, e3, f3, g3⟩ := DataW.trod_int Tryz.underlying3 t3
  simp [cells3] at e0 e3
  subst e0 e3
  simp only [cells34] at t1 t2
  obtain ⟨a1, a2, a3, e1, g1⟩ := elem_val (by simp) t1
  obtain ⟨b1, b2, b3, e2, g2⟩ := elem_val (by simp) t2
  simp at e1 e2
  obtain ⟨rfl, rfl, rfl⟩ := e1
  obtain ⟨rfl, rfl, rfl⟩ := e2
  refine ⟨(k, (a1, a2, a3), (b1, b2, b3), nn), fun j hj => ?_, ?_, ?_⟩
  · rcases lt8 hj with rfl | rfl | rfl | rfl | rfl | rfl | rfl | rfl <;> rfl
  · have := bounds_i64 g1
    exact ⟨this.1, this.2⟩
  · exact bounds_i64 g3
set_option maxRecDepth 100000 in
theorem open_case {H : Type} {enc : TypeId × Value → H} {W : World} {base b0 : Nat} {held : Bool} {r : Reach} {v : Value} {d : DataW H} {ps : List MemPlace}
    (hval : Value.okWide Tryz.prog W r b0 24 v) (hd : DataW.Trod enc Tryz.prog W base (fun _ => true) held 24 v d ps) :
    ∃ (l x y : Int) (a : Option Addr) (L cap : Nat) (Q : Nat → Int × V × V × Int), v = cv l x y (.slice a L cap) ∧ L ≤ cap ∧ Ops W.heap.size W a L Q := by
  obtain ⟨cs, rfl, h2⟩ := okWide_struct Tryz.underlying24 hval
  rw [cells24] at h2
  obtain ⟨ll⟩ := cs
  obtain ⟨c0, c1, c2, c3, rfl⟩ : ∃ c0 c1 c2 c3, ll = [c0, c1, c2, c3] := by
    match ll, h2 with
    | [c0, c1, c2, c3], _ => exact ⟨c0, c1, c2, c3, rfl⟩
  obtain ⟨fuel, hf⟩ := hd
  obtain ⟨y0, y1, y2, y3, m, hx, _, t0, t1, t2, t3⟩ := trod_struct4 Tryz.underlying24 hf
  obtain ⟨l, e0, f0, g0⟩ := DataW.trod_int Tryz.underlying3 t0
  obtain ⟨x, e1, f1, g1⟩ := DataW.trod_int Tryz.underlying3 t1
  obtain ⟨y, e2, f2, g2⟩ := DataW.trod_int Tryz.underlying3 t2
  simp [Value.cells, cells3] at e0 e1 e2
  subst e0 e1 e2
  rw [cells22] at t3
  rcases open_slice Tryz.underlying22 t3 with ⟨h0, _⟩ | ⟨a, len, cap, m, n, D, Pl, h0, hb, hl, hm, hmm, hx, he⟩
  · simp [Value.cells] at h0
    subst h0
    exact ⟨l, x, y, none, 0, 0, fun _ => (0, nil, nil, 0), rfl, Nat.le_refl _, fun i hi => absurd hi (Nat.not_lt_zero _), fun h => absurd h (Nat.lt_irrefl _)⟩
  · simp only [if_true] at hmm
    subst hmm
    simp [Value.cells] at h0
    subst h0
    have each : ∀ i, i < m → ∃ q : Int × V × V × Int, (∀ j, j < 8 → W.cell? (a.add (i * 8 + j)) = some (oc q j)) ∧ Rng q.2.1 ∧ -9223372036854775808 ≤ q.2.2.2 ∧ q.2.2.2 ≤ 9223372036854775807 := by
      intro i hi
      obtain ⟨cs', h1, h2⟩ := he i hi
      rw [cells36] at h1
      obtain ⟨_, hlen, hcell⟩ := World.cells?_some h1
      obtain ⟨q, hq, hr⟩ := elem_op hlen h2
      refine ⟨q, fun j hj => ?_, hr⟩
      have := hcell j (by omega)
      rw [Addr.add_add] at this
      rw [this]
      exact hq j hj
    obtain ⟨Q, hQ⟩ : ∃ Q : Nat → Int × V × V × Int, ∀ i, i < m → (∀ j, j < 8 → W.cell? (a.add (i * 8 + j)) = some (oc (Q i) j)) ∧ Rng (Q i).2.1 ∧ -9223372036854775808 ≤ (Q i).2.2.2 ∧ (Q i).2.2.2 ≤ 9223372036854775807 :=
      ⟨fun i => if h : i < m then (each i h).choose else (0, nil, nil, 0), fun i hi => by
        simp only [dif_pos hi]
        exact (each i hi).choose_spec⟩
    refine ⟨l, x, y, some a, len, m, Q, rfl, hl, fun i hi => (hQ i (by omega)).2, fun h0 => ?_⟩
    have hc0 := (hQ 0 (by omega)).1 0 (by omega)
    have ha : a.add (0 * 8 + 0) = a := rfl
    rw [ha] at hc0
    obtain ⟨b, off, spot⟩ := a
    have hs : spot = none := by
      cases spot with
      | none => rfl
      | some q => unfold World.cell? at hc0; split at hc0 <;> simp at hc0
    subst hs
    have hadd : ∀ i, (Addr.add ⟨b, off, none⟩ i) = ⟨b, off + i, none⟩ := fun i => by
      by_cases hj0 : i = 0
      · subst hj0; rfl
      · simp [Addr.add, hj0]
    refine ⟨b, off, rfl, World.block_lt_of_cell? W _ hc0, fun i hi j hj => ?_⟩
    have := (hQ i (by omega)).1 j hj
    rw [hadd, ← Nat.add_assoc] at this
    exact this
end Go.Proofs.YtonopchpnhninaaGreat
