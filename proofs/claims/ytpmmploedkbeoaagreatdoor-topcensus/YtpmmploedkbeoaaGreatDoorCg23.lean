/- The walk of Play. -/
import Derived.Test.YtpmmploedkbeoaaGreatDoorCg22
import Derived.Maps.AppendAt
import Derived.ProofKit
import Derived.OpenShut
import Derived.ChangeSlices
import Derived.ChangeOld
import Derived.SizedLaws
import Derived.Deep.Slices
import Derived.Deep.Fields
import Derived.Deep.Strs
import Derived.Lib.SmallJoins
import Derived.Deep.RegionHeld3
namespace Go.Proofs.YtpmmploedkbeoaaGreatDoor
open Go.RowKit

/-- What Play answers. -/
structure PlP (K : Nat → Int) (Fs : Nat → Nat → V) (w : World) (n : Nat) (e : Ending) (w' : World) : Prop where
  ex : ∃ R t0 s0 No, e = .returned (.tuple #[.slice (some ⟨R, 0, none⟩) n n, .int .i64 0]) ∧ Ini t0 s0 ∧ (∀ j, j + 1 ≤ n → TI (stA K Fs t0 s0 j).1.p ∧ H.Inv 0 (stA K Fs t0 s0 j).2) ∧ ∀ j, j < n → RpA No w' w.heap.size R j (rpA K Fs t0 s0 j).1 (rpA K Fs t0 s0 j).2
  bl : Below w.heap.size w w'
set_option maxRecDepth 20000 in
set_option maxHeartbeats 4000000 in
theorem play_any {w : World} {ad : Option Addr} {n cp : Nat} {O : Nat → Opv} (hO : Ol w ad n O) (hn : 1 ≤ n) (hn2 : n ≤ 1000) (h0 : O 0 = ⟨7, ⟨#[]⟩, none, 0, 0, 0, 0⟩) (Fs : Nat → Nat → V) (hv : ∀ j, j + 1 < n → Vo (fun g => g < w.heap.size) w (O (j + 1)) (Fs j))
    (hs : ∀ t0 s0 i, Ini t0 s0 → i < n → (∀ j, j ≤ i → TI (stA (fun j => (O (j + 1)).k) Fs t0 s0 j).1.p ∧ H.Inv 0 (stA (fun j => (O (j + 1)).k) Fs t0 s0 j).2) → (wl (stA (fun j => (O (j + 1)).k) Fs t0 s0 i).1.p).length ≤ 500) :
    Calls Tryz.prog 6 #[.int .i64 0, .int .i64 400000, .slice ad n cp] w (PlP (fun j => (O (j + 1)).k) Fs w n) := by
  have hk : ∀ j, j < n → 1 ≤ (O j).k ∧ (O j).k ≤ 14 := fun j hj => by
    cases j with
    | zero => rw [h0]; exact ⟨by decide, by decide⟩
    | succ j => rcases (hv j hj).kk with e | e | e | e <;> rw [e] <;> exact ⟨by decide, by decide⟩
  have C1 := mnew_any w
  have CO := fun W (k : Below w.heap.size w W) => ocontains_any (c := cp) (hO.below k) hn2 hk
  have hb : ¬ (1000 : Int) < (n : Int) := by omega
  have HO : Hid (Ol w ad n O ∧ (∀ j, j + 1 < n → Vo (fun g => g < w.heap.size) w (O (j + 1)) (Fs j)) ∧ O 0 = ⟨7, ⟨#[]⟩, none, 0, 0, 0, 0⟩) := ⟨hO, hv, h0⟩
  obtain ⟨K, hK⟩ : ∃ K : Nat → Int, (fun j => (O (j + 1)).k) = K := ⟨_, rfl⟩
  have HK : Hid (∀ j, (O (j + 1)).k = K j) := fun j => by rw [← hK]
  rw [hK] at hs ⊢
  have HS : Hid (∀ t0 s0 i, Ini t0 s0 → i < n → (∀ j, j ≤ i → TI (stA K Fs t0 s0 j).1.p ∧ H.Inv 0 (stA K Fs t0 s0 j).2) → (wl (stA K Fs t0 s0 i).1.p).length ≤ 500) := hs
  clear hk hO hv h0 hs hK
  go_enter Tryz.func6, Tryz.ntmps6
  go_wp2_with fail
  refine C1.mono ?_; rintro e w1 ⟨M, S, hb1, rfl, m0, bl, hM⟩
  have CC := CO w1 bl
  have HM : Hid (M0 (fun g => g < w.heap.size ∨ g = M) w1 M S hb1 0 ∧ Below w.heap.size w w1 ∧ w.heap.size ≤ M) := ⟨m0, bl, hM⟩
  clear C1 CO m0 bl hM
  go_wp2_with fail
  refine CC.mono ?_; rintro e w2 ⟨rfl, b2'⟩
  have HI : Hid (LI K Fs w M S hb1 w2.heap.size n 0 (w2.alloc (.cells (zeros11 n) 35))) := by
    have m2 := HM.out.1.below b2'
    have b3 := b1 w2 (.cells (zeros11 n) 35)
    obtain ⟨vb, hp⟩ := m2.hp
    have bb := bthen HM.out.2.1 HM.out.2.1.size b2'
    refine ⟨bthen bb bb.size b3, fun j _ hj => made_reply w2 n j hj, .inl ⟨rfl, m2.mc.below b3, ⟨vb, Hp.sub (Hp.news hp b3) (fun g q => ?_)⟩, .inr (.inl rfl)⟩⟩
    rcases q with q | q | q
    · exact .inl (.inl q)
    · exact .inl (.inr q)
    · exact .inr ⟨by omega, by rw [q]; simp⟩
  have HMR : Hid (w.heap.size ≤ M ∧ M < w2.heap.size) := ⟨HM.out.2.2, Nat.lt_of_lt_of_le HM.out.1.mc.lt b2'.size⟩
  have hm := make_replies n (by omega) w2
  obtain ⟨w3, hw3⟩ : ∃ w3, w2.alloc (.cells (zeros11 n) 35) = w3 := ⟨_, rfl⟩
  rw [hw3] at HI hm
  obtain ⟨R, hR⟩ : ∃ R, w2.heap.size = R := ⟨_, rfl⟩
  rw [hR] at HI hm HMR
  clear CC b2' HM hw3 hR
  go_wp2_with fail
  clear hm
  go_loopw [35] (fun iw wr => ∃ i : Nat, iw = .int .i64 (i : Nat) ∧ i ≤ n ∧ Hid (LI K Fs w M S hb1 R n i wr)) (fun iw _ => n - (intOf iw).toNat)
  case atStart => exact ⟨0, rfl, by omega, HI⟩
  case round =>
    clear HI
    obtain ⟨i, rfl, hi, HI⟩ := hrel
    by_cases hlt : i < n
    · have hlt' : (i : Int) < (n : Int) := by omega
      have wi : IntKind.i64.wrap ((i : Int) + 1) = (i : Int) + 1 := by rw [IntKind.wrap_i64]; omega
      obtain ⟨lb, off, rfl, hl, u0, u1, u2, u3, u4⟩ := (HO.out.1.below HI.out.bl).at' i hlt
      have k1 := b1 wr (.cells #[.int .i64 (O i).k, .string (O i).nm, .slice (O i).a (O i).L (O i).cp, .int .i64 (O i).p, .int .i64 (O i).q] 48)
      have C : Calls Tryz.prog 14 #[.pointer (some ⟨M, 0, none⟩), .agg #[.int .i64 (O i).k, .string (O i).nm, .slice (O i).a (O i).L (O i).cp, .int .i64 (O i).p, .int .i64 (O i).q]] (wr.alloc (.cells #[.int .i64 (O i).k, .string (O i).nm, .slice (O i).a (O i).L (O i).cp, .int .i64 (O i).p, .int .i64 (O i).q] 48)) fun e U => ∃ x m c er, e = .returned (rp (.slice x m c) er) ∧ Ro U R (i * 11) (.slice none 0 0) 0 ∧ LI K Fs w M S hb1 R n (i + 1) (seto U R (i * 11) (.slice x m c) er) := by
        rcases HI.out.st with ⟨e0, m0⟩ | ⟨i', No, t0, s0, e0, ini, mt, hN, hNR, hT, hrp⟩
        · subst e0
          rw [HO.out.2.2] at k1 ⊢
          obtain ⟨vb, hp⟩ := m0.hp
          refine (do_make (⟨m0.mc.below k1, ⟨vb, Hp.news hp k1⟩, .inl m0.nM⟩ : M0 _ _ M S hb1 0) (by omega) ⟨#[]⟩).mono fun e U ⟨⟨x, m, c, he, hq, t, s, No2, hi2, hm2, h2, hx⟩, kp⟩ => ?_
          refine ⟨x, m, c, 0, he, ?_, HI.out.first HMR.out hlt k1 hq hi2 hm2 h2 hx kp⟩
          refine ((HI.out.rs 0 (Nat.le_refl _) hlt).below k1).kept kp ⟨.inl (.inr (.inr rfl)), by have := HMR.out; omega⟩
        · subst e0
          have hv := HO.out.2.1 i' hlt
          have hW : Vo (fun g => No g ∨ (wr.heap.size ≤ g ∧ g < (wr.alloc (.cells #[.int .i64 (O (i' + 1)).k, .string (O (i' + 1)).nm, .slice (O (i' + 1)).a (O (i' + 1)).L (O (i' + 1)).cp, .int .i64 (O (i' + 1)).p, .int .i64 (O (i' + 1)).q] 48)).heap.size)) (wr.alloc (.cells #[.int .i64 (O (i' + 1)).k, .string (O (i' + 1)).nm, .slice (O (i' + 1)).a (O (i' + 1)).L (O (i' + 1)).cp, .int .i64 (O (i' + 1)).p, .int .i64 (O (i' + 1)).q] 48)) (O (i' + 1)) (Fs i') := hv.keep (Keep.of (bthen HI.out.bl HI.out.bl.size k1)) (fun g q => .inl (hN g q))
          have D := do_op (mt.news k1) (by omega) hW (HS.out t0 s0 i' ini (by omega) hT)
          refine D.mono fun e U z => ?_
          have e1 : stA K Fs t0 s0 (i' + 1) = (opF (O (i' + 1)).k (Fs i') (stA K Fs t0 s0 i').1 (stA K Fs t0 s0 i').2).2 := by rw [HK.out]; rfl
          have e2 : rpA K Fs t0 s0 (i' + 1) = (opF (O (i' + 1)).k (Fs i') (stA K Fs t0 s0 i').1 (stA K Fs t0 s0 i').2).1 := by rw [HK.out]; rfl
          obtain ⟨x, m, c, h1, h2, h3⟩ := LI.next HMR.out HI.out.bl HI.out.rs ini hN hNR hT hrp hlt k1 (e := e) (U := U) (by rw [e1, e2]; exact z) (fun g q => mt.nos q)
          exact ⟨x, m, c, _, h1, h2, h3⟩
      generalize O i = o at *
      clear k1 hl
      go_wp2_with fail
      refine C.mono ?_; rintro e U ⟨x, m, c, er, rfl, hr, hL⟩
      obtain ⟨U1, U2, U3, U4, U5, U6, U7, U8, U9, U10, U11, ⟨f0, n0⟩, ⟨s0, f1, n1⟩, ⟨s1, f2, n2⟩, ⟨s2, f3, n3⟩, ⟨s3, f4, n4⟩, ⟨s4, f5, n5⟩, ⟨s5, f6, n6⟩, ⟨s6, f7, n7⟩, ⟨s7, f8, n8⟩, ⟨s8, f9, n9⟩, ⟨s9, f10, n10⟩, s10, se⟩ := hr.steps (.slice x m c) er
      have HN : Hid (LI K Fs w M S hb1 R n (i + 1) U11) := by rw [se] at hL; exact hL
      clear C hr hL se u0 u1 u2 u3 u4
      go_wp2_with fail
      go_roundw
      case rel => exact ⟨i + 1, by go_num, by omega, HN⟩
      case measure => first | omega | (simp only [intOf]; omega) | (simp; omega)
    · have e0 : i = n := by omega
      subst e0
      have hlt' : ¬ (i : Int) < (i : Int) := by omega
      have HE : Hid (∃ t0 s0 No, Ini t0 s0 ∧ (∀ j, j + 1 ≤ i → TI (stA K Fs t0 s0 j).1.p ∧ H.Inv 0 (stA K Fs t0 s0 j).2) ∧ (∀ j, j < i → RpA No wr w.heap.size R j (rpA K Fs t0 s0 j).1 (rpA K Fs t0 s0 j).2) ∧ Below w.heap.size w wr) := by
        rcases HI.out.st with ⟨e0, m0⟩ | ⟨i', No, t0, s0, e0, ini, mt, hN, hNR, hT, hrp⟩
        · omega
        · exact ⟨t0, s0, No, ini, fun j hj => hT j (by omega), hrp, HI.out.bl⟩
      clear HI
      go_wp2_with fail
      go_ret2
      obtain ⟨t0, s0, No, z1, z2, z3, z4⟩ := HE.out
      exact ⟨⟨R, t0, s0, No, rfl, z1, z2, z3⟩, z4⟩
end Go.Proofs.YtpmmploedkbeoaaGreatDoor

/- Lists of operations that grow. -/
namespace Go.Proofs.YtpmmploedkbeoaaGreatDoor
open Go.RowKit

/-- An operation's cells. -/
def opC (o : Opv) : List Value := [.int .i64 o.k, .string o.nm, .slice o.a o.L o.cp, .int .i64 o.p, .int .i64 o.q]
def opCs (l : List Opv) : List Value := l.flatMap opC
theorem opCs_app (l m : List Opv) : opCs (l ++ m) = opCs l ++ opCs m := by simp [opCs]
theorem opCs_len : ∀ l : List Opv, (opCs l).length = l.length * 5
  | [] => rfl
  | o :: l => by
    have e : opCs (o :: l) = opC o ++ opCs l := rfl
    rw [e, List.length_append, opCs_len l, List.length_cons]
    show 5 + _ = _
    omega
theorem opCs_at : ∀ (l : List Opv) (k j : Nat) (x : Opv), l[k]? = some x → j < 5 → (opCs l)[k * 5 + j]? = (opC x)[j]?
  | [], k, j, x, h, _ => by simp at h
  | y :: l, 0, j, x, h, hj => by
    obtain rfl : y = x := by simpa using h
    have e : opCs (y :: l) = opC y ++ opCs l := rfl
    rw [e, Nat.zero_mul, Nat.zero_add, List.getElem?_append_left (by exact hj)]
  | y :: l, k + 1, j, x, h, hj => by
    have e := opCs_at l k j x (by simpa using h) hj
    have e2 : opCs (y :: l) = opC y ++ opCs l := rfl
    rw [e2, List.getElem?_append_right (by show 5 ≤ _; omega), show (k + 1) * 5 + j - (opC y).length = k * 5 + j by show (k + 1) * 5 + j - 5 = _; omega]
    exact e
def op0 : Opv := ⟨0, ⟨#[]⟩, none, 0, 0, 0, 0⟩
theorem ol_of {w : World} {B : Nat} {a : Option Addr} {c : Nat} {l : List Opv} (h : w.ownsRow B 48 5 (.slice a l.length c) l.length (opCs l)) : Ol w a l.length (fun j => l.getD j op0) := ⟨fun j hj => by
  obtain ⟨g, c', e1, h1, h2⟩ := h.form (by omega)
  injection e1 with e1 _ _
  have hx : l[j]? = some (l.getD j op0) := by rw [List.getD_eq_getElem?_getD, List.getElem?_eq_getElem hj]; rfl
  have hv : Value.slice a l.length c = .slice (some ⟨g, 0, none⟩) l.length c := by rw [e1]
  have h' := h
  rw [hv] at h'
  have e : ∀ i, i < 5 → w.cell? ⟨g, j * 5 + i, none⟩ = (opC (l.getD j op0))[i]? := fun i hi => by
    rw [h'.cellAt _ (by omega)]; exact opCs_at l j i _ hx hi
  refine ⟨g, 0, e1, h2, ?_, ?_, ?_, ?_, ?_⟩
  · rw [Nat.zero_add]; exact e 0 (by omega)
  · rw [Nat.zero_add]; exact e 1 (by omega)
  · rw [Nat.zero_add]; exact e 2 (by omega)
  · rw [Nat.zero_add]; exact e 3 (by omega)
  · rw [Nat.zero_add]; exact e 4 (by omega)⟩
theorem info48 : (Tryz.prog.info? 48).map (fun i => (i.zero, i.size, i.bytes)) = some (some (.agg #[.int .i64 0, .string ⟨#[]⟩, .slice none 0 0, .int .i64 0, .int .i64 0]), 5, 64) := by kernel_rfl
theorem opC_one (o : Opv) : ∀ u ∈ opC o, u.oneCell' = true := by
  intro u hu
  simp only [opC, List.mem_cons, List.not_mem_nil, or_false] at hu
  rcases hu with h | h | h | h | h <;> rw [h] <;> rfl
theorem opCs_one (l : List Opv) : ∀ u ∈ opCs l, u.oneCell' = true := by
  intro u hu
  obtain ⟨o, _, h⟩ := List.mem_flatMap.1 hu
  exact opC_one o u h
/-- Five operations more. -/
theorem ops_app {W : World} {B : Nat} {v : Value} {l : List Opv} (h : W.ownsRow B 48 5 v l.length (opCs l)) (hB : B ≤ W.heap.size) (m : List Opv) (hm : m.length = 5) (hl : l.length ≤ 1000) (cs : Array Value) (hc : cs.toList = opCs m) :
    ∃ G c w', (Builtin.append_ #[27, 27] 27 #[v, .slice (some ⟨W.heap.size, 0, none⟩) 5 5]).run Tryz.prog (W.alloc (.cells cs 48)) = .ok (.slice (some ⟨G, 0, none⟩) (l ++ m).length c) w' ∧ w'.ownsRow B 48 5 (.slice (some ⟨G, 0, none⟩) (l ++ m).length c) (l ++ m).length (opCs (l ++ m)) ∧ (W.alloc (.cells cs 48)).grownBy w' v.ownBlock ∧ (v.ownBlock = some G ∨ G = W.heap.size + 1) := by
  obtain ⟨i0, hi, hz0, hz1, hz2⟩ := info_parts info48
  have hcell := (MapKept.heap_alloc W (.cells cs 48)).1
  have hlm : (l ++ m).length = l.length + 5 := by rw [List.length_append, hm]
  obtain ⟨v', w', hr, h2, h3, _, h5⟩ := run_append_own_at (P := Tryz.prog) (W.alloc (.cells cs 48)) B 27 27 48 i0 (.agg #[.int .i64 0, .string ⟨#[]⟩, .slice none 0 0, .int .i64 0, .int .i64 0]) 5 64 Tryz.underlying27 hi hz0 hz1 hz2 rfl (by omega) v l.length (opCs l) (h.alloc _) ⟨W.heap.size, 0, none⟩ 5 5 (opCs m) (by rw [opCs_len, hm]) (fun j u hu => by
    have hadd : (⟨W.heap.size, 0, none⟩ : Addr).add j = ⟨W.heap.size, j, none⟩ := by unfold Addr.add; split <;> simp_all
    rw [hadd, cell_of_row hcell, ← hu, ← hc, Array.getElem?_toList]) (opCs_one m) (by simp only [maxLen]; omega) (by omega) (by simp; omega)
  rw [← opCs_app] at h2
  rw [← hlm] at h2
  obtain ⟨G, c, rfl, h6, h7⟩ := h2.form (by rw [hlm]; omega)
  refine ⟨G, c, w', hr, h2, h3, ?_⟩
  simpa [Value.ownBlock] using h5.imp (fun e => e.symm) id
theorem rq2 (W : World) (x y : V) : Rq (W.alloc (.cells #[.int .i64 x.1, .int .i64 x.2.1, .string x.2.2, .int .i64 y.1, .int .i64 y.2.1, .string y.2.2] 37)) W.heap.size (.slice (some ⟨W.heap.size, 0, none⟩) 2 2) [x, y] := by
  have h := (MapKept.heap_alloc W (.cells #[.int .i64 x.1, .int .i64 x.2.1, .string x.2.2, .int .i64 y.1, .int .i64 y.2.1, .string y.2.2] 37)).1
  refine ⟨_, 2, rfl, ⟨fun i hi => ⟨_, 0, rfl, by simp, ?_⟩⟩, fun g off q => by cases q; exact Nat.le_refl _⟩
  have hi5 : i < 2 := hi
  obtain rfl | rfl : i = 0 ∨ i = 1 := by omega
  all_goals exact ⟨cell_of_row h _, cell_of_row h _, cell_of_row h _⟩
theorem rq3 (W : World) (x y z : V) : Rq (W.alloc (.cells #[.int .i64 x.1, .int .i64 x.2.1, .string x.2.2, .int .i64 y.1, .int .i64 y.2.1, .string y.2.2, .int .i64 z.1, .int .i64 z.2.1, .string z.2.2] 37)) W.heap.size (.slice (some ⟨W.heap.size, 0, none⟩) 3 3) [x, y, z] := by
  have h := (MapKept.heap_alloc W (.cells #[.int .i64 x.1, .int .i64 x.2.1, .string x.2.2, .int .i64 y.1, .int .i64 y.2.1, .string y.2.2, .int .i64 z.1, .int .i64 z.2.1, .string z.2.2] 37)).1
  refine ⟨_, 3, rfl, ⟨fun i hi => ⟨_, 0, rfl, by simp, ?_⟩⟩, fun g off q => by cases q; exact Nat.le_refl _⟩
  have hi5 : i < 3 := hi
  obtain rfl | rfl | rfl : i = 0 ∨ i = 1 ∨ i = 2 := by omega
  all_goals exact ⟨cell_of_row h _, cell_of_row h _, cell_of_row h _⟩
/-- A list of pairs that came in. -/
structure Pin (w : World) (a : Option Addr) (L : Nat) (P : Nat → V × V) : Prop where
  at' : ∀ i, i < L → ∃ lb off, a = some ⟨lb, off, none⟩ ∧ lb < w.heap.size ∧ w.cell? ⟨lb, off + i * 6, none⟩ = some (.int .i64 (P i).1.1) ∧ w.cell? ⟨lb, off + i * 6 + 1, none⟩ = some (.int .i64 (P i).1.2.1) ∧ w.cell? ⟨lb, off + i * 6 + 2, none⟩ = some (.string (P i).1.2.2) ∧
    w.cell? ⟨lb, off + i * 6 + 3, none⟩ = some (.int .i64 (P i).2.1) ∧ w.cell? ⟨lb, off + i * 6 + 4, none⟩ = some (.int .i64 (P i).2.2.1) ∧ w.cell? ⟨lb, off + i * 6 + 5, none⟩ = some (.string (P i).2.2.2)
theorem Pin.below {w w' : World} {a : Option Addr} {L : Nat} {P : Nat → V × V} (h : Pin w a L P) (k : Below w.heap.size w w') : Pin w' a L P := ⟨fun i hi => by
  obtain ⟨lb, off, e, hl, c0, c1, c2, c3, c4, c5⟩ := h.at' i hi
  exact ⟨lb, off, e, Nat.lt_of_lt_of_le hl k.size, (k.cell (p := ⟨lb, off + i * 6, none⟩) hl).trans c0, (k.cell (p := ⟨lb, off + i * 6 + 1, none⟩) hl).trans c1, (k.cell (p := ⟨lb, off + i * 6 + 2, none⟩) hl).trans c2, (k.cell (p := ⟨lb, off + i * 6 + 3, none⟩) hl).trans c3, (k.cell (p := ⟨lb, off + i * 6 + 4, none⟩) hl).trans c4, (k.cell (p := ⟨lb, off + i * 6 + 5, none⟩) hl).trans c5⟩⟩
end Go.Proofs.YtpmmploedkbeoaaGreatDoor

/- How a list of pairs that came in is read. -/
namespace Go.Proofs.YtpmmploedkbeoaaGreatDoor
open Go.RowKit Go.ChangeShapes Go.WideShapes Go.ChangeAt Go.Deep

theorem oc3 : Tryz.prog.cellsOf 3 = 1 := by kernel_rfl
theorem oc9 : Tryz.prog.cellsOf 9 = 1 := by kernel_rfl
theorem oc37 : Tryz.prog.cellsOf 37 = 3 := by kernel_rfl
theorem oc40 : Tryz.prog.cellsOf 40 = 6 := by kernel_rfl
theorem oc_laid : laidOutB Tryz.prog = true := by kernel_rfl
theorem oc_val {H : Type} {enc : TypeId × Value → H} {W : World} {base : Nat} {sp : Nat → Bool} {held : Bool} {fuel : Nat} {cs : List Value} {x : DataW H × List MemPlace}
    (hlen : cs.length = 3) (hf : DataW.trod enc Tryz.prog W base sp held fuel 37 cs = some x) :
    ∃ (k n : Int) (s : ByteArray), cs = [.int .i64 k, .int .i64 n, .string s] ∧ (Lit.int .i64 n).wf = true := by
  obtain ⟨c0, c1, c2, rfl⟩ : ∃ c0 c1 c2, cs = [c0, c1, c2] := by
    match cs, hlen with
    | [c0, c1, c2], _ => exact ⟨c0, c1, c2, rfl⟩
  obtain ⟨y0, y1, y2, m, hx, _, t0, t1, t2⟩ := trod_struct3 Tryz.underlying37 hf
  obtain ⟨k, e0, f0, g0⟩ := DataW.trod_int Tryz.underlying3 t0
  obtain ⟨n, e1, f1, g1⟩ := DataW.trod_int Tryz.underlying3 t1
  obtain ⟨s, e2, f2, g2⟩ := DataW.trod_string Tryz.underlying9 t2
  simp [oc3, oc9] at e0 e1 e2
  subst e0 e1 e2
  exact ⟨k, n, s, rfl, g1⟩
theorem oc_wf {n : Int} (h : (Lit.int .i64 n).wf = true) : -9223372036854775808 ≤ n ∧ n ≤ 9223372036854775807 := by
  simp only [Lit.wf, Bool.and_eq_true, decide_eq_true_eq] at h
  have q := h
  have e1 : IntKind.i64.min = -9223372036854775808 := by decide
  have e2 : IntKind.i64.max = 9223372036854775807 := by decide
  omega
theorem oc_pair {H : Type} {enc : TypeId × Value → H} {W : World} {base : Nat} {sp : Nat → Bool} {held : Bool} {fuel : Nat} {cs : List Value} {x : DataW H × List MemPlace}
    (hlen : cs.length = 6) (hf : DataW.trod enc Tryz.prog W base sp held fuel 40 cs = some x) :
    ∃ p : V × V, cs = [.int .i64 p.1.1, .int .i64 p.1.2.1, .string p.1.2.2, .int .i64 p.2.1, .int .i64 p.2.2.1, .string p.2.2.2] ∧ Rng p.1 := by
  obtain ⟨c0, c1, c2, c3, c4, c5, rfl⟩ : ∃ c0 c1 c2 c3 c4 c5, cs = [c0, c1, c2, c3, c4, c5] := by
    match cs, hlen with
    | [c0, c1, c2, c3, c4, c5], _ => exact ⟨c0, c1, c2, c3, c4, c5, rfl⟩
  obtain ⟨y0, y1, m, hx, _, t0, t1⟩ := trod_struct2 Tryz.underlying40 hf
  simp only [oc37, List.drop_zero, List.drop_succ_cons, List.take_succ_cons, List.take_zero] at t0 t1
  obtain ⟨k, n, s, e0, g0⟩ := oc_val (by rfl) t0
  obtain ⟨k', n', s', e1, g1⟩ := oc_val (by rfl) t1
  simp only [List.cons.injEq, and_true] at e0 e1
  obtain ⟨rfl, rfl, rfl⟩ := e0
  obtain ⟨rfl, rfl, rfl⟩ := e1
  exact ⟨((k, n, s), (k', n', s')), rfl, oc_wf g0⟩
theorem oc_add (b off i : Nat) : (Addr.add ⟨b, off, none⟩ i) = ⟨b, off + i, none⟩ := by
  by_cases hj0 : i = 0
  · subst hj0; rfl
  · simp [Addr.add, hj0]
theorem oc_spot {W : World} {a : Addr} {v : Value} (h : W.cell? a = some v) : a.spot = none := by
  obtain ⟨b, off, spot⟩ := a
  cases spot with
  | none => rfl
  | some q => unfold World.cell? at h; split at h <;> simp at h
theorem rng_nil : Rng nil := by unfold Rng nil; decide
set_option maxRecDepth 100000 in
theorem open_pairs0 {H : Type} {enc : TypeId × Value → H} {W : World} {base : Nat} {held : Bool} {fuel : Nat} {c : Value} {x : DataW H × List MemPlace} (t3 : DataW.trod enc Tryz.prog W base (fun _ => true) held fuel 22 [c] = some x) :
    ∃ (a : Option Addr) (L cap : Nat) (P : Nat → V × V), c = .slice a L cap ∧ L ≤ cap ∧ Pin W a L P ∧ ∀ q, Rng (P q).1 := by
  rcases open_slice Tryz.underlying22 t3 with ⟨h0, _⟩ | ⟨a, len, cap, m, n, D, Pl, h0, hb, hl, hm, hmm, hx, he⟩
  · simp at h0
    subst h0
    exact ⟨none, 0, 0, fun _ => (nil, nil), rfl, by omega, ⟨fun i hi => absurd hi (Nat.not_lt_zero _)⟩, fun _ => rng_nil⟩
  · simp only [if_true] at hmm
    subst hmm
    simp at h0
    subst h0
    have each : ∀ i, i < m → ∃ q : V × V, (∀ j, j < 6 → W.cell? (a.add (i * 6 + j)) = ([.int .i64 q.1.1, .int .i64 q.1.2.1, .string q.1.2.2, .int .i64 q.2.1, .int .i64 q.2.2.1, .string q.2.2.2] : List Value)[j]?) ∧ Rng q.1 := by
      intro i hi
      obtain ⟨cs', h1, h2⟩ := he i hi
      rw [oc40] at h1
      obtain ⟨_, hlen, hcell⟩ := World.cells?_some h1
      obtain ⟨q, rfl, hr⟩ := oc_pair hlen h2
      refine ⟨q, fun j hj => ?_, hr⟩
      have c0 := hcell j (by omega)
      rwa [Addr.add_add] at c0
    obtain ⟨F, hF⟩ : ∃ F : Nat → V × V, (∀ i, i < m → ∀ j, j < 6 → W.cell? (a.add (i * 6 + j)) = ([.int .i64 (F i).1.1, .int .i64 (F i).1.2.1, .string (F i).1.2.2, .int .i64 (F i).2.1, .int .i64 (F i).2.2.1, .string (F i).2.2.2] : List Value)[j]?) ∧ ∀ i, Rng (F i).1 :=
      ⟨fun i => if h : i < m then (each i h).choose else (nil, nil), fun i hi => by
        simp only [dif_pos hi]
        exact (each i hi).choose_spec.1, fun i => by
        by_cases hi : i < m
        · simp only [dif_pos hi]
          exact (each i hi).choose_spec.2
        · simp only [dif_neg hi]
          exact rng_nil⟩
    refine ⟨some a, len, m, F, rfl, by omega, ⟨fun i hi => ?_⟩, hF.2⟩
    have hc0 := hF.1 0 (by omega) 0 (by omega)
    have ha : a.add (0 * 6 + 0) = a := rfl
    rw [ha] at hc0
    have hc0 : W.cell? a = some _ := hc0
    obtain ⟨b, off, spot⟩ := a
    have hs : spot = none := oc_spot hc0
    subst hs
    have q0 := hF.1 i (by omega) 0 (by omega)
    have q1 := hF.1 i (by omega) 1 (by omega)
    have q2 := hF.1 i (by omega) 2 (by omega)
    have q3 := hF.1 i (by omega) 3 (by omega)
    have q4 := hF.1 i (by omega) 4 (by omega)
    have q5 := hF.1 i (by omega) 5 (by omega)
    rw [oc_add] at q0 q1 q2 q3 q4 q5
    exact ⟨b, off, rfl, World.block_lt_of_cell? W _ hc0, q0, by rw [Nat.add_assoc]; exact q1, by rw [Nat.add_assoc]; exact q2, by rw [Nat.add_assoc]; exact q3, by rw [Nat.add_assoc]; exact q4, by rw [Nat.add_assoc]; exact q5⟩
set_option maxRecDepth 100000 in
theorem open_pairs {H : Type} {enc : TypeId × Value → H} {W : World} {base b0 : Nat} {held : Bool} {r : Reach} {v : Value} {d : DataW H} {ps : List MemPlace}
    (hval : Value.okWide Tryz.prog W r b0 22 v) (hd : DataW.Trod enc Tryz.prog W base (fun _ => true) held 22 v d ps) :
    ∃ (a : Option Addr) (L cap : Nat) (P : Nat → V × V), v = .slice a L cap ∧ L ≤ cap ∧ Pin W a L P ∧ ∀ q, Rng (P q).1 := by
  obtain ⟨a0, l0, c0, rfl⟩ := okWide_slice Tryz.underlying22 hval
  obtain ⟨fuel, hf⟩ := hd
  exact open_pairs0 (c := .slice a0 l0 c0) (by simpa [Value.cells] using hf)
end Go.Proofs.YtpmmploedkbeoaaGreatDoor

/- The walk of the statement's script. -/
namespace Go.Proofs.YtpmmploedkbeoaaGreatDoor
open Go.RowKit

def tab1 : V := (4, 1, ⟨#[]⟩)
/-- The kinds behind Make. -/
def kdS (j : Nat) : Int := if j % 5 = 0 then 12 else if j % 5 = 1 then 8 else if j % 5 = 2 then 9 else if j % 5 = 3 then 12 else 13
/-- Their values. -/
def fsS (P : Nat → V × V) (j : Nat) : Nat → V := fun i => if i = 0 then tab1 else if i = 1 then (P (j / 5)).1 else if i = 2 then (P (j / 5)).2 else nil
/-- An operation of the script, in memory. -/
structure Vs (w : World) (B : Nat) (o : Opv) (P : Nat → V × V) (j : Nat) : Prop where
  k : o.k = kdS j
  u : usesF o.k = (o.L : Int)
  c : o.L ≤ o.cp
  v : Vin w o.a o.L (fsS P j)
  b : ∀ g off, o.a = some ⟨g, off, none⟩ → B ≤ g ∧ g < w.heap.size
theorem Vs.keep {w w' : World} {B : Nat} {o : Opv} {P : Nat → V × V} {j : Nat} (h : Vs w B o P j) (k : ∀ g off, o.a = some ⟨g, off, none⟩ → w'.heap[g]? = w.heap[g]?) (hs : w.heap.size ≤ w'.heap.size) : Vs w' B o P j :=
  ⟨h.k, h.u, h.c, ⟨fun i hi => by
    obtain ⟨lb, off, q, hl, c0, c1, c2⟩ := h.v.at' i hi
    have eb := k lb off q
    exact ⟨lb, off, q, Nat.lt_of_lt_of_le hl hs, by rw [World.cell?_of_block (w := w) eb]; exact c0, by rw [World.cell?_of_block (w := w) eb]; exact c1, by rw [World.cell?_of_block (w := w) eb]; exact c2⟩⟩, fun g off q => ⟨(h.b g off q).1, Nat.lt_of_lt_of_le (h.b g off q).2 hs⟩⟩
/-- The script so far. -/
structure SI (w : World) (B : Nat) (P : Nat → V × V) (i : Nat) (l : List Opv) (v : Value) (bt : Nat) (wr : World) : Prop where
  len : l.length = 1 + 5 * i
  row : wr.ownsRow B 48 5 v l.length (opCs l)
  f0 : l[0]? = some ⟨7, ⟨#[]⟩, none, 0, 0, 0, 0⟩
  ops : ∀ j o, l[j + 1]? = some o → Vs wr w.heap.size o P j
  nb : ∀ j o g off, l[j + 1]? = some o → o.a = some ⟨g, off, none⟩ → v.ownBlock ≠ some g
  bt : Bx wr bt tab1 ∧ w.heap.size ≤ bt ∧ bt < B
  bl : Below w.heap.size w wr
  le : w.heap.size ≤ B ∧ B ≤ wr.heap.size
/-- The five operations of a pair. -/
def five (bt g1 g2 : Nat) : List Opv := [⟨12, ⟨#[]⟩, some ⟨bt, 0, none⟩, 1, 1, 0, 0⟩, ⟨8, ⟨#[]⟩, some ⟨g1, 0, none⟩, 2, 2, 0, 0⟩, ⟨9, ⟨#[]⟩, some ⟨g2, 0, none⟩, 3, 3, 0, 0⟩, ⟨12, ⟨#[]⟩, some ⟨bt, 0, none⟩, 1, 1, 0, 0⟩, ⟨13, ⟨#[]⟩, some ⟨bt, 0, none⟩, 1, 1, 0, 0⟩]
theorem vin_rq {w : World} {B L c : Nat} {x : Option Addr} {l : List V} {F : Nat → V} (h : Rq w B (.slice x L c) l) (hL : L = l.length) (hF : ∀ i, i < L → F i = l.getD i nil) : Vin w x L F := by
  obtain ⟨a, c', h1, h2, h3⟩ := h.ex
  injection h1 with h1 _ _
  subst h1
  exact ⟨fun i hi => by rw [hF i hi]; exact h2.at' i (by omega)⟩
theorem rq_lo {w : World} {B L c : Nat} {x : Option Addr} {l : List V} (h : Rq w B (.slice x L c) l) : ∀ g off, x = some ⟨g, off, none⟩ → B ≤ g := by
  obtain ⟨a, c', h1, h2, h3⟩ := h.ex
  injection h1 with h1 _ _
  subst h1
  exact h3
/-- The script with the next pair's operations. -/
theorem SI.next {w wr X w' : World} {B i bt g1 g2 : Nat} {P : Nat → V × V} {l : List Opv} {v : Value} (h : SI w B P i l v bt wr) (hX : Below wr.heap.size wr X) (q1 : Rq X wr.heap.size (.slice (some ⟨g1, 0, none⟩) 2 2) [tab1, (P i).1]) (q2 : Rq X wr.heap.size (.slice (some ⟨g2, 0, none⟩) 3 3) [tab1, (P i).1, (P i).2])
    {cs : Array Value} {G c : Nat} (h2 : w'.ownsRow B 48 5 (.slice (some ⟨G, 0, none⟩) (l ++ five bt g1 g2).length c) (l ++ five bt g1 g2).length (opCs (l ++ five bt g1 g2))) (h3 : (X.alloc (.cells cs 48)).grownBy w' v.ownBlock) (h4 : v.ownBlock = some G ∨ G = X.heap.size + 1) :
    SI w B P (i + 1) (l ++ five bt g1 g2) (.slice (some ⟨G, 0, none⟩) (l ++ five bt g1 g2).length c) bt w' := by
  have hs1 := hX.size
  have hs2 : (X.alloc (.cells cs 48)).heap.size = X.heap.size + 1 := by simp
  have hs3 := h3.size
  have hvlt : ∀ g, v.ownBlock = some g → g < wr.heap.size ∧ B ≤ g := fun g e => ⟨(h.row.lt g e).2, (h.row.lt g e).1⟩
  have kX : ∀ g, g < X.heap.size → v.ownBlock ≠ some g → w'.heap[g]? = X.heap[g]? := fun g hg hn => (h3.block g (by omega) (fun e => hn e.symm)).trans (Below.heap_alloc _ _ _ hg)
  have kW : ∀ g, g < wr.heap.size → v.ownBlock ≠ some g → w'.heap[g]? = wr.heap[g]? := fun g hg hn => (kX g (by omega) hn).trans (hX.block g hg)
  have hlen : (l ++ five bt g1 g2).length = 1 + 5 * (i + 1) := by rw [List.length_append, h.len]; show _ + 5 = _; omega
  have n1 : v.ownBlock ≠ some g1 := fun e => by have := (hvlt g1 e).1; have := rq_lo q1 g1 0 rfl; omega
  have n2 : v.ownBlock ≠ some g2 := fun e => by have := (hvlt g2 e).1; have := rq_lo q2 g2 0 rfl; omega
  have nbt : v.ownBlock ≠ some bt := fun e => by have := (hvlt bt e).2; have := h.bt.2.2; omega
  have v1 := vin_rq (F := fsS P (5 * i + 1)) q1 rfl (fun j hj => by
    have e5 : (5 * i + 1) / 5 = i := by omega
    obtain rfl | rfl : j = 0 ∨ j = 1 := by omega
    · rfl
    · show (P ((5 * i + 1) / 5)).1 = _; rw [e5]; rfl)
  have v2 := vin_rq (F := fsS P (5 * i + 2)) q2 rfl (fun j hj => by
    have e5 : (5 * i + 2) / 5 = i := by omega
    obtain rfl | rfl | rfl : j = 0 ∨ j = 1 ∨ j = 2 := by omega
    · rfl
    · show (P ((5 * i + 2) / 5)).1 = _; rw [e5]; rfl
    · show (P ((5 * i + 2) / 5)).2 = _; rw [e5]; rfl)
  have l1 : g1 < X.heap.size := by obtain ⟨lb, o, e, hl, _⟩ := v1.at' 0 (by omega); cases e; exact hl
  have l2 : g2 < X.heap.size := by obtain ⟨lb, o, e, hl, _⟩ := v2.at' 0 (by omega); cases e; exact hl
  have m1 := rq_lo q1 g1 0 rfl
  have m2 := rq_lo q2 g2 0 rfl
  have hwr := h.le
  have hbt := h.bt
  have vt : ∀ r, Vin w' (some ⟨bt, 0, none⟩) 1 (fsS P r) := fun r => ⟨fun j hj => by
    obtain rfl : j = 0 := by omega
    have e := kW bt hbt.1.lt nbt
    exact ⟨bt, 0, rfl, by have := hbt.1.lt; omega, by rw [World.cell?_of_block (w := wr) e]; exact hbt.1.c0, by rw [World.cell?_of_block (w := wr) e]; exact hbt.1.c1, by rw [World.cell?_of_block (w := wr) e]; exact hbt.1.c2⟩⟩
  have bt' : ∀ g off, (some (⟨bt, 0, none⟩ : Addr)) = some ⟨g, off, none⟩ → w.heap.size ≤ g ∧ g < w'.heap.size := fun g off e => by cases e; have := hbt.1.lt; exact ⟨hbt.2.1, by omega⟩
  have vv1 : Vin w' (some ⟨g1, 0, none⟩) 2 (fsS P (5 * i + 1)) := v1.keep (No := fun g => g = g1) ⟨h3.os.trans rfl, h3.tape.trans rfl, h3.output.trans rfl, by omega, fun g _ e => by rw [e]; exact kX g1 l1 n1⟩ (fun g off e => by cases e; rfl)
  have vv2 : Vin w' (some ⟨g2, 0, none⟩) 3 (fsS P (5 * i + 2)) := v2.keep (No := fun g => g = g2) ⟨h3.os.trans rfl, h3.tape.trans rfl, h3.output.trans rfl, by omega, fun g _ e => by rw [e]; exact kX g2 l2 n2⟩ (fun g off e => by cases e; rfl)
  have split : ∀ j o, (l ++ five bt g1 g2)[j + 1]? = some o → l[j + 1]? = some o ∨ ∃ r, r < 5 ∧ j = 5 * i + r ∧ (five bt g1 g2)[r]? = some o := fun j o e => by
    by_cases q : j + 1 < l.length
    · rw [List.getElem?_append_left q] at e; exact .inl e
    · rw [List.getElem?_append_right (by omega)] at e
      have h5 : j + 1 - l.length < 5 := (List.getElem?_eq_some_iff.1 e).1
      exact .inr ⟨j + 1 - l.length, h5, by have := h.len; omega, e⟩
  have hG : ∀ g, g < wr.heap.size → v.ownBlock ≠ some g → G ≠ g := fun g hg hn e => by
    rcases h4 with h4 | h4
    · exact hn (by rw [h4, e])
    · omega
  refine ⟨hlen, h2, ?_, fun j o e => ?_, fun j o g off e ea => ?_, ⟨?_, hbt.2⟩, ?_, ⟨hwr.1, by omega⟩⟩
  · rw [List.getElem?_append_left (by have := h.len; omega)]; exact h.f0
  · rcases split j o e with e' | ⟨r, hr, rfl, e'⟩
    · exact (h.ops j o e').keep (fun g off ea => kW g ((h.ops j o e').b g off ea).2 (h.nb j o g off e' ea)) (by omega)
    · obtain rfl | rfl | rfl | rfl | rfl : r = 0 ∨ r = 1 ∨ r = 2 ∨ r = 3 ∨ r = 4 := by omega
      · cases e'
        exact ⟨by unfold kdS; rw [if_pos (by omega)], rfl, Nat.le_refl _, vt _, bt'⟩
      · cases e'
        exact ⟨by unfold kdS; rw [if_neg (by omega), if_pos (by omega)], rfl, Nat.le_refl _, vv1, fun g off e => by cases e; exact ⟨by omega, by omega⟩⟩
      · cases e'
        exact ⟨by unfold kdS; rw [if_neg (by omega), if_neg (by omega), if_pos (by omega)], rfl, Nat.le_refl _, vv2, fun g off e => by cases e; exact ⟨by omega, by omega⟩⟩
      · cases e'
        exact ⟨by unfold kdS; rw [if_neg (by omega), if_neg (by omega), if_neg (by omega), if_pos (by omega)], rfl, Nat.le_refl _, vt _, bt'⟩
      · cases e'
        exact ⟨by unfold kdS; rw [if_neg (by omega), if_neg (by omega), if_neg (by omega), if_neg (by omega)], rfl, Nat.le_refl _, vt _, bt'⟩
  · show some G ≠ some g
    rcases split j o e with e' | ⟨r, hr, rfl, e'⟩
    · exact fun z => hG g ((h.ops j o e').b g off ea).2 (h.nb j o g off e' ea) (by injection z)
    · have hg : g = bt ∨ g = g1 ∨ g = g2 := by
        obtain rfl | rfl | rfl | rfl | rfl : r = 0 ∨ r = 1 ∨ r = 2 ∨ r = 3 ∨ r = 4 := by omega
        all_goals (cases e'; cases ea; simp)
      intro z
      injection z with z
      rcases hg with q | q | q
      · exact hG bt hbt.1.lt nbt (z.trans q)
      · rcases h4 with h4 | h4
        · exact n1 (by rw [h4, z, q])
        · omega
      · rcases h4 with h4 | h4
        · exact n2 (by rw [h4, z, q])
        · omega
  · have e := kW bt hbt.1.lt nbt
    exact hbt.1.kept (No := fun g => g = bt) ⟨h3.os.trans hX.os, h3.tape.trans hX.tape, h3.output.trans hX.output, by omega, fun g _ q => by rw [q]; exact e⟩ rfl
  · refine h.bl.trans ⟨h3.os.trans hX.os, h3.tape.trans hX.tape, h3.output.trans hX.output, by omega, fun g hg => kW g (by have := h.bl.size; omega) (fun q => by have := (hvlt g q).2; omega)⟩
end Go.Proofs.YtpmmploedkbeoaaGreatDoor
