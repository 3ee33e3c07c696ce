/- The walk of cut. -/
import Derived.Test.YtonopchpnhninaaCg19
import Derived.ProofKit
import Derived.OpenShut
import Derived.ChangeSlices
import Derived.ChangeOld
import Derived.SizedLaws
import Derived.Deep.Slices
import Derived.Deep.Fields
import Derived.Deep.Strs
import Derived.Test.YtonopchpnhninaaCg15
import Derived.Test.YtonopchpnhninaaCg07
namespace Go.Proofs.Ytonopchpnhninaa
open Go.RowKit

def cN (x : Int) : Int := if x ≤ 65536 then min x 2000 else x
set_option maxRecDepth 20000 in
set_option maxHeartbeats 4000000 in
theorem cut_any (l x y : Int) (a : Option Addr) (n cap : Nat) (hn : n ≤ cap) (w : World) :
    Calls Try.prog 7 #[cv l x y (.slice a n cap)] w fun e w' => e = .returned (cv l (cN x) (cN y) (.slice a (min n 300) cap)) ∧ Below w.heap.size w w' := by
  have hm : (min (n : Int) 300).toNat = min n 300 := by omega
  have HM : Hid (∀ o1 o2, Below w.heap.size w ((w.alloc o1).alloc o2)) := fun o1 o2 => b2 w o1 o2
  unfold cv
  by_cases hx : x ≤ 65536
  · have ex : cN x = min x 2000 := if_pos hx
    rw [ex]
    by_cases hy : y ≤ 65536
    · have ey : cN y = (min y 2000) := if_pos hy
      rw [ey]
      clear ex ey
      go_enter Try.func7, Try.ntmps7
      go_wp2_with fail
      refine bodyPost_ret (v := .agg #[.int .i64 l, .int .i64 (min x 2000), .int .i64 (min y 2000), .slice a (min n 300) cap]) (by simp [results, Try.results7, go_sem]) rfl ⟨rfl, HM.out _ _⟩
    · have ey : cN y = y := if_neg hy
      rw [ey]
      clear ex ey
      go_enter Try.func7, Try.ntmps7
      go_wp2_with fail
      refine bodyPost_ret (v := .agg #[.int .i64 l, .int .i64 (min x 2000), .int .i64 y, .slice a (min n 300) cap]) (by simp [results, Try.results7, go_sem]) rfl ⟨rfl, HM.out _ _⟩
  · have ex : cN x = x := if_neg hx
    rw [ex]
    by_cases hy : y ≤ 65536
    · have ey : cN y = (min y 2000) := if_pos hy
      rw [ey]
      clear ex ey
      go_enter Try.func7, Try.ntmps7
      go_wp2_with fail
      refine bodyPost_ret (v := .agg #[.int .i64 l, .int .i64 x, .int .i64 (min y 2000), .slice a (min n 300) cap]) (by simp [results, Try.results7, go_sem]) rfl ⟨rfl, HM.out _ _⟩
    · have ey : cN y = y := if_neg hy
      rw [ey]
      clear ex ey
      go_enter Try.func7, Try.ntmps7
      go_wp2_with fail
      refine bodyPost_ret (v := .agg #[.int .i64 l, .int .i64 x, .int .i64 y, .slice a (min n 300) cap]) (by simp [results, Try.results7, go_sem]) rfl ⟨rfl, HM.out _ _⟩
end Go.Proofs.Ytonopchpnhninaa

/- How a case that came in is read: a limit, two sizes, a list of operations. -/
namespace Go.Proofs.Ytonopchpnhninaa
open Go.RowKit Go.ChangeShapes Go.WideShapes Go.ChangeAt Go.Deep

/-- An operation's eight cells. -/
def oc (q : Int × V × V × Int) : Nat → Value
  | 0 => .int .i64 q.1
  | 1 => .int .i64 q.2.1.1
  | 2 => .int .i64 q.2.1.2.1
  | 3 => .string q.2.1.2.2
  | 4 => .int .i64 q.2.2.1.1
  | 5 => .int .i64 q.2.2.1.2.1
  | 6 => .string q.2.2.1.2.2
  | _ => .int .i64 q.2.2.2
theorem lt8 {j : Nat} (h : j < 8) : j = 0 ∨ j = 1 ∨ j = 2 ∨ j = 3 ∨ j = 4 ∨ j = 5 ∨ j = 6 ∨ j = 7 := by omega
/-- The list of L operations that v is, all below block N. -/
def Ops (N : Nat) (w : World) (a : Option Addr) (L : Nat) (Q : Nat → Int × V × V × Int) : Prop :=
  (∀ i, i < L → Rng (Q i).2.1 ∧ -9223372036854775808 ≤ (Q i).2.2.2 ∧ (Q i).2.2.2 ≤ 9223372036854775807) ∧ (0 < L → ∃ b off, a = some ⟨b, off, none⟩ ∧ b < N ∧ ∀ i, i < L → ∀ j, j < 8 → w.cell? ⟨b, off + i * 8 + j, none⟩ = some (oc (Q i) j))
theorem Ops.below {N : Nat} {w w' : World} {a : Option Addr} {L : Nat} {Q : Nat → Int × V × V × Int} (h : Ops N w a L Q) (hb : Below N w w') : Ops N w' a L Q := by
  refine ⟨h.1, fun hl => ?_⟩
  obtain ⟨b, off, rfl, hg, hx⟩ := h.2 hl
  exact ⟨b, off, rfl, hg, fun i hi j hj => by rw [hb.cell (by exact hg)]; exact hx i hi j hj⟩
theorem Ops.cut {N : Nat} {w : World} {a : Option Addr} {L m : Nat} {Q : Nat → Int × V × V × Int} (h : Ops N w a L Q) (hm : m ≤ L) : Ops N w a m Q := by
  refine ⟨fun i hi => h.1 i (by omega), fun hl => ?_⟩
  obtain ⟨b, off, rfl, hg, hx⟩ := h.2 (by omega)
  exact ⟨b, off, rfl, hg, fun i hi j hj => hx i (by omega) j hj⟩
theorem Ops.at {N : Nat} {w : World} {a : Option Addr} {L : Nat} {Q : Nat → Int × V × V × Int} (h : Ops N w a L Q) {i : Nat} (hi : i < L) : ∃ b off, a = some ⟨b, off, none⟩ ∧ b < N ∧
    w.cell? ⟨b, off + i * 8, none⟩ = some (.int .i64 (Q i).1) ∧ w.cell? ⟨b, off + i * 8 + 1, none⟩ = some (.int .i64 (Q i).2.1.1) ∧ w.cell? ⟨b, off + i * 8 + 2, none⟩ = some (.int .i64 (Q i).2.1.2.1) ∧ w.cell? ⟨b, off + i * 8 + 3, none⟩ = some (.string (Q i).2.1.2.2) ∧
    w.cell? ⟨b, off + i * 8 + 4, none⟩ = some (.int .i64 (Q i).2.2.1.1) ∧ w.cell? ⟨b, off + i * 8 + 5, none⟩ = some (.int .i64 (Q i).2.2.1.2.1) ∧ w.cell? ⟨b, off + i * 8 + 6, none⟩ = some (.string (Q i).2.2.1.2.2) ∧ w.cell? ⟨b, off + i * 8 + 7, none⟩ = some (.int .i64 (Q i).2.2.2) := by
  obtain ⟨b, off, rfl, hg, hx⟩ := h.2 (by omega)
  exact ⟨b, off, rfl, hg, hx i hi 0 (by omega), hx i hi 1 (by omega), hx i hi 2 (by omega), hx i hi 3 (by omega), hx i hi 4 (by omega), hx i hi 5 (by omega), hx i hi 6 (by omega), hx i hi 7 (by omega)⟩

theorem cells3 : Try.prog.cellsOf 3 = 1 := by kernel_rfl
theorem cells9 : Try.prog.cellsOf 9 = 1 := by kernel_rfl
theorem cells22 : Try.prog.cellsOf 22 = 1 := by kernel_rfl
theorem cells34 : Try.prog.cellsOf 34 = 3 := by kernel_rfl
theorem cells36 : Try.prog.cellsOf 36 = 8 := by kernel_rfl
theorem cells24 : Try.prog.cellsOf 24 = 4 := by kernel_rfl
theorem laidOut : laidOutB Try.prog = true := by kernel_rfl
theorem trod_struct4 {H : Type} {enc : TypeId × Value → H} {P : Program} {w : World} {base : Nat} {spare : Nat → Bool} {held : Bool} {t : TypeId} {f0 f1 f2 f3 : Field} {fuel : Nat} {cs : List Value} {x : DataW H × List MemPlace} (ht : P.underlying t = some (.struct #[f0, f1, f2, f3])) (h : DataW.trod enc P w base spare held fuel t cs = some x) :
    ∃ y0 y1 y2 y3 n, x = (.agg [y0.1, y1.1, y2.1, y3.1], y0.2 ++ (y1.2 ++ (y2.2 ++ y3.2))) ∧ cs.length = P.cellsOf t ∧ DataW.trod enc P w base spare held n f0.type ((cs.drop f0.offset).take (P.cellsOf f0.type)) = some y0 ∧
      DataW.trod enc P w base spare held n f1.type ((cs.drop f1.offset).take (P.cellsOf f1.type)) = some y1 ∧ DataW.trod enc P w base spare held n f2.type ((cs.drop f2.offset).take (P.cellsOf f2.type)) = some y2 ∧ DataW.trod enc P w base spare held n f3.type ((cs.drop f3.offset).take (P.cellsOf f3.type)) = some y3 := by
  obtain ⟨xs, n, _, rfl, hl, hlen, hf⟩ := DataW.trod_struct ht h
  match xs, hlen with
  | [y0, y1, y2, y3], _ => exact ⟨y0, y1, y2, y3, n, by simp, hl, by simpa using hf 0 f0 rfl, by simpa using hf 1 f1 rfl, by simpa using hf 2 f2 rfl, by simpa using hf 3 f3 rfl⟩

theorem elem_val {H : Type} {enc : TypeId × Value → H} {W : World} {base : Nat} {sp : Nat → Bool} {held : Bool} {fuel : Nat} {cs : List Value} {x : DataW H × List MemPlace}
    (hlen : cs.length = 3) (hf : DataW.trod enc Try.prog W base sp held fuel 34 cs = some x) :
    ∃ (k n : Int) (s : ByteArray), cs = [.int .i64 k, .int .i64 n, .string s] ∧ (Lit.int .i64 n).wf = true := by
  obtain ⟨c0, c1, c2, rfl⟩ : ∃ c0 c1 c2, cs = [c0, c1, c2] := by
    match cs, hlen with
    | [c0, c1, c2], _ => exact ⟨c0, c1, c2, rfl⟩
  obtain ⟨y0, y1, y2, m, hx, _, t0, t1, t2⟩ := trod_struct3 Try.underlying34 hf
  obtain ⟨k, e0, f0, g0⟩ := DataW.trod_int Try.underlying3 t0
  obtain ⟨n, e1, f1, g1⟩ := DataW.trod_int Try.underlying3 t1
  obtain ⟨s, e2, f2, g2⟩ := DataW.trod_string Try.underlying9 t2
  simp [cells3, cells9] at e0 e1 e2
  subst e0 e1 e2
  exact ⟨k, n, s, rfl, g1⟩
set_option maxRecDepth 100000 in
theorem elem_op {H : Type} {enc : TypeId × Value → H} {W : World} {base : Nat} {sp : Nat → Bool} {held : Bool} {fuel : Nat} {cs : List Value} {x : DataW H × List MemPlace}
    (hlen : cs.length = 8) (hf : DataW.trod enc Try.prog W base sp held fuel 36 cs = some x) : ∃ q : Int × V × V × Int, (∀ j, j < 8 → cs[j]? = some (oc q j)) ∧ Rng q.2.1 ∧ -9223372036854775808 ≤ q.2.2.2 ∧ q.2.2.2 ≤ 9223372036854775807 := by
  obtain ⟨c0, c1, c2, c3, c4, c5, c6, c7, rfl⟩ : ∃ c0 c1 c2 c3 c4 c5 c6 c7, cs = [c0, c1, c2, c3, c4, c5, c6, c7] := by
    match cs, hlen with
    | [c0, c1, c2, c3, c4, c5, c6, c7], _ => exact ⟨c0, c1, c2, c3, c4, c5, c6, c7, rfl⟩
  obtain ⟨y0, y1, y2, y3, m, hx, _, t0, t1, t2, t3⟩ := trod_struct4 Try.underlying36 hf
  obtain ⟨k, e0, f0, g0⟩ := DataW.trod_int Try.underlying3 t0
  obtain ⟨nn, e3, f3, g3⟩ := DataW.trod_int Try.underlying3 t3
  simp [cells3] at e0 e3
  subst e0 e3
  simp only [cells34] at t1 t2
  obtain ⟨a1, a2, a3, e1, g1⟩ := elem_val (by simp) t1
  obtain ⟨b1, b2, b3, e2, g2⟩ := elem_val (by simp) t2
  simp at e1 e2
  obtain ⟨rfl, rfl, rfl⟩ := e1
  obtain ⟨rfl, rfl, rfl⟩ := e2
  refine ⟨(k, (a1, a2, a3), (b1, b2, b3), nn), fun j hj => ?_, ?_, ?_⟩
  · rcases lt8 hj with rfl | rfl | rfl | rfl | rfl | rfl | rfl | rfl <;> rfl
  · have := bounds_i64 g1
    exact ⟨this.1, this.2⟩
  · exact bounds_i64 g3
set_option maxRecDepth 100000 in
theorem open_case {H : Type} {enc : TypeId × Value → H} {W : World} {base b0 : Nat} {held : Bool} {r : Reach} {v : Value} {d : DataW H} {ps : List MemPlace}
    (hval : Value.okWide Try.prog W r b0 24 v) (hd : DataW.Trod enc Try.prog W base (fun _ => true) held 24 v d ps) :
    ∃ (l x y : Int) (a : Option Addr) (L cap : Nat) (Q : Nat → Int × V × V × Int), v = cv l x y (.slice a L cap) ∧ L ≤ cap ∧ Ops W.heap.size W a L Q := by
  obtain ⟨cs, rfl, h2⟩ := okWide_struct Try.underlying24 hval
  rw [cells24] at h2
  obtain ⟨ll⟩ := cs
  obtain ⟨c0, c1, c2, c3, rfl⟩ : ∃ c0 c1 c2 c3, ll = [c0, c1, c2, c3] := by
    match ll, h2 with
    | [c0, c1, c2, c3], _ => exact ⟨c0, c1, c2, c3, rfl⟩
  obtain ⟨fuel, hf⟩ := hd
  obtain ⟨y0, y1, y2, y3, m, hx, _, t0, t1, t2, t3⟩ := trod_struct4 Try.underlying24 hf
  obtain ⟨l, e0, f0, g0⟩ := DataW.trod_int Try.underlying3 t0
  obtain ⟨x, e1, f1, g1⟩ := DataW.trod_int Try.underlying3 t1
  obtain ⟨y, e2, f2, g2⟩ := DataW.trod_int Try.underlying3 t2
  simp [Value.cells, cells3] at e0 e1 e2
  subst e0 e1 e2
  rw [cells22] at t3
  rcases open_slice Try.underlying22 t3 with ⟨h0, _⟩ | ⟨a, len, cap, m, n, D, Pl, h0, hb, hl, hm, hmm, hx, he⟩
  · simp [Value.cells] at h0
    subst h0
    exact ⟨l, x, y, none, 0, 0, fun _ => (0, nil, nil, 0), rfl, Nat.le_refl _, fun i hi => absurd hi (Nat.not_lt_zero _), fun h => absurd h (Nat.lt_irrefl _)⟩
  · simp only [if_true] at hmm
    subst hmm
    simp [Value.cells] at h0
    subst h0
    have each : ∀ i, i < m → ∃ q : Int × V × V × Int, (∀ j, j < 8 → W.cell? (a.add (i * 8 + j)) = some (oc q j)) ∧ Rng q.2.1 ∧ -9223372036854775808 ≤ q.2.2.2 ∧ q.2.2.2 ≤ 9223372036854775807 := by
      intro i hi
      obtain ⟨cs', h1, h2⟩ := he i hi
      rw [cells36] at h1
      obtain ⟨_, hlen, hcell⟩ := World.cells?_some h1
      obtain ⟨q, hq, hr⟩ := elem_op hlen h2
      refine ⟨q, fun j hj => ?_, hr⟩
      have := hcell j (by omega)
      rw [Addr.add_add] at this
      rw [this]
      exact hq j hj
    obtain ⟨Q, hQ⟩ : ∃ Q : Nat → Int × V × V × Int, ∀ i, i < m → (∀ j, j < 8 → W.cell? (a.add (i * 8 + j)) = some (oc (Q i) j)) ∧ Rng (Q i).2.1 ∧ -9223372036854775808 ≤ (Q i).2.2.2 ∧ (Q i).2.2.2 ≤ 9223372036854775807 :=
      ⟨fun i => if h : i < m then (each i h).choose else (0, nil, nil, 0), fun i hi => by
        simp only [dif_pos hi]
        exact (each i hi).choose_spec⟩
    refine ⟨l, x, y, some a, len, m, Q, rfl, hl, fun i hi => (hQ i (by omega)).2, fun h0 => ?_⟩
    have hc0 := (hQ 0 (by omega)).1 0 (by omega)
    have ha : a.add (0 * 8 + 0) = a := rfl
    rw [ha] at hc0
    obtain ⟨b, off, spot⟩ := a
    have hs : spot = none := by
      cases spot with
      | none => rfl
      | some q => unfold World.cell? at hc0; split at hc0 <;> simp at hc0
    subst hs
    have hadd : ∀ i, (Addr.add ⟨b, off, none⟩ i) = ⟨b, off + i, none⟩ := fun i => by
      by_cases hj0 : i = 0
      · subst hj0; rfl
      · simp [Addr.add, hj0]
    refine ⟨b, off, rfl, World.block_lt_of_cell? W _ hc0, fun i hi j hj => ?_⟩
    have := (hQ i (by omega)).1 j hj
    rw [hadd, ← Nat.add_assoc] at this
    exact this
end Go.Proofs.Ytonopchpnhninaa

/- The pure part of a table, on: a Set is a map's. -/
namespace Go.Proofs.Ytonopchpnhninaa
open Go.RowKit

theorem tset_map {t : TS} {s : H.St} {k v : V} (h : TI t.p) (hr : Rng k) :
    ((tset t s k v).2.2 = 0 → KOK k ∧ fm v = true ∧ pget (tset t s k v).1.p k = v ∧ ∀ k', KOK k' → k' ≠ k → pget (tset t s k v).1.p k' = pget t.p k') ∧
    ((tset t s k v).2.2 ≠ 0 → ∀ k', pget (tset t s k v).1.p k' = pget t.p k') := by
  unfold tset
  by_cases hf : fm k = true ∧ fm v = true
  · rw [if_neg (fun q => q hf)]
    by_cases hk0 : k.1 = 0
    · rw [if_pos hk0]
      exact ⟨fun q => absurd (show (9 : Int) = 0 from q) (by decide), fun _ _ => rfl⟩
    · rw [if_neg hk0]
      have hk : KOK k := ⟨hf.1, hk0, hr.1, hr.2⟩
      by_cases he : (pset t.p k v).2.2 = 12
      · rw [if_neg (fun q => q he)]
        obtain ⟨hA, hv, hv0, hnew, hfull, hg, hp, ha⟩ := h.full hk he
        have hb : ∀ k', pget (pset t.p k v).1 k' = pget t.p k' := pset_bad (by rw [he]; decide)
        have h1 : TI (pset t.p k v).1 := h.set hr hv
        have ep : (one t k v).p = (pset t.p k v).1 := rfl
        have hA1 : ¬ inA (pset t.p k v).1.n k := by rw [(pset_nz t.p k v).1]; exact hA
        have hnew1 : ∀ i, i < (pset t.p k v).1.z → (pset t.p k v).1.g.K i ≠ k := fun i hi e => by
          have hz := (pset_nz t.p k v).2
          rw [hz] at hi
          have e1 : pset t.p k v = ({ t.p with g := (put t.p.z t.p.g k v).1 }, (put t.p.z t.p.g k v).2.1, (put t.p.z t.p.g k v).2.2) := by unfold pset; rw [if_neg hA]
          have he' : (put t.p.z t.p.g k v).2.2 = 12 := by rw [e1] at he; exact he
          have e2 := (put_12 h.inv h.rt hk he').2.2.2.2.1
          rw [e1] at e
          have e3 : (put t.p.z t.p.g k v).1.K i = k := e
          rw [e2] at e3
          exact hnew i hi e3
        generalize one t k v = u at *
        by_cases hR : (reh u s k).2.2 = 0
        · rw [if_neg (fun q => q hR)]
          have e0 : rsE u.p k = 0 := by
            unfold reh at hR
            by_cases q : rsE u.p k = 0
            · exact q
            · rw [if_pos q] at hR; exact absurd hR q
          have e1 : (reh u s k).1.p = fill u.p (fresh (rsA u.p k) (rsZ u.p k)) := by
            unfold reh at hR ⊢
            rw [if_neg (fun q => q e0)] at hR ⊢
            by_cases q : tpE s (rsA u.p k) (rsZ u.p k) = 0
            · rw [if_neg (fun x => x q)]
            · rw [if_pos q] at hR; exact absurd hR q
          rw [← ep] at ha h1 hA1 hnew1 hb
          obtain ⟨_, i1, i2, i3, i4, i5⟩ := h1.behind hk hv hv0 hA1 hnew1 ha e0
          rw [e1]
          obtain ⟨m1, m2⟩ := i1.map hk i5
          exact ⟨fun _ => ⟨hk, hv, m1, fun k' hk' hne => (m2 k' hk' hne).trans ((i4 k' hk').trans (hb k'))⟩, fun q => absurd i5 q⟩
        · rw [if_pos hR]
          refine ⟨fun q => absurd q hR, fun _ k' => ?_⟩
          have e1 : (reh u s k).1 = u := by
            unfold reh at hR ⊢
            by_cases q : rsE u.p k = 0
            · rw [if_neg (fun x => x q)] at hR ⊢
              by_cases q2 : tpE s (rsA u.p k) (rsZ u.p k) = 0
              · rw [if_neg (fun x => x q2)] at hR; exact absurd rfl hR
              · rw [if_pos q2]
            · rw [if_pos q]
          rw [e1, ep]
          exact hb k'
      · rw [if_pos he]
        refine ⟨fun q => ?_, fun q k' => pset_bad q k'⟩
        obtain ⟨m1, m2⟩ := h.map hk q
        exact ⟨hk, hf.2, m1, m2⟩
  · rw [if_pos hf]
    exact ⟨fun q => absurd (show (2 : Int) = 0 from q) (by decide), fun _ _ => rfl⟩
end Go.Proofs.Ytonopchpnhninaa

/- Where a law stands that keeps two lists beside a table. -/
namespace Go.Proofs.Ytonopchpnhninaa
open Go.RowKit

structure Mp (P : Nat → Prop) (W w : World) (X : Nat) (xs : Value) (T S hb c : Nat) (t : TS) (s : H.St) (uk uv : Value) (n : Nat) (KF VF : Nat → V) : Prop where
  tt : ∃ A b a, TT P w T A b a S hb c t s
  lo : ∀ g, g ≤ X → P g
  ok1 : ∀ x, uk.ownBlock = some x → P x
  ok2 : ∀ x, uv.ownBlock = some x → P x
  bel : Below X W w
  xc : w.cell? ⟨X, 3, none⟩ = some xs
  sz : X < w.heap.size
  lk : Lv w (X + 1) uk n KF
  lv : Lv w (X + 1) uv n VF
  ne : ∀ x, uk.ownBlock = some x → uv.ownBlock ≠ some x
  ok : ∀ i, i < n → KOK (KF i)
  one : ∀ i j, i < n → j < n → KF i = KF j → i = j
variable {P : Nat → Prop} {W w w' : World} {X : Nat} {xs : Value} {T S hb c : Nat} {t : TS} {s : H.St} {uk uv : Value} {n : Nat} {KF VF : Nat → V}
theorem Mp.ti (h : Mp P W w X xs T S hb c t s uk uv n KF VF) : TI t.p := by obtain ⟨A, b, a, ht⟩ := h.tt; exact ht.ti
theorem Mp.below (h : Mp P W w X xs T S hb c t s uk uv n KF VF) (k : Below w.heap.size w w') : Mp P W w' X xs T S hb c t s uk uv n KF VF := by
  obtain ⟨A, b, a, ht⟩ := h.tt
  exact ⟨⟨A, b, a, ht.below k⟩, h.lo, h.ok1, h.ok2, bthen h.bel (Nat.le_of_lt h.sz) k, by rw [k.cell (by exact h.sz)]; exact h.xc, Nat.lt_of_lt_of_le h.sz k.size, h.lk.below k, h.lv.below k, h.ne, h.ok, h.one⟩
theorem Mp.news (h : Mp P W w X xs T S hb c t s uk uv n KF VF) (k : Below w.heap.size w w') : Mp (fun g => P g ∨ (w.heap.size ≤ g ∧ g < w'.heap.size)) W w' X xs T S hb c t s uk uv n KF VF := by
  obtain ⟨A, b, a, ht⟩ := h.tt
  exact ⟨⟨A, b, a, ht.news k⟩, fun g q => .inl (h.lo g q), fun x q => .inl (h.ok1 x q), fun x q => .inl (h.ok2 x q), bthen h.bel (Nat.le_of_lt h.sz) k, by rw [k.cell (by exact h.sz)]; exact h.xc, Nat.lt_of_lt_of_le h.sz k.size, h.lk.below k, h.lv.below k, h.ne, h.ok, h.one⟩
theorem Mp.kept (h : Mp P W w X xs T S hb c t s uk uv n KF VF) {c' : Nat} {t' : TS} {s' : H.St} (ht : ∃ A b a, TT P w' T A b a S hb c' t' s') (k : Keep P w w') : Mp P W w' X xs T S hb c' t' s' uk uv n KF VF :=
  ⟨ht, h.lo, h.ok1, h.ok2, h.bel.trans (k.below (Nat.le_of_lt h.sz) (fun g hg => h.lo g (Nat.le_of_lt hg))), by rw [World.cell?_of_block (w := w) (k.block X h.sz (h.lo X (Nat.le_refl _)))]; exact h.xc, Nat.lt_of_lt_of_le h.sz k.size, h.lk.keep k h.ok1, h.lv.keep k h.ok2, h.ne, h.ok, h.one⟩
theorem Mp.set (h : Mp P W w X xs T S hb c t s uk uv n KF VF) (hc : c ≤ 700000) (k v : V) (hr : Rng k) :
    Calls Try.prog 9 #[tp T, vv k, vv v] w fun e w' => e = .returned (.int .i64 (tset t s k v).2.2) ∧ Mp P W w' X xs T S hb (c + 7) (tset t s k v).1 (tset t s k v).2.1 uk uv n KF VF ∧ Keep P w w' := by
  obtain ⟨A, b, a, ht⟩ := h.tt
  refine (tset_any ht hc k v hr).mono ?_
  rintro e w' ⟨rfl, h', kk⟩
  exact ⟨rfl, h.kept h' kk, kk⟩
theorem Mp.get (h : Mp P W w X xs T S hb c t s uk uv n KF VF) (hc : c ≤ 700000) (k : V) (hr : Rng k) :
    Calls Try.prog 10 #[tp T, vv k] w fun e w' => e = .returned (vv (pget t.p k)) ∧ Mp P W w' X xs T S hb (c + 1) { t with pr := t.pr + (prd t.p k : Nat) } s uk uv n KF VF ∧ Keep P w w' := by
  obtain ⟨A, b, a, ht⟩ := h.tt
  refine (tget_any ht (by omega) k hr).mono ?_
  rintro e w' ⟨rfl, h', kk⟩
  exact ⟨rfl, h.kept ⟨A, b, a, h'⟩ kk, kk⟩
/-- Where none but the two lists' blocks were written. -/
abbrev offL (uk uv : Value) (g : Nat) : Prop := uk.ownBlock ≠ some g ∧ uv.ownBlock ≠ some g
theorem Mp.move (h : Mp P W w X xs T S hb c t s uk uv n KF VF) (k : Keep (offL uk uv) w w') {uk' uv' : Value} {n' : Nat} {KF' VF' : Nat → V} (l1 : Lv w' (X + 1) uk' n' KF') (l2 : Lv w' (X + 1) uv' n' VF')
    (q1 : ∀ x, uk'.ownBlock = some x → P x ∨ w.heap.size ≤ x) (q2 : ∀ x, uv'.ownBlock = some x → P x ∨ w.heap.size ≤ x) (ne : ∀ x, uk'.ownBlock = some x → uv'.ownBlock ≠ some x) (ok : ∀ i, i < n' → KOK (KF' i)) (one : ∀ i j, i < n' → j < n' → KF' i = KF' j → i = j) :
    Mp (fun g => P g ∨ (w.heap.size ≤ g ∧ g < w'.heap.size)) W w' X xs T S hb c t s uk' uv' n' KF' VF' := by
  obtain ⟨A, b, a, ht⟩ := h.tt
  have hx : ∀ g, g ≤ X → offL uk uv g := fun g hg => ⟨fun e => by have := (h.lk.own.lt g e).1; omega, fun e => by have := (h.lv.own.lt g e).1; omega⟩
  refine ⟨⟨A, b, a, ht.frame2 k.os k.tape k.output k.size (fun g hg hn => k.block g hg ⟨fun e => hn (h.ok1 g e), fun e => hn (h.ok2 g e)⟩)⟩, fun g q => .inl (h.lo g q), fun x q => ?_, fun x q => ?_, h.bel.trans (k.below (Nat.le_of_lt h.sz) (fun g hg => hx g (Nat.le_of_lt hg))), by rw [World.cell?_of_block (w := w) (k.block X h.sz (hx X (Nat.le_refl _)))]; exact h.xc, Nat.lt_of_lt_of_le h.sz k.size, l1, l2, ne, ok, one⟩
  · rcases q1 x q with r | r
    · exact .inl r
    · exact .inr ⟨r, (l1.own.lt x q).2⟩
  · rcases q2 x q with r | r
    · exact .inl r
    · exact .inr ⟨r, (l2.own.lt x q).2⟩

theorem Bx.mk2 (x : V) {W : World} {b : Nat} (h : b = W.heap.size) : Bx (W.alloc (.cells #[.int .i64 x.1, .int .i64 x.2.1, .string x.2.2] 34)) b x := by subst h; exact Bx.made W x
theorem Bx.al {W : World} {b : Nat} {x : V} (h : Bx W b x) (o : Obj) : Bx (W.alloc o) b x := h.below (b1 _ _)
theorem Bx.dr {W : World} {b : Nat} {x : V} (h : Bx W b x) : Bx W.drew b x := h.below (bdrew1 _)
theorem Bx.gr {W W' : World} {b : Nat} {x : V} {row : Option Nat} (hg : W.grownBy W' row) (h : Bx W b x) (hr : row ≠ some b) : Bx W' b x :=
  h.kept (No := fun y => some y ≠ row) ⟨hg.os, hg.tape, hg.output, hg.size, fun y hy hn => hg.block y hy hn⟩ (fun e => hr e.symm)
theorem Keep.grw {Q : Nat → Prop} {w w1 w2 : World} {row : Option Nat} (h : Keep Q w w1) (k : w1.grownBy w2 row) (hr : ∀ y, row = some y → ¬ Q y) : Keep Q w w2 :=
  h.trans ⟨k.os, k.tape, k.output, k.size, fun y hy hn => k.block y hy (fun e => hr y e.symm hn)⟩
theorem step_app {ops : Array Oper} {o : Oper} {ac : Act} {K : Act → World → Prop} {Q : Exit → Act → World → Prop} {E : Prop} {W : World} {B : Nat} {v : Value} {n : Nat} {F : Nat → V} {x : V} (hgd : o.guard = none) (s y : Operand)
    (ho : o.op = .call { callee := .builtin .append, args := #[s, y], argTypes := #[32, 32] }) (hty : o.type = 32) (hs : ac.eval s = v) (hy : ∃ b, ac.eval y = .slice (some ⟨b, 0, none⟩) 1 1 ∧ Bx W b x) (hl : Lv W B v n F) (hn : n ≤ 400) (hB : B ≤ W.heap.size)
    (h : ∀ g c w', Lv w' B (.slice (some ⟨g, 0, none⟩) (n + 1) c) (n + 1) (upd F n x) → W.grownBy w' v.ownBlock → (v.ownBlock = some g ∨ g = W.heap.size) → g < w'.heap.size → K (ac.put o.dst (.slice (some ⟨g, 0, none⟩) (n + 1) c)) w') :
    if Region.wanted o (yielded ops ac.tmps) = true then Oper.wp Try.prog o ac W K Q else E := by
  obtain ⟨b, hb, hx⟩ := hy
  obtain ⟨g, c, w', hr, h1, h2, h3, h4⟩ := hl.app x hx hn hB
  have hw : Region.wanted o (yielded ops ac.tmps) = true := by simp [Region.wanted, hgd]
  rw [if_pos hw]
  unfold Oper.wp execOp
  simp only [ho, hty, resolve, invoke, builtin, Sem.run_bind, Sem.run_pure, Result.andThen_ok, List.map_toArray, List.map_cons, List.map_nil, hs, hb, hr]
  exact h g c w' h1 h2 h3 h4
end Go.Proofs.Ytonopchpnhninaa
