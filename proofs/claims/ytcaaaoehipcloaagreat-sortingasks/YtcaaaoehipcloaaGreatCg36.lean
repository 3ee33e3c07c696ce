/- The reference's New as a part; its Put at all arguments. -/
import Derived.Test.YtcaaaoehipcloaaGreatCg35
import Derived.Test.YtcaaaoehipcloaaGreatCg32
import Derived.Test.YtcaaaoehipcloaaGreatCg08
namespace Go.Proofs.YtcaaaoehipcloaaGreat
open Go.RowKit

theorem made_vals {w : World} {b n : Nat} (h : w.heap[b]? = some (.cells (zeros3 n) 34)) : Rv w b n (fun _ => nil) := ⟨fun i hi j hj => by
  rw [cell_of_row h]
  have h1 : i * 3 + j < n * 3 := by omega
  have h2 : i * 3 < n * 3 := by omega
  have hm : (i * 3 + j) % 3 = j := by omega
  rcases lt3 hj with rfl | rfl | rfl <;> simp [zeros3, madeCells, Value.cells, vc, nil, h1, h2, hm]⟩
theorem made_chain {w : World} {b n : Nat} (h : w.heap[b]? = some (.cells (zeros1 n) 37)) {m : Nat} (hm : m < n) : w.cell? ⟨b, m, none⟩ = some (.slice none 0 0) := by
  rw [cell_of_row h]
  simp [zeros1, madeCells, Value.cells, hm, Nat.mod_one]
theorem free_of {w : World} {b : Nat} {cs : Array Value} {t : TypeId} (h : w.heap[b]? = some (.cells cs t)) (j : Nat) : w.frozen? ⟨b, j, none⟩ = false := by
  unfold World.frozen?
  rw [h]
  simp
theorem Rn.rs {w w' : World} {S ka va ca n : Nat} (h : Rn w w' S ka va ca n) : Rs (fun g => g < w.heap.size) w w' S ka va ca n (g0 n) (fun _ => 0) := by
  refine ⟨⟨by rw [cell_of_row h.s]; rfl, by rw [cell_of_row h.s]; rfl, by rw [cell_of_row h.s]; rfl, by rw [cell_of_row h.s]; rfl, made_vals h.k, made_vals h.v, fun m hm => ⟨_, made_chain h.c hm, .inl ⟨rfl, rfl⟩⟩, free_of h.s, free_of h.k, free_of h.v, free_of h.c, h.ne, fun m _ he => absurd rfl he, fun m m' _ _ he => absurd rfl he, h.lt⟩, fun x hx => ?_, Keep.of h.bel⟩
  rcases hx with q | q | q | q | ⟨m, _, he, _⟩
  · rw [q]; exact Nat.not_lt.2 h.ge.1
  · rw [q]; exact Nat.not_lt.2 h.ge.2.1
  · rw [q]; exact Nat.not_lt.2 h.ge.2.2.1
  · rw [q]; exact Nat.not_lt.2 h.ge.2.2.2
  · exact absurd rfl he
theorem rput_all {N : Nat → Prop} {S ka va ca z : Nat} {g : G} {cb : Nat → Nat} (k v : V) (w0 w : World) (h : Rs N w0 w S ka va ca z g cb) (hNw : ∀ g, N g → g < w.heap.size) (hi : Inv z (pl z) KOK g) (hz : Rt z) (hr : Rng k) :
    Calls Tryz.prog 34 #[pp S, vl k.1 k.2.1 k.2.2, vl v.1 v.2.1 v.2.2] w fun e w' => e = .returned (.tuple #[.int .i64 ((put z g k v).2.1 : Nat), .int .i64 (put z g k v).2.2]) ∧ ∃ cb', Rs N w w' S ka va ca z (put z g k v).1 cb' := by
  by_cases hf : fm k = true ∧ fm v = true
  · by_cases hk : k.1 = 0
    · have e : put z g k v = (g, 0, 9) := by rw [put, if_pos hf, if_pos hk]
      rw [e]
      exact (rput_key k v w hf hk).mono fun e w' ⟨h1, h2⟩ => ⟨h1, cb, h.rp.below h2, h.ge, Keep.of h2⟩
    · by_cases hz0 : z = 0
      · subst hz0
        have e : put 0 g k v = (g, 0, if v.1 = 0 then 0 else 12) := by rw [put, if_pos hf, if_neg hk, if_pos rfl]
        rw [e]
        exact (rput_zero k v w h.rp hi hf hk hr).mono fun e w' ⟨h1, h2⟩ => ⟨h1, cb, h.rp.below h2, h.ge, Keep.of h2⟩
      · exact rput_good k v w h.rp h.ge hNw hi (hz.resolve_left hz0) ⟨hf.1, hk, hr.1, hr.2⟩ hf.2
  · have e : put z g k v = (g, 0, 2) := by rw [put, if_neg hf]
    rw [e]
    exact (rput_form k v w hf).mono fun e w' ⟨h1, h2⟩ => ⟨h1, cb, h.rp.below h2, h.ge, Keep.of h2⟩
end Go.Proofs.YtcaaaoehipcloaaGreat

/- The reference's table and its heap; the walk of lay. The great seat's numbers. -/
namespace Go.Proofs.YtcaaaoehipcloaaGreat
open Go.RowKit

theorem RH.frame2 {No : Nat → Prop} {w w' : World} {S c : Nat} {s : H.St} (h : RH No w S c s) (hs : w.heap.size ≤ w'.heap.size) (hb : ∀ g, g < w.heap.size → ¬ No g → w'.heap[g]? = w.heap[g]?) : RH (fun g => No g ∨ (w.heap.size ≤ g ∧ g < w'.heap.size)) w' S c s := by
  obtain ⟨va, r, h1, h2, h3⟩ := h
  refine ⟨va, r, h1.far (hb S h1.apart.2 h1.noS) (fun g e => hb g (h1.row.lt g e).2 (h1.nov g e)) (Nat.le_refl _) (fun g q => ?_), h2, h3⟩
  rcases q with q | q
  · have := h1.nos g q
    exact ⟨by omega, fun e => h1.noS (e ▸ q), fun e => h1.nov g e q⟩
  · exact ⟨q.2, fun e => by have := h1.apart.2; omega, fun e => by have := (h1.row.lt g e).2; omega⟩
/-- The reference's table and its heap; No: blocks of others. -/
structure RQ (No : Nat → Prop) (w : World) (RT A P ka va ca : Nat) (cb : Nat → Nat) (G c : Nat) (t : TS) (s : H.St) : Prop where
  rb : Rb w RT A P ka va ca cb G t
  rh : RH (fun g => No g ∨ Rb.Own RT A P ka va ca cb t g) w G c s
  no : ∀ x, Rb.Own RT A P ka va ca cb t x → ¬ No x
  ti : TI t.p
  iv : H.Inv 0 s
  p0 : 0 ≤ t.pr
  p1 : t.pr ≤ (c : Int) * 65536
section
variable {No : Nat → Prop} {w w' : World} {RT A P ka va ca : Nat} {cb : Nat → Nat} {G c : Nat} {t : TS} {s : H.St}
theorem RQ.nos (h : RQ No w RT A P ka va ca cb G c t s) : ∀ g, No g → g < w.heap.size := fun g q => h.rh.nos g (.inl q)
theorem RQ.below (h : RQ No w RT A P ka va ca cb G c t s) (k : Below w.heap.size w w') : RQ No w' RT A P ka va ca cb G c t s := ⟨h.rb.below k, h.rh.below k, h.no, h.ti, h.iv, h.p0, h.p1⟩
theorem RQ.more (h : RQ No w RT A P ka va ca cb G c t s) {c' : Nat} (hc : c ≤ c') : RQ No w RT A P ka va ca cb G c' t s := ⟨h.rb, h.rh.more hc, h.no, h.ti, h.iv, h.p0, by have := h.p1; omega⟩
theorem RQ.sub (h : RQ No w RT A P ka va ca cb G c t s) {No' : Nat → Prop} (hn : ∀ g, No' g → No g) : RQ No' w RT A P ka va ca cb G c t s := ⟨h.rb, h.rh.sub (fun g q => q.imp (hn g) id), fun x q e => h.no x q (hn x e), h.ti, h.iv, h.p0, h.p1⟩
theorem RQ.news (h : RQ No w RT A P ka va ca cb G c t s) (k : Below w.heap.size w w') : RQ (fun g => No g ∨ (w.heap.size ≤ g ∧ g < w'.heap.size)) w' RT A P ka va ca cb G c t s := by
  refine ⟨h.rb.below k, (h.rh.news k).sub (fun g q => ?_), fun x q e => ?_, h.ti, h.iv, h.p0, h.p1⟩
  · rcases q with (q | q) | q
    · exact .inl (.inl q)
    · exact .inr q
    · exact .inl (.inr q)
  · have hlt := h.rh.nos x (.inr q)
    rcases e with e | e
    · exact h.no x q e
    · omega
/-- Another's call leaves all but its own blocks. -/
theorem RQ.frame (h : RQ No w RT A P ka va ca cb G c t s) (k : Keep (fun g => ¬ No g) w w') : RQ (fun g => No g ∨ (w.heap.size ≤ g ∧ g < w'.heap.size)) w' RT A P ka va ca cb G c t s := by
  refine ⟨h.rb.kept k h.no, (h.rh.frame2 k.size (fun g hg hn => k.block g hg (fun q => hn (.inl q)))).sub (fun g q => ?_), fun x q e => ?_, h.ti, h.iv, h.p0, h.p1⟩
  · rcases q with (q | q) | q
    · exact .inl (.inl q)
    · exact .inr q
    · exact .inl (.inr q)
  · have hlt := h.rh.nos x (.inr q)
    rcases e with e | e
    · exact h.no x q e
    · omega
/-- The blocks that a Put on the part leaves. -/
abbrev Np (w : World) (P ka va ca z : Nat) (g : Proofs.YtcaaaoehipcloaaGreat.G) (cb : Nat → Nat) : Nat → Prop := fun x => x < w.heap.size ∧ ¬ Rp.Own P ka va ca z g cb x
/-- The part behind a Put is the table's. -/
theorem RQ.part (h : RQ No w RT A P ka va ca cb G c t s) {g' : Proofs.YtcaaaoehipcloaaGreat.G} {cb' : Nat → Nat} (hs : Rs (Np w P ka va ca t.p.z t.p.g cb) w w' P ka va ca t.p.z g' cb') (ti : TI { t.p with g := g' }) :
    RQ No w' RT A P ka va ca cb' G c { t with p := { t.p with g := g' } } s ∧ Keep No w w' := by
  have nR : Np w P ka va ca t.p.z t.p.g cb RT := ⟨h.rb.ltR, fun q => h.rb.nR RT q rfl⟩
  have nA : Np w P ka va ca t.p.z t.p.g cb A := ⟨h.rb.ltA, fun q => h.rb.nA A q rfl⟩
  have eR := hs.keep.block RT h.rb.ltR nR
  have eA := hs.keep.block A h.rb.ltA nA
  have hown : ∀ x, Rp.Own P ka va ca t.p.z g' cb' x → Rp.Own P ka va ca t.p.z t.p.g cb x ∨ (w.heap.size ≤ x ∧ x < w'.heap.size) := fun x q => by
    by_cases hx : x < w.heap.size
    · by_cases ho : Rp.Own P ka va ca t.p.z t.p.g cb x
      · exact .inl ho
      · exact absurd ⟨hx, ho⟩ (hs.ge x q)
    · exact .inr ⟨by omega, hs.rp.own_lt q⟩
  have kN : Keep No w w' := hs.keep.sub (fun g q => ⟨h.nos g q, fun e => h.no g (.inr (.inr e)) q⟩)
  refine ⟨⟨⟨by rw [World.cell?_of_block (w := w) eR]; exact h.rb.c0, by rw [World.cell?_of_block (w := w) eR]; exact h.rb.c1, by rw [World.cell?_of_block (w := w) eR]; exact h.rb.c2, by rw [World.cell?_of_block (w := w) eR]; exact h.rb.c3, by rw [World.cell?_of_block (w := w) eR]; exact h.rb.c4, by rw [World.cell?_of_block (w := w) eR]; exact h.rb.c5, by rw [World.cell?_of_block (w := w) eR]; exact h.rb.c6, fun j => by rw [World.frozen?_of_block (w := w) eR]; exact h.rb.fz j, h.rb.sl.block eA, fun j => by rw [World.frozen?_of_block (w := w) eA]; exact h.rb.fA j, Nat.lt_of_lt_of_le h.rb.ltR hs.keep.size, Nat.lt_of_lt_of_le h.rb.ltA hs.keep.size, hs.rp, h.rb.nRA, fun x q e => hs.ge x q (e ▸ nR), fun x q e => hs.ge x q (e ▸ nA)⟩, ?_, fun x q e => ?_, ti, h.iv, h.p0, h.p1⟩, kN⟩
  · refine (h.rh.frame2 hs.keep.size (fun g hg hn => hs.keep.block g hg ⟨hg, fun q => hn (.inr (.inr (.inr q)))⟩)).sub (fun g q => ?_)
    rcases q with q | q | q | q
    · exact .inl (.inl q)
    · exact .inl (.inr (.inl q))
    · exact .inl (.inr (.inr (.inl q)))
    · rcases hown g q with r | r
      · exact .inl (.inr (.inr (.inr r)))
      · exact .inr r
  · rcases q with q | q | q
    · exact h.no x (.inl q) e
    · exact h.no x (.inr (.inl q)) e
    · rcases hown x q with r | r
      · exact h.no x (.inr (.inr r)) e
      · have := h.nos x e; omega
theorem RQ.put (h : RQ No w RT A P ka va ca cb G c t s) (k v : V) (hr : Rng k) (ti : TI { t.p with g := (put t.p.z t.p.g k v).1 }) :
    Calls Tryz.prog 34 #[.pointer (some ⟨P, 0, none⟩), vv k, vv v] w fun e w' => e = .returned (.tuple #[.int .i64 ((Proofs.YtcaaaoehipcloaaGreat.put t.p.z t.p.g k v).2.1 : Nat), .int .i64 (Proofs.YtcaaaoehipcloaaGreat.put t.p.z t.p.g k v).2.2]) ∧ (∃ cb', RQ No w' RT A P ka va ca cb' G c { t with p := { t.p with g := (Proofs.YtcaaaoehipcloaaGreat.put t.p.z t.p.g k v).1 } } s) ∧ Keep No w w' := by
  have hs : Rs (Np w P ka va ca t.p.z t.p.g cb) w w P ka va ca t.p.z t.p.g cb := ⟨h.rb.rp, fun x q e => e.2 q, Keep.refl _ _⟩
  refine (rput_all k v w w hs (fun g q => q.1) h.ti.inv h.ti.rt hr).mono ?_
  rintro e w' ⟨rfl, cb', h'⟩
  obtain ⟨q1, q2⟩ := h.part h' ti
  exact ⟨rfl, ⟨cb', q1⟩, q2⟩
/-- A slot is set. -/
theorem RQ.slot (h : RQ No w RT A P ka va ca cb G c t s) {i : Nat} (hi : i < t.p.n) (x : V) (ti : TI { t.p with F := upd t.p.F i x }) :
    RQ No (set3i w A i x) RT A P ka va ca cb G c { t with p := { t.p with F := upd t.p.F i x } } s ∧ Keep No w (set3i w A i x) := by
  have k : Keep (fun y => y ≠ A) w (set3i w A i x) := set3i_keep w A i x
  have hsl := h.rb.sl.seti hi x
  have hfA : ∀ j, (set3i w A i x).frozen? ⟨A, j, none⟩ = false := fun j => by rw [set3i_frozen]; exact h.rb.fA j
  generalize set3i w A i x = W1 at *
  have eR := k.block RT h.rb.ltR h.rb.nRA
  have hrp := h.rb.rp.kept k h.rb.nA
  have hrh := h.rh.frame k.size (fun g hg hn => k.block g hg (fun e => hn (.inr (.inr (.inl e)))))
  refine ⟨⟨⟨by rw [World.cell?_of_block (w := w) eR]; exact h.rb.c0, by rw [World.cell?_of_block (w := w) eR]; exact h.rb.c1, by rw [World.cell?_of_block (w := w) eR]; exact h.rb.c2, by rw [World.cell?_of_block (w := w) eR]; exact h.rb.c3, by rw [World.cell?_of_block (w := w) eR]; exact h.rb.c4, by rw [World.cell?_of_block (w := w) eR]; exact h.rb.c5, by rw [World.cell?_of_block (w := w) eR]; exact h.rb.c6, fun j => by rw [World.frozen?_of_block (w := w) eR]; exact h.rb.fz j, hsl, hfA, Nat.lt_of_lt_of_le h.rb.ltR k.size, Nat.lt_of_lt_of_le h.rb.ltA k.size, hrp, h.rb.nRA, h.rb.nR, h.rb.nA⟩, hrh, h.no, ti, h.iv, h.p0, h.p1⟩, k.sub (fun g q e => h.no A (.inr (.inl rfl)) (e ▸ q))⟩
end
end Go.Proofs.YtcaaaoehipcloaaGreat

/- The walk of the reference's lay. The great seat's numbers. -/
namespace Go.Proofs.YtcaaaoehipcloaaGreat
open Go.RowKit

set_option maxRecDepth 20000 in
set_option maxHeartbeats 4000000 in
/-- lay: into a slot or a node. -/
theorem rlay_any {No : Nat → Prop} {w : World} {RT A P ka va ca : Nat} {cb : Nat → Nat} {G c : Nat} {t : TS} {s : H.St} (h : RQ No w RT A P ka va ca cb G c t s) (k v : V) (hr : Rng k) (hv : fm v = true) :
    Calls Tryz.prog 36 #[.pointer (some ⟨RT, 0, none⟩), vv k, vv v] w fun e w' => e = .returned (.tuple #[]) ∧ (∃ cb', RQ No w' RT A P ka va ca cb' G c { t with p := (pset t.p k v).1 } s) ∧ Keep No w w' := by
  have hti : TI (pset t.p k v).1 := h.ti.set hr hv
  have B0 := b2 w (.cells #[.int .i64 k.1, .int .i64 k.2.1, .string k.2.2] 34) (.cells #[.int .i64 v.1, .int .i64 v.2.1, .string v.2.2] 34)
  have X1 : Bx ((w.alloc (vb k.1 k.2.1 k.2.2)).alloc (vb v.1 v.2.1 v.2.2)) w.heap.size k := (Bx.made w k).below (b1 _ _)
  have X2 : Bx ((w.alloc (vb k.1 k.2.1 k.2.2)).alloc (vb v.1 v.2.1 v.2.2)) (w.heap.size + 1) v := by
    have h2 := Bx.made (w.alloc (vb k.1 k.2.1 k.2.2)) v
    rw [show (w.alloc (vb k.1 k.2.1 k.2.2)).heap.size = w.heap.size + 1 by simp] at h2
    exact h2
  unfold vb at X1 X2
  obtain ⟨Wx, hWx⟩ : ∃ Wx, w.alloc (.cells #[.int .i64 k.1, .int .i64 k.2.1, .string k.2.2] 34) = Wx := ⟨_, rfl⟩
  have hsx : Wx.heap.size = w.heap.size + 1 := by rw [← hWx]; simp
  rw [hWx] at X1 X2 B0
  obtain ⟨W0, hW0⟩ : ∃ W0, Wx.alloc (.cells #[.int .i64 v.1, .int .i64 v.2.1, .string v.2.2] 34) = W0 := ⟨_, rfl⟩
  rw [hW0] at X1 X2 B0
  have h0 := h.below B0
  have CW := rwithin_any k W0 h0.rb.c0 h0.rb.ltR
  have HKB : Hid (Keep No w W0) := Keep.of B0
  have HX1 : Hid (Bx W0 w.heap.size k) := X1
  have HX2 : Hid (Bx W0 (w.heap.size + 1) v) := X2
  have HQ0 : Hid (RQ No W0 RT A P ka va ca cb G c t s) := h0
  have HTI : Hid (TI (pset t.p k v).1) := hti
  have HR : Hid (Rng k) := hr
  have d0 := X1.c0
  have d1 := X1.c1
  have d2 := X1.c2
  have hle := h.ti.le
  clear h hti B0 X1 X2 h0 hr hv
  generalize hsz : w.heap.size = N at *
  have HSZ : Hid (w.heap.size = N) := hsz
  by_cases hA : inA t.p.n k
  · rw [decide_eq_true hA] at CW
    have hp : (pset t.p k v).1 = { t.p with F := upd t.p.F (ix k) v } := by unfold pset; rw [if_pos hA]
    have hix : ix k < t.p.n := by have := hA.2.2; unfold ix; omega
    have Hk1 : Hid (k.2.1 = (ix k : Int) + 1) := by have := hA.2.2; show k.2.1 = (ix k : Int) + 1; unfold ix; omega
    have hwr : IntKind.i64.wrap (k.2.1 - 1) = (ix k : Int) := by have := Hk1.out; rw [IntKind.wrap_i64]; omega
    rw [hp] at HTI ⊢
    unfold vv vl at CW ⊢
    clear hA
    go_enter Tryz.func36, Tryz.ntmps36
    go_wp2_with fail
    refine CW.mono ?_; rintro e W1 ⟨rfl, hb1⟩
    have HQ1 : Hid (RQ No W1 RT A P ka va ca cb G c t s) := HQ0.out.below hb1
    have x1 := HX1.out.below hb1
    have x2 := HX2.out.below hb1
    have e0 := HQ1.out.rb.c0
    have e1 := x1.c1
    have v0 := x2.c0
    have v1 := x2.c1
    have v2 := x2.c2
    obtain ⟨s1, s2⟩ := HQ1.out.slot hix v HTI.out
    obtain ⟨c0', c1', c2'⟩ := HQ1.out.rb.sl.at hix
    have fA := HQ1.out.rb.fA
    have hixi : (ix k : Int) < (t.p.n : Int) := by omega
    have HK1 : Hid (Keep No w W1) := HKB.out.trans (Keep.of hb1)
    obtain ⟨W2, hW2⟩ : ∃ W2, set3i W1 A (ix k) v = W2 := ⟨_, rfl⟩
    rw [hW2] at s1 s2
    have HS : Hid (RQ No W2.drew RT A P ka va ca cb G c { t with p := { t.p with F := upd t.p.F (ix k) v } } s ∧ Keep No w W2.drew) := ⟨s1.below (bdrew1 W2), (HK1.out.trans s2).trans (Keep.of (bdrew1 W2))⟩
    unfold set3i at hW2
    clear s1 s2 x1 x2 hb1 CW HQ1 HX1 HX2 HQ0 HKB hp HTI d0 d1 d2 hW0 hWx hsx
    go_wp2_with fail
    go_region
    all_goals
      go_wp2_with fail
      refine bodyPost_ret (v := .tuple #[]) ?_ rfl ⟨rfl, ⟨cb, HS.out.1⟩, HS.out.2⟩
      simp [results, Tryz.results36, go_sem]
  · rw [decide_eq_false hA] at CW
    have hp : (pset t.p k v).1 = { t.p with g := (put t.p.z t.p.g k v).1 } := by unfold pset; rw [if_neg hA]
    rw [hp] at HTI ⊢
    unfold vv vl at CW ⊢
    clear hA
    go_enter Tryz.func36, Tryz.ntmps36
    go_wp2_with fail
    refine CW.mono ?_; rintro e W1 ⟨rfl, hb1⟩
    have HQ1 : Hid (RQ No W1 RT A P ka va ca cb G c t s) := HQ0.out.below hb1
    have x1 := HX1.out.below hb1
    have x2 := HX2.out.below hb1
    have e1 := HQ1.out.rb.c1
    have k0 := x1.c0
    have k1 := x1.c1
    have k2 := x1.c2
    have v0 := x2.c0
    have v1 := x2.c1
    have v2 := x2.c2
    have CP := (HQ1.out.below (bdrew1 W1)).put k v HR.out HTI.out
    have HK1 : Hid (Keep No w W1.drew) := (HKB.out.trans (Keep.of hb1)).trans (Keep.of (bdrew1 W1))
    unfold vv vl at CP
    clear x1 x2 hb1 CW HQ1 HX1 HX2 HQ0 HKB hp HTI d0 d1 d2 hW0 hWx hsx
    go_wp2_with fail
    go_region_with (go_at_call 34; refine CP.mono ?_; rintro e W2 ⟨rfl, q1, q2⟩; have HS : Hid ((∃ cb', RQ No W2 RT A P ka va ca cb' G c { t with p := { t.p with g := (put t.p.z t.p.g k v).1 } } s) ∧ Keep No w W2) := ⟨q1, HK1.out.trans q2⟩; clear q1 q2)
    all_goals
      go_wp2_with fail
      go_end0
      exact ⟨rfl, HS.out.1, HS.out.2⟩
end Go.Proofs.YtcaaaoehipcloaaGreat

/- The walk of the reference's Present. The great seat's numbers. -/
namespace Go.Proofs.YtcaaaoehipcloaaGreat
open Go.RowKit

theorem Lv.app2 {w : World} {B : Nat} {v : Value} {n : Nat} {F : Nat → V} (h : Lv w B v n F) {b : Nat} (x : V) (hx : Bx w b x) (hn : n ≤ 200000) (hB : B ≤ w.heap.size) :
    ∃ g c w', (Builtin.append_ #[22, 22] 22 #[v, .slice (some ⟨b, 0, none⟩) 1 1]).run Tryz.prog w = .ok (.slice (some ⟨g, 0, none⟩) (n + 1) c) w' ∧ Lv w' B (.slice (some ⟨g, 0, none⟩) (n + 1) c) (n + 1) (upd F n x) ∧ w.grownBy w' v.ownBlock ∧ (v.ownBlock = some g ∨ g = w.heap.size) ∧ g < w'.heap.size := by
  obtain ⟨i0, hi, hz0, hz1, hz2⟩ := info_parts info32
  obtain ⟨g, c, w', h1, h2, h3, h4, h5⟩ := run_append_lies (P := Tryz.prog) w 22 22 B 34 i0 (vl 0 0 ⟨#[]⟩) 3 32 Tryz.underlying22 hi hz0 hz1 hz2 rfl (by omega) v n (cellsV F n) h.own ⟨b, 0, none⟩ 1 1 [.int .i64 x.1, .int .i64 x.2.1, .string x.2.2] rfl (fun j u hu => by
    have hadd : (⟨b, 0, none⟩ : Addr).add j = ⟨b, j, none⟩ := by unfold Addr.add; split <;> simp_all
    rw [hadd]
    have hj : j < 3 := (List.getElem?_eq_some_iff.1 hu).1
    rcases lt3 hj with rfl | rfl | rfl
    · simp at hu; rw [← hu]; exact hx.c0
    · simp at hu; rw [← hu]; exact hx.c1
    · simp at hu; rw [← hu]; exact hx.c2) (by intro u hu; simp at hu; rcases hu with rfl | rfl | rfl <;> rfl) (by omega) (by simp only [maxLen]; omega) (by omega) hB _ rfl
  exact ⟨g, c, w', h1, ⟨by rw [← cellsV_snoc]; exact h2⟩, h3, h4, h5⟩
/-- The list F's first m are l. -/
def Is (F : Nat → V) (m : Nat) (l : List V) : Prop := l.length = m ∧ ∀ i, i < m → l[i]? = some (F i)
theorem Is.snoc {F : Nat → V} {m : Nat} {l : List V} (h : Is F m l) (x : V) : Is (upd F m x) (m + 1) (l ++ [x]) := by
  refine ⟨by simp [h.1], fun i hi => ?_⟩
  by_cases e : i = m
  · rw [e, upd_at, List.getElem?_append_right (by rw [h.1]; omega)]; simp [h.1]
  · rw [upd_ne _ _ e, List.getElem?_append_left (by rw [h.1]; omega)]; exact h.2 i (by omega)
/-- One value more, in a box of its own. -/
theorem Lv.push {w0 w : World} {B : Nat} {v : Value} {n : Nat} {F : Nat → V} (hb : Below B w0 w) (hB : B ≤ w.heap.size) (h : Lv w B v n F) (x : V) (hn : n ≤ 200000) :
    ∃ g c w', (Builtin.append_ #[22, 22] 22 #[v, .slice (some ⟨w.heap.size, 0, none⟩) 1 1]).run Tryz.prog (w.alloc (.cells #[.int .i64 x.1, .int .i64 x.2.1, .string x.2.2] 34)) = .ok (.slice (some ⟨g, 0, none⟩) (n + 1) c) w' ∧ Lv w' B (.slice (some ⟨g, 0, none⟩) (n + 1) c) (n + 1) (upd F n x) ∧ Below B w0 w' := by
  have b5 := b1 w (.cells #[.int .i64 x.1, .int .i64 x.2.1, .string x.2.2] 34)
  have X5 : Bx (w.alloc (.cells #[.int .i64 x.1, .int .i64 x.2.1, .string x.2.2] 34)) w.heap.size x := Bx.made w x
  obtain ⟨g, c, w6, hr, l6, g6, at6, lt6⟩ := (h.below b5).app2 x X5 hn (by have := b5.size; omega)
  refine ⟨g, c, w6, hr, l6, (bthen hb hB b5).trans ⟨g6.os, g6.tape, g6.output, g6.size, fun y hy => g6.block y (by have := b5.size; omega) (fun e => ?_)⟩⟩
  have := (h.own.lt y e.symm).1
  omega

set_option maxRecDepth 20000 in
set_option maxHeartbeats 4000000 in
theorem rpresent_any {w : World} {RT A P ka va ca : Nat} {cb : Nat → Nat} {G : Nat} {t : TS} (h : Rb w RT A P ka va ca cb G t) (ti : TI t.p) :
    Calls Tryz.prog 59 #[.pointer (some ⟨RT, 0, none⟩)] w fun e w' => ∃ v F, e = .returned v ∧ Lv w' w.heap.size v (pres t.p).length F ∧ Is F (pres t.p).length (pres t.p) ∧ Below w.heap.size w w' := by
  have HH : Hid (Rb w RT A P ka va ca cb G t) := h
  have hn := ti.le
  have hz := ti.rt.le
  clear h
  go_enter Tryz.func59, Tryz.ntmps59
  go_wp2_with fail
  go_loopw [3, 4] (fun lw jw wr => ∃ i m : Nat, jw = .int .i64 (i : Nat) ∧ i ≤ t.p.n ∧ m ≤ i ∧ Hid (∃ F, Lv wr w.heap.size lw m F ∧ Is F m (kA t.p.F i)) ∧ Hid (Below w.heap.size w wr)) (fun _ jw _ => t.p.n - (intOf jw).toNat)
  case atStart => exact ⟨0, 0, rfl, by omega, by omega, ⟨fun _ => nil, Lv.nil _ _ _, rfl, fun i hi => (by omega)⟩, Below.refl _ _⟩
  case round =>
    obtain ⟨i, m, rfl, hi, hmi, HL, HB⟩ := hrel
    obtain ⟨F, hL, hI⟩ := HL.out
    obtain ⟨ak, ck, hvk⟩ := hL.form
    subst hvk
    have HLv : Hid (Lv wr w.heap.size (.slice ak m ck) m F) := hL
    have HIs : Hid (Is F m (kA t.p.F i)) := hI
    clear hL hI HL
    have c0 := (HH.out.below HB.out).c0
    by_cases hlt : i < t.p.n
    · have hlt' : (i : Int) < (t.p.n : Int) := by omega
      have k0 := ((HH.out.below HB.out).sl.at hlt).1
      generalize hx : t.p.F i = x at *
      by_cases h0 : x.1 = 0
      · have hb0 : (x.1 != 0) = false := by simp [h0]
        have HE : Hid (kA t.p.F (i + 1) = kA t.p.F i) := by show _ = _; rw [kA, hx, if_pos h0, List.append_nil]
        clear h0
        go_wp2_with fail
        go_round
        case rel => exact ⟨i + 1, m, by go_num, by omega, by omega, ⟨F, HLv.out, by rw [HE.out]; exact HIs.out⟩, HB⟩
        case measure => simp [intOf]; omega
      · have hb0 : (x.1 != 0) = true := by simpa using h0
        have HE : Hid (kA t.p.F (i + 1) = kA t.p.F i ++ [kn ((i : Int) + 1)]) := by show _ = _; rw [kA, hx, if_neg h0]
        have CI := mkI ((i : Int) + 1) wr
        have hwi : IntKind.i64.wrap ((i : Int) + 1) = (i : Int) + 1 := by rw [IntKind.wrap_i64]; omega
        unfold vl at CI
        clear h0
        go_wp2_with fail
        refine CI.mono ?_; rintro e w4 ⟨rfl, hb4⟩
        have hB4 := bthen HB.out HB.out.size hb4
        obtain ⟨g, c, w6, hr, l6, hb6⟩ := Lv.push hB4 hB4.size (HLv.out.below hb4) (kn ((i : Int) + 1)) (by omega)
        have HB6 : Hid (Below w.heap.size w w6 ∧ Lv w6 w.heap.size (.slice (some ⟨g, 0, none⟩) (m + 1) c) (m + 1) (upd F m (kn ((i : Int) + 1)))) := ⟨hb6, l6⟩
        clear hb4 hB4 hb6 l6 CI
        go_wp2_with (at_builtin; refine wp_app rfl _ _ 22 rfl 22 rfl _ _ rfl rfl hr ?_)
        go_round
        case rel => exact ⟨i + 1, m + 1, by go_num, by omega, by omega, ⟨_, HB6.out.2, by rw [HE.out]; exact HIs.out.snoc _⟩, HB6.out.1⟩
        case measure => simp [intOf]; omega
    · have hle : ¬ (i : Int) < (t.p.n : Int) := by omega
      obtain rfl : i = t.p.n := by omega
      have HM0 : Hid (∃ F, Lv wr w.heap.size (.slice ak m ck) m F ∧ Is F m (kA t.p.F t.p.n ++ kH t.p.g 0)) := ⟨F, HLv.out, by rw [show kA t.p.F t.p.n ++ kH t.p.g 0 = kA t.p.F t.p.n by simp [kH]]; exact HIs.out⟩
      clear HLv HIs
      go_wp2_with fail
      obtain ⟨wo, hwo⟩ : ∃ wo, wo = wr := ⟨_, rfl⟩
      rw [← hwo] at HM0 HB c0 ⊢
      clear hwo c0
      go_loopw [3, 5] (fun lw jw wr => ∃ i m : Nat, jw = .int .i64 (i : Nat) ∧ i ≤ t.p.z ∧ m ≤ t.p.n + i ∧ Hid (∃ F, Lv wr w.heap.size lw m F ∧ Is F m (kA t.p.F t.p.n ++ kH t.p.g i)) ∧ Hid (Below w.heap.size w wr)) (fun _ jw _ => t.p.z - (intOf jw).toNat)
      case atStart => exact ⟨0, m, rfl, by omega, by omega, HM0, HB⟩
      case round =>
        obtain ⟨i, m2, rfl, hi2, hmi2, HL, HB2⟩ := hrel
        clear HM0
        obtain ⟨F2, hL, hI⟩ := HL.out
        obtain ⟨ak2, ck2, hvk⟩ := hL.form
        subst hvk
        have HLv : Hid (Lv wr w.heap.size (.slice ak2 m2 ck2) m2 F2) := hL
        have HIs : Hid (Is F2 m2 (kA t.p.F t.p.n ++ kH t.p.g i)) := hI
        clear hL hI HL
        have hR := HH.out.below HB2.out
        have c1 := hR.c1
        have CZ := rpsize_any wr hR.rp
        by_cases hlt : i < t.p.z
        · have hlt' : (i : Int) < (t.p.z : Int) := by omega
          have s0 := hR.rp.s0
          have s1 := hR.rp.s1
          have x0 := (hR.rp.v.at hlt).1
          obtain ⟨k0, k1, k2⟩ := hR.rp.k.at hlt
          clear hR
          generalize hx : t.p.g.X i = x at *
          generalize hk : t.p.g.K i = k at *
          by_cases h0 : x.1 = 0
          · have hb0 : (x.1 != 0) = false := by simp [h0]
            have HE : Hid (kH t.p.g (i + 1) = kH t.p.g i) := by show _ = _; rw [kH, hx, if_pos h0, List.append_nil]
            clear h0
            go_wp2_with fail
            refine CZ.mono ?_; rintro e w4 ⟨rfl, hw4⟩; rw [hw4]; clear hw4 CZ
            go_wp2_with fail
            go_round
            case rel => exact ⟨i + 1, m2, by go_num, by omega, by omega, ⟨F2, HLv.out, by rw [HE.out]; exact HIs.out⟩, HB2⟩
            case measure => simp [intOf]; omega
          · have hb0 : (x.1 != 0) = true := by simpa using h0
            have HE : Hid (kA t.p.F t.p.n ++ kH t.p.g (i + 1) = kA t.p.F t.p.n ++ kH t.p.g i ++ [k]) := by show _ = _; rw [kH, hx, if_neg h0, hk, List.append_assoc]
            obtain ⟨g, c, w6, hr, l6, hb6⟩ := Lv.push HB2.out HB2.out.size HLv.out k (by omega)
            have HB6 : Hid (Below w.heap.size w w6 ∧ Lv w6 w.heap.size (.slice (some ⟨g, 0, none⟩) (m2 + 1) c) (m2 + 1) (upd F2 m2 k)) := ⟨hb6, l6⟩
            clear h0 hb6 l6
            go_wp2_with fail
            refine CZ.mono ?_; rintro e w4 ⟨rfl, hw4⟩; rw [hw4]; clear hw4 CZ
            go_wp2_with (at_builtin; refine wp_app rfl _ _ 22 rfl 22 rfl _ _ rfl rfl hr ?_)
            go_round
            case rel => exact ⟨i + 1, m2 + 1, by go_num, by omega, by omega, ⟨_, HB6.out.2, by rw [HE.out]; exact HIs.out.snoc k⟩, HB6.out.1⟩
            case measure => simp [intOf]; omega
        · have hle2 : ¬ (i : Int) < (t.p.z : Int) := by omega
          have HE : Hid (i = t.p.z) := by show _ = _; omega
          clear hR
          go_wp2_with fail
          refine CZ.mono ?_; rintro e w4 ⟨rfl, hw4⟩; rw [hw4]; clear hw4 CZ
          go_wp2_with fail
          go_ret
          have hI := HIs.out
          rw [HE.out] at hI
          have hl := hI.1
          exact ⟨_, F2, rfl, by show Lv wr w.heap.size _ (pres t.p).length F2; rw [show (pres t.p).length = m2 from hl]; exact HLv.out, by rw [show (pres t.p).length = m2 from hl]; exact hI, HB2.out⟩
end Go.Proofs.YtcaaaoehipcloaaGreat
