/- The program's part and the reference's, beside one another. -/
import Derived.Test.YtbkgbojfjijalaaRd
import Derived.Test.YtbkgbojfjijalaaRg
import Derived.Test.YtbkgbojfjijalaaSa
namespace Go.Proofs.Ytbkgbojfjijalaa
open Go.RowKit

/-- Both hold g: the program's in a, a + 1; the reference's behind. -/
structure Jo (B : Nat) (W w : World) (a z S ka va ca : Nat) (g : G) (cb : Nat → Nat) : Prop where
  pt : Pt w (a + 1) a z g
  inv : Inv z (pl z) KOK g
  rp : Rp w S ka va ca z g cb
  ge : ∀ x, Rp.Own S ka va ca z g cb x → a + 2 ≤ x
  keep : Keep (fun x => x < B) W w
  le : B ≤ a ∧ a + 2 ≤ w.heap.size
variable {B : Nat} {W w w' : World} {a z S ka va ca : Nat} {g : G} {cb : Nat → Nat}
theorem Jo.bel (h : Jo B W w a z S ka va ca g cb) (hb : Below w.heap.size w w') : Jo B W w' a z S ka va ca g cb :=
  ⟨h.pt.below hb, h.inv, h.rp.below hb, h.ge, h.keep.bel hb, h.le.1, Nat.le_trans h.le.2 hb.size⟩
theorem Jo.below (h : Jo B W w a z S ka va ca g cb) (hB : B ≤ W.heap.size) : Below B W w := h.keep.below hB (fun _ hx => hx)
/-- Behind begin. -/
theorem Jo.start {W w0 w1 w2 : World} {n S ka va ca : Nat} (hf : Below W.heap.size W w0) (h1 : w1 = newW w0 n) (h2 : Rn w1 w2 S ka va ca n) : Jo W.heap.size W w2 w0.heap.size n S ka va ca (g0 n) (fun _ => 0) := by
  have hs := St.start hf h1 h2
  have hr := h2.rs
  have e : w1.heap.size = w0.heap.size + 2 := by subst h1; simp [newW]
  exact ⟨hs.pt, hs.inv, hr.rp, fun x hx => e ▸ hr.ge x hx, hs.keep, hf.size, by have := h2.bel.size; omega⟩
/-- Behind the program's Put: what the reference's is called with. -/
structure Md (B : Nat) (W w : World) (a z S ka va ca : Nat) (g g' : G) (cb : Nat → Nat) : Prop where
  pt : Pt w (a + 1) a z g'
  inv : Inv z (pl z) KOK g'
  rs : Rs (a + 2) w w S ka va ca z g cb
  keep : Keep (fun x => x < B) W w
  le : B ≤ a ∧ a + 2 ≤ w.heap.size
theorem Jo.mid (h : Jo B W w a z S ka va ca g cb) (hz : Rt z) {k v : V} (hr : Rng k) (h1 : Pt w' (a + 1) a z (put z g k v).1) (hk : Keep (fun x => x ≠ a ∧ x ≠ a + 1) w w') : Md B W w' a z S ka va ca g (put z g k v).1 cb := by
  have hle := h.le
  exact ⟨h1, (put_inv k v h.inv hz hr).1, ⟨h.rp.kept hk (fun x hx => by have := h.ge x hx; show x ≠ a ∧ x ≠ a + 1; omega), h.ge, Keep.refl _ _⟩, h.keep.trans (hk.sub fun x hx => by have : x < B := hx; show x ≠ a ∧ x ≠ a + 1; omega), hle.1, Nat.le_trans hle.2 hk.size⟩
theorem Md.bel {g' : G} (h : Md B W w a z S ka va ca g g' cb) (hb : Below w.heap.size w w') : Md B W w' a z S ka va ca g g' cb :=
  ⟨h.pt.below hb, h.inv, ⟨h.rs.rp.below hb, h.rs.ge, Keep.refl _ _⟩, h.keep.bel hb, h.le.1, Nat.le_trans h.le.2 hb.size⟩
theorem Md.fin {g' : G} {cb' : Nat → Nat} (h : Md B W w a z S ka va ca g g' cb) (h1 : Rs (a + 2) w w' S ka va ca z g' cb') : Jo B W w' a z S ka va ca g' cb' := by
  have hle := h.le
  exact ⟨h.pt.kept h1.keep (by show a + 1 < a + 2; omega) (by show a < a + 2; omega), h.inv, h1.rp, h1.ge, h.keep.trans (h1.keep.sub fun x hx => by have : x < B := hx; show x < a + 2; omega), hle.1, Nat.le_trans hle.2 h1.keep.size⟩
theorem Md.below {g' : G} (h : Md B W w a z S ka va ca g g' cb) (hB : B ≤ W.heap.size) : Below B W w := h.keep.below hB (fun _ hx => hx)
/-- Beside them a row of nodes in D. -/
structure Jd (B : Nat) (W w : World) (a z S ka va ca : Nat) (g : G) (cb : Nat → Nat) (D : Nat) : Prop where
  jo : Jo B W w a z S ka va ca g cb
  rc : ∃ F, Rc w D z F
  fd : ∀ j, w.frozen? ⟨D, j, none⟩ = false
  no : a + 2 ≤ D ∧ ∀ x, Rp.Own S ka va ca z g cb x → x ≠ D
  lt : D < w.heap.size
theorem Jo.row {D : Nat} {F : Nat → Nat → Value} (h : Jo B W w a z S ka va ca g cb) (hb : Below w.heap.size w w') (hr : Rc w' D z F) (hf : ∀ j, w'.frozen? ⟨D, j, none⟩ = false) (hD : w.heap.size ≤ D) (hl : D < w'.heap.size) : Jd B W w' a z S ka va ca g cb D :=
  ⟨h.bel hb, ⟨F, hr⟩, hf, ⟨Nat.le_trans h.le.2 hD, fun _ hx => Nat.ne_of_lt (Nat.lt_of_lt_of_le (h.rp.own_lt hx) hD)⟩, hl⟩
theorem Jd.bel {D : Nat} (h : Jd B W w a z S ka va ca g cb D) (hb : Below w.heap.size w w') : Jd B W w' a z S ka va ca g cb D := by
  obtain ⟨F, hr⟩ := h.rc
  exact ⟨h.jo.bel hb, ⟨F, hr.block (hb.block D h.lt)⟩, fun j => by rw [World.frozen?_of_block (w := w) (hb.block D h.lt)]; exact h.fd j, h.no, Nat.lt_of_lt_of_le h.lt hb.size⟩
theorem Jd.set {D i0 j0 : Nat} (h : Jd B W w a z S ka va ca g cb D) (hi : i0 < z) (hj : j0 < 7) (v : Value) : Jd B W (w.setCell ⟨D, i0 * 7 + j0, none⟩ v) a z S ka va ca g cb D := by
  obtain ⟨F, hr⟩ := h.rc
  have hle := h.jo.le
  have hD := h.no.1
  have hk : Keep (fun y => y ≠ D) w (w.setCell ⟨D, i0 * 7 + j0, none⟩ v) := (Keep.refl _ _).set (p := ⟨D, _, none⟩) (fun q => q rfl) _
  exact ⟨⟨h.jo.pt.kept hk (by show a + 1 ≠ D; omega) (by show a ≠ D; omega), h.jo.inv, h.jo.rp.kept hk h.no.2, h.jo.ge, h.jo.keep.trans (hk.sub fun x hx => by have : x < B := hx; show x ≠ D; omega), hle.1, Nat.le_trans hle.2 hk.size⟩,
    ⟨_, hr.set hi hj v⟩, fun j => by simpa using h.fd j, h.no, Nat.lt_of_lt_of_le h.lt hk.size⟩
theorem Jd.set7 {D i0 : Nat} (h : Jd B W w a z S ka va ca g cb D) (hi : i0 < z) (k x : V) (l : Int) : Jd B W (Proofs.Ytbkgbojfjijalaa.set7 w D i0 k x l) a z S ka va ca g cb D :=
  ((((((h.set hi (j0 := 0) (by omega) (.int .i64 k.1)).set hi (j0 := 1) (by omega) (.int .i64 k.2.1)).set hi (j0 := 2) (by omega) (.string k.2.2)).set hi (j0 := 3) (by omega) (.int .i64 x.1)).set hi (j0 := 4) (by omega) (.int .i64 x.2.1)).set hi (j0 := 5) (by omega) (.string x.2.2)).set hi (j0 := 6) (by omega) (.int .i64 l)
theorem Jd.cells {D i : Nat} (h : Jd B W w a z S ka va ca g cb D) (hi : i < z) : ∃ F : Nat → Value, w.cell? ⟨D, i * 7, none⟩ = some (F 0) ∧ w.cell? ⟨D, i * 7 + 1, none⟩ = some (F 1) ∧ w.cell? ⟨D, i * 7 + 2, none⟩ = some (F 2) ∧ w.cell? ⟨D, i * 7 + 3, none⟩ = some (F 3) ∧ w.cell? ⟨D, i * 7 + 4, none⟩ = some (F 4) ∧ w.cell? ⟨D, i * 7 + 5, none⟩ = some (F 5) ∧ w.cell? ⟨D, i * 7 + 6, none⟩ = some (F 6) := by
  obtain ⟨F, hr⟩ := h.rc
  exact ⟨F i, hr.c i hi 0 (by omega), hr.c i hi 1 (by omega), hr.c i hi 2 (by omega), hr.c i hi 3 (by omega), hr.c i hi 4 (by omega), hr.c i hi 5 (by omega), hr.c i hi 6 (by omega)⟩
end Go.Proofs.Ytbkgbojfjijalaa
