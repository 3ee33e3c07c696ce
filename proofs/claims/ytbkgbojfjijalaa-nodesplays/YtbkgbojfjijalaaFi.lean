/- The walks of takeFree and Find. -/
import Derived.Test.YtbkgbojfjijalaaPt
import Derived.Deep.QuietTactic
import Derived.BigQuiet
import Derived.Laws.NewBlocks
import Derived.Laws.StructEq
namespace Go.Proofs.Ytbkgbojfjijalaa
open Go.RowKit

/-- A region that draws its order, whose operations read what lies below, and whose callees make new memory alone: one walk, in the order of the text, over the class of the worlds that agree below. -/
theorem wp_class {P : Program} {X : Type} {F : X → World} {id : Nat} {Q : Exit → Act → World → Prop} {a : Act} {w : World} {l : List Oper} (hm : P.follows .mixedOrders = true) (hB : Region.lexB .any l.toArray = true) (hC : ∃ x, w.drew = F x)
    (h : wpQuiet P l.toArray (fun w' => ∃ x, w' = F x) (fun a' => ∀ w', (∃ x, w' = F x) → Q .normal a' w') l a) : (Code.region id l.toArray true).wp P Q a w :=
  wp_region_quiet (C := fun w' => ∃ x, w' = F x) hm hB hC (by simpa using h)
theorem class_of (W : World) : ∃ (X : Type) (F : X → World), (∀ x, Below W.heap.size W (F x)) ∧ (∀ w', Below W.heap.size W w' → ∃ x, w' = F x) :=
  ⟨{ w' // Below W.heap.size W w' }, Subtype.val, fun x => x.2, fun w' h => ⟨⟨w', h⟩, rfl⟩⟩
theorem bthen {N : Nat} {w w1 w2 : World} (h : Below N w w1) (hN : N ≤ w1.heap.size) (h2 : Below w1.heap.size w1 w2) : Below N w w2 := h.trans (h2.mono hN)
theorem b1 (w : World) (o : Obj) : Below w.heap.size w (w.alloc o) := (Below.refl _ w).alloc (Nat.le_refl _) o
theorem nodup_len {l : List Nat} {z : Nat} (h : l.Nodup) (hl : ∀ x, x ∈ l → x < z) : l.length ≤ z := by
  induction z generalizing l with
  | zero => cases l with
    | nil => exact Nat.le_refl _
    | cons a l => have := hl a (by simp); omega
  | succ z ih =>
    have h2 := ih (l := l.erase z) (h.erase z) (fun x hx => by
      have h3 := (List.Nodup.mem_erase_iff h).1 hx
      have := hl x h3.2
      have := h3.1
      omega)
    by_cases hz : z ∈ l
    · rw [List.length_erase_of_mem hz] at h2; omega
    · rw [List.erase_of_not_mem hz] at h2; omega
theorem Inv.lk_len {z : Nat} {pl : V → Nat} {ok : V → Prop} {g : G} (h : Inv z pl ok g) {l : List Nat} (hl : Lk z pl g l) : l.length ≤ z := by
  rcases hl with ⟨m, p, hm, hc⟩ | ⟨m, hm, e, rfl⟩
  · have hn := h.nd m hm
    have := nodup_len hn (fun x hx => (h.cok m hm x hx).1)
    rw [hc] at this; simp at this; omega
  · simp; omega
def fi : Option Nat → Int
  | none => -1
  | some i => i

theorem Pt.setF {w : World} {b a z : Nat} {g : G} (h : Pt w b a z g) (f : Nat) : Pt (w.setCell ⟨b, 1, none⟩ (.int .i64 (f : Nat))) b a z { g with f := f } :=
  ⟨by rw [World.cell?_setCell_other _ _ _ _ (fun q => by injection q with _ q2; omega)]; exact h.all, World.cell?_setCell_same _ _ _ h.fre, h.row.other (fun e => h.ne e) _,
   fun j => by simpa using h.fb j, fun j => by simpa using h.fa j, h.ne, by simpa [World.setCell] using h.ltb, by simpa [World.setCell] using h.lta⟩
def frOf (w : World) (b : Nat) : Nat := match w.cell? ⟨b, 1, none⟩ with | some (.int _ q) => q.toNat | _ => 0
theorem Pt.fr {w : World} {b a z : Nat} {g : G} (h : Pt w b a z g) : frOf w b = g.f := by unfold frOf; rw [h.fre]; simp

set_option maxHeartbeats 1000000 in
theorem takeFree_any {b a z : Nat} {g : G} (w : World) (h : Pt w b a z g) (hf : g.f ≤ z) (hz : z ≤ 65536) (hk : ∀ i, i < z → ((g.K i).1 = 0 ↔ g.K i = nil)) :
    Calls Try.prog 41 #[pp b] w fun e w' => e = .returned (.int .i64 (fi (tf g.K g.f))) ∧ Pt w' b a z { g with f := (tf g.K g.f).getD 0 } ∧ Keep (fun x => x ≠ b) w w' := by
  unfold pp
  have HP : Hid _ := h
  have HK : Hid _ := hk
  clear h hk
  go_enter Try.func41, Try.ntmps41
  go_wp2
  go_loopw [] (fun wr => ∃ f : Nat, f ≤ z ∧ Hid (Pt wr b a z { g with f := f }) ∧ Hid (tf g.K f = tf g.K g.f) ∧ Hid (Keep (fun x => x ≠ b) w wr)) (fun wr => frOf wr b)
  case atStart => exact ⟨g.f, hf, HP.out, rfl, Keep.refl _ _⟩
  case round =>
    obtain ⟨f, hfz, P, T, Kp⟩ := hrel
    have c1 := P.out.fre
    have f1 := P.out.fb 1
    simp only at c1
    cases f with
    | zero =>
      have T2 : Hid (tf g.K g.f = none) := T.out.symm
      go_wp2
      go_ret
      rw [T2.out]
      exact ⟨rfl, P.out, Kp.out⟩
    | succ f =>
      have P2 : Hid _ := P.out.setF f
      have C := fun w => holds_any f w (b := b) (a := a) (z := z) (g := { g with f := f })
      have hlt : f < z := by omega
      have C2 := C _ P2.out hlt
      unfold pp at C2
      have hm := P.out.fr
      have hm2 := P2.out.fr
      have T1 : Hid _ := T.out
      rw [tf] at T1
      clear C T
      have hc : ((f + 1 : Nat) : Int) - 1 = (f : Int) := by omega
      by_cases e : g.K f = nil
      · have e0 : decide ((g.K f).1 ≠ 0) = false := by rw [e]; rfl
        have T2 : Hid (tf g.K g.f = some f) := by rw [if_pos e] at T1; exact T1.out.symm
        simp only [e0] at C2
        clear T1 e0
        go_wp2_with (go_at_call 40; refine C2.mono ?_; rintro e w' ⟨rfl, rfl⟩)
        go_ret
        rw [T2.out]
        exact ⟨ret1 (by first | rfl | (simp [fi]; done)), P2.out, Kp.out.set (by simp) _⟩
      · have e0 : decide ((g.K f).1 ≠ 0) = true := by
          simp only [decide_eq_true_eq]
          exact fun q => e ((HK.out f hlt).1 q)
        have T2 : Hid (tf g.K f = tf g.K g.f) := by rw [if_neg e] at T1; exact T1.out
        simp only [e0] at C2
        clear T1 e0
        go_wp2_with (go_at_call 40; refine C2.mono ?_; rintro e w' ⟨rfl, rfl⟩)
        go_round
        case rel => exact ⟨f, by omega, P2, T2, Kp.out.set (by simp) _⟩
        case measure => rw [hm, hm2]; simp
end Go.Proofs.Ytbkgbojfjijalaa
