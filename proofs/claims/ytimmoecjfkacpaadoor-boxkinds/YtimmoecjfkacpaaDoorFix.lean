/- The walk of 'fixed', the answers that the document fixes. -/
import Derived.Test.YtimmoecjfkacpaaDoorJo
import Derived.Deep.QuietTactic
import Derived.BigQuiet
import Derived.Laws.NewBlocks
namespace Go.Proofs.YtimmoecjfkacpaaDoor
open Go.RowKit

/-- A region that draws its order, whose operations read what lies below, and whose callees make new memory alone: one walk, in the order of the text, over the class of the worlds that agree below. -/
theorem wp_class {P : Program} {X : Type} {F : X → World} {id : Nat} {Q : Exit → Act → World → Prop} {a : Act} {w : World} {l : List Oper} (hm : P.follows .mixedOrders = true) (hB : Region.lexB .any l.toArray = true) (hC : ∃ x, w.drew = F x)
    (h : wpQuiet P l.toArray (fun w' => ∃ x, w' = F x) (fun a' => ∀ w', (∃ x, w' = F x) → Q .normal a' w') l a) : (Code.region id l.toArray true).wp P Q a w :=
  wp_region_quiet (C := fun w' => ∃ x, w' = F x) hm hB hC (by simpa using h)
theorem class_of (W : World) : ∃ (X : Type) (F : X → World), (∀ x, Below W.heap.size W (F x)) ∧ (∀ w', Below W.heap.size W w' → ∃ x, w' = F x) :=
  ⟨{ w' // Below W.heap.size W w' }, Subtype.val, fun x => x.2, fun w' h => ⟨⟨w', h⟩, rfl⟩⟩

def fK (i : Nat) : Int := if i = 0 then 2 else if i = 1 then 3 else 1
def fN (i : Nat) : Int := if i = 0 then 5 else if i = 1 then 0 else 2
def fS (i : Nat) : ByteArray := if i = 1 then ⟨#[97]⟩ else ⟨#[]⟩
theorem fixV (w : World) (o p : Obj) : Vals (((w.alloc o).alloc p).alloc (.cells #[.int .i64 2, .int .i64 5, .string ⟨#[]⟩, .int .i64 3, .int .i64 0, .string ⟨#[97]⟩, .int .i64 1, .int .i64 2, .string ⟨#[]⟩] 23)) (w.heap.size + 2) 3 fK fN fS := by
  have hr : (((w.alloc o).alloc p).alloc (.cells #[.int .i64 2, .int .i64 5, .string ⟨#[]⟩, .int .i64 3, .int .i64 0, .string ⟨#[97]⟩, .int .i64 1, .int .i64 2, .string ⟨#[]⟩] 23)).heap[w.heap.size + 2]? = some (.cells #[.int .i64 2, .int .i64 5, .string ⟨#[]⟩, .int .i64 3, .int .i64 0, .string ⟨#[97]⟩, .int .i64 1, .int .i64 2, .string ⟨#[]⟩] 23) := by
    have := (MapKept.heap_alloc ((w.alloc o).alloc p) (.cells #[.int .i64 2, .int .i64 5, .string ⟨#[]⟩, .int .i64 3, .int .i64 0, .string ⟨#[97]⟩, .int .i64 1, .int .i64 2, .string ⟨#[]⟩] 23)).1
    simpa using this
  refine ⟨fun i hi => ?_, fun i hi => ?_, fun i hi => ?_, fun i hi => ?_, fun i hi => ?_, by simp⟩
  · rw [cell_of_row hr]; match i, hi with
    | 0, _ => rfl
    | 1, _ => rfl
    | 2, _ => rfl
  · rw [cell_of_row hr]; match i, hi with
    | 0, _ => rfl
    | 1, _ => rfl
    | 2, _ => rfl
  · rw [cell_of_row hr]; match i, hi with
    | 0, _ => rfl
    | 1, _ => rfl
    | 2, _ => rfl
  · unfold fN; repeat' split
    all_goals omega
  · unfold fN; repeat' split
    all_goals omega
theorem fx0 : (!fits (fK 0) (fN 0) (fS 0) 2) = false := by decide +kernel
theorem fx1 : (!fits (fK 1) (fN 1) (fS 1) 2) = true := by decide +kernel
theorem fx2 : (!fits (fK 2) (fN 2) (fS 2) 2) = true := by decide +kernel
theorem fx3 : (Bx.tab 3).shw = ⟨#[116, 97, 98, 108, 101, 58, 32, 51]⟩ := by
  have : itoaS 3 = ⟨#[51]⟩ := by simp [itoaS, Lib.itoa, Lib.decDigits]
  show _ ++ itoaS 3 = _
  rw [this]; rfl
theorem fx4 : (Bx.int 1).shw ++ (Bx.str ⟨#[97]⟩).shw = ⟨#[49, 97]⟩ := by
  have : itoaS 1 = ⟨#[49]⟩ := by simp [itoaS, Lib.itoa, Lib.decDigits]
  show itoaS 1 ++ _ = _
  rw [this]; rfl
theorem fx5 : (Bx.int 1).shw.size + (Bx.str ⟨#[97]⟩).shw.size ≤ 10000 := by
  have : itoaS 1 = ⟨#[49]⟩ := by simp [itoaS, Lib.itoa, Lib.decDigits]
  show (itoaS 1).size + _ ≤ _
  rw [this]
  decide

set_option maxRecDepth 20000 in
set_option maxHeartbeats 600000 in
theorem fixed_any (w : World) (htab : Tab w) : Calls Tryd.prog 14 #[] w fun e w' => e = .returned (.bool true) ∧ Below w.heap.size w w' := by
  have C1 := mkI 5
  have C2 := mkS ⟨#[97]⟩
  have C3 : ∀ W, Vals W (w.heap.size + 2) 3 fK fN fS → Calls Tryd.prog 19 #[.slice (some ⟨w.heap.size + 2, 0, none⟩) 3 3, .int .i64 2] W fun e w' => ∃ G, e = .returned (.slice (some ⟨G, 0, none⟩) 3 3) ∧
      w'.cell? ⟨G, 0, none⟩ = some (.bool false) ∧ w'.cell? ⟨G, 1, none⟩ = some (.bool true) ∧ w'.cell? ⟨G, 2, none⟩ = some (.bool true) ∧ G < w'.heap.size ∧ Below W.heap.size W w' := fun W h =>
    (try_some (w.heap.size + 2) 3 3 fK fN fS 2 W h (by omega)).mono fun e w' ⟨he, hc, hb, hz⟩ => ⟨_, he, fx0 ▸ hc 0 (by omega), fx1 ▸ hc 1 (by omega), fx2 ▸ hc 2 (by omega), hz, hb⟩
  have C4 := mkT 3
  have C5 := show_ok (.tab 3) (by simp [Bx.ok])
  have C6 := mkI 1
  have C7 := fun W h => join_fit (.int 1) (.str ⟨#[97]⟩) (by simp [Bx.ok]) (by show (1 : Nat) ≤ _; omega) (by decide) (by decide) fx5 W h
  rw [fx3] at C5
  rw [fx4] at C7
  simp only [Bx.val, Bx.kind, Bx.num, Bx.txt] at C5 C7
  have HT : Hid _ := htab
  clear htab
  unfold vl vb at *
  go_enter Tryd.func14, Tryd.ntmps14
  go_wp2_with fail
  refine (C1 _).mono ?_; rintro e w1 ⟨rfl, rfl⟩
  go_wp2_with fail
  refine (C2 _).mono ?_; rintro e w1 ⟨rfl, rfl⟩
  go_wp2_with fail
  refine (C3 _ (fixV _ _ _)).mono ?_
  rintro e w1 ⟨G, rfl, c0, c1, c2, hz1, hb1⟩
  have bb1 : Below w.heap.size w w1 := bthen (b3 _ _ _ _) (by simp; omega) hb1
  clear hb1
  go_wp2_with fail
  refine (C4 _).mono ?_; rintro e w2 ⟨rfl, rfl⟩
  have bb2 : Below w.heap.size w (w1.alloc (.cells #[.int .i64 4, .int .i64 3, .string ⟨#[]⟩] 23)) := bb1.alloc (bsize bb1) _
  have HT2 := tab_keep HT.out bb2
  go_wp2_with fail
  refine (C5 _ HT2).mono ?_; rintro e w3 ⟨rfl, hb3⟩
  have bb3 : Below w.heap.size w w3 := bthen bb2 (bsize bb2) hb3
  have kp3 : Below w1.heap.size w1 w3 := bthen (b1 _ _) (by simp) hb3
  clear hb3 HT2 bb2
  go_wp2_with fail
  refine (C6 _).mono ?_; rintro e w4 ⟨rfl, rfl⟩
  go_wp2_with fail
  refine (C2 _).mono ?_; rintro e w4 ⟨rfl, rfl⟩
  have bb4 := (bb3.alloc (bsize bb3) (.cells #[.int .i64 2, .int .i64 1, .string ⟨#[]⟩] 23)).alloc (by have := bsize bb3; simp; omega) (.cells #[.int .i64 3, .int .i64 0, .string ⟨#[97]⟩] 23)
  have HT4 := tab_keep HT.out bb4
  go_wp2_with fail
  refine (C7 _ HT4).mono ?_; rintro e w5 ⟨rfl, hb5⟩
  have bb5 : Below w.heap.size w w5 := bthen bb4 (bsize bb4) hb5
  have kp5 : Below w1.heap.size w1 w5 := bthen (bthen kp3 (bsize kp3) (b2 w3 _ _)) (by have := bsize kp3; simp; omega) hb5
  have hz5 : G < w5.heap.size := Nat.lt_of_lt_of_le hz1 kp5.size
  rw [← kp5.cell (p := ⟨G, 0, none⟩) hz1] at c0
  rw [← kp5.cell (p := ⟨G, 1, none⟩) hz1] at c1
  rw [← kp5.cell (p := ⟨G, 2, none⟩) hz1] at c2
  have BB : Hid _ := bb5
  clear hb5 HT4 bb1 bb3 bb4 bb5 kp3 kp5 hz1 C1 C3 C4 C5 C6 C7
  obtain ⟨X, F, F1, F2⟩ := class_of (w5.alloc (.cells #[.int .i64 3, .int .i64 0, .string ⟨#[49, 97]⟩] 23))
  have hF : ∀ (x : X) i, (F x).cell? ⟨G, i, none⟩ = w5.cell? ⟨G, i, none⟩ := fun x i => by rw [(F1 x).cell (by simp; omega), World.cell?_alloc_past _ _ _ hz5]
  have d0 : ∀ x, (F x).cell? ⟨G, 0, none⟩ = some (.bool false) := fun x => (hF x 0).trans c0
  have d1 : ∀ x, (F x).cell? ⟨G, 1, none⟩ = some (.bool true) := fun x => (hF x 1).trans c1
  have d2 : ∀ x, (F x).cell? ⟨G, 2, none⟩ = some (.bool true) := fun x => (hF x 2).trans c2
  have e0 : ∀ x, (F x).cell? ⟨w5.heap.size, 0, none⟩ = some (.int .i64 3) := fun x => by rw [(F1 x).cell (by simp)]; simp [go_sem]
  have e1 : ∀ x, (F x).cell? ⟨w5.heap.size, 1, none⟩ = some (.int .i64 0) := fun x => by rw [(F1 x).cell (by simp)]; simp [go_sem]
  have e2 : ∀ x, (F x).cell? ⟨w5.heap.size, 2, none⟩ = some (.string ⟨#[49, 97]⟩) := fun x => by rw [(F1 x).cell (by simp)]; simp [go_sem]
  have hS : ∀ x, Calls Tryd.prog 34 #[.string ⟨#[49, 97]⟩] (F x) fun e w'' => e = .returned (.agg #[.int .i64 3, .int .i64 0, .string ⟨#[49, 97]⟩]) ∧ ∃ y, w'' = F y := fun x =>
    (mkS ⟨#[49, 97]⟩ (F x)).mono fun e w' ⟨he, hw⟩ => ⟨he, F2 w' (hw ▸ (F1 x).alloc (F1 x).size _)⟩
  have HC : Hid (∃ x, (w5.alloc (.cells #[.int .i64 3, .int .i64 0, .string ⟨#[49, 97]⟩] 23)).drew = F x) := F2 _ (Below.refl _ _).drew
  have HF1 : Hid _ := F1
  clear F1 F2 hF c0 c1 c2 C2
  go_wp2_with fail
  haveI : Nonempty X := HC.out.elim fun x _ => ⟨x⟩
  refine wp_class (F := F) (by kernel_rfl) (by kernel_rfl) HC.out ?_
  repeat (go_big_quiet_step (exact hS _))
  refine wpQuiet_nil ?_
  intro _ hw'
  obtain ⟨x, rfl⟩ := hw'
  have bb6 : Below w.heap.size w (F x) := bthen (BB.out.alloc (bsize BB.out) _) (by have := bsize BB.out; simp; omega) (HF1.out x)
  go_wp2_with fail
  go_ret
  exact ⟨rfl, bb6⟩

end Go.Proofs.YtimmoecjfkacpaaDoor
