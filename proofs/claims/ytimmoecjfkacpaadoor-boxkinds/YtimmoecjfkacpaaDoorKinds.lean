/- The walk of the law BoxKinds. -/
import Derived.Test.YtimmoecjfkacpaaDoorKapp
import Derived.StillTactics
import Derived.DataElems
namespace Go.Proofs.YtimmoecjfkacpaaDoor
open Go.RowKit
theorem wp_app {P : Program} {W W' : World} {v' : Value} {ops : Array Oper} {rest : List Oper} {o : Oper} {a : Act} {Q : Exit → Act → World → Prop} (hgd : o.guard = none) (s x : Operand) (t : TypeId)
    (ho : o.op = .call { callee := .builtin .append, args := #[s, x], argTypes := #[t, t] }) (ty : TypeId) (hty : o.type = ty) (vs vx : Value) (hs : a.eval s = vs) (hx : a.eval x = vx)
    (hr : (Builtin.append_ #[t, t] ty #[vs, vx]).run P W = .ok v' W') (h : wpList P ops Q rest (a.put o.dst v') W') : wpList P ops Q (o :: rest) a W :=
  wpList_plain hgd fun _ hK => by
    unfold Oper.wp execOp
    simp only [ho, hty, resolve, invoke, builtin, Sem.run_bind, Sem.run_pure, Result.andThen_ok, List.map_toArray, List.map_cons, List.map_nil, hs, hx, hr]
    exact hK _ _ h

theorem add_next (a : Addr) (m j : Nat) : a.add (m + (j + 1)) = ⟨(a.add m).block, (a.add m).off + (j + 1), none⟩ := by
  rw [← Addr.add_add, Addr.add_succ']
/-- What the round reads: the value and its answer in the list of bools. -/
structure Rd (w : World) (p : Addr) (G k : Nat) (kk nn : Int) (ss : ByteArray) (f : Bool) : Prop where
  c0 : w.cell? p = some (.int .i64 kk)
  c1 : w.cell? ⟨p.block, p.off + 1, none⟩ = some (.int .i64 nn)
  c2 : w.cell? ⟨p.block, p.off + 2, none⟩ = some (.string ss)
  pl : p.block < w.heap.size
  l0 : w.cell? ⟨G, k, none⟩ = some (.bool f)
  lG : G < w.heap.size
theorem Rd.below {w w' : World} {p : Addr} {G k : Nat} {kk nn : Int} {ss : ByteArray} {f : Bool} (h : Rd w p G k kk nn ss f) (hb : Below w.heap.size w w') : Rd w' p G k kk nn ss f :=
  ⟨by rw [hb.cell (by exact h.pl)]; exact h.c0, by rw [hb.cell (by exact h.pl)]; exact h.c1, by rw [hb.cell (by exact h.pl)]; exact h.c2, Nat.lt_of_lt_of_le h.pl hb.size, by rw [hb.cell (by exact h.lG)]; exact h.l0, Nat.lt_of_lt_of_le h.lG hb.size⟩
theorem asV_form (k n : Int) (s : ByteArray) (q : Int) : ∃ x y z, asV k n s q = vl x y z := by
  unfold asV
  split
  · exact ⟨_, _, _, rfl⟩
  · exact ⟨_, _, _, rfl⟩

set_option maxRecDepth 20000 in
set_option maxHeartbeats 600000 in
theorem kinds_some (a : Addr) (L cap : Nat) (K N : Nat → Int) (S : Nat → ByteArray) (q : Int) (w : World) (hv : ValsA w a L K N S) (hL : L * 32 ≤ 140737488355328) (htab : Tab w) :
    Calls Tryd.prog 4 #[.slice (some a) L cap, .int .i64 q] w fun e w' => e = .returned (.bool true) ∧ Below w.heap.size w w' := by
  obtain ⟨g', c', w1, happ, hv1, hb1⟩ := app_any a L cap K N S w hv hL
  have T := try_some g' L c' K N S q w1 hv1 (by omega)
  have HT : Hid _ := htab
  have HV : Hid _ := hv
  clear htab hv hv1
  have HP : Hid _ := happ
  clear happ
  go_enter Tryd.func4, Tryd.ntmps4
  go_wp2_with (at_builtin; refine wp_app rfl _ _ 35 rfl 35 rfl _ _ rfl rfl HP.out ?_)
  refine T.mono ?_
  rintro e w2 ⟨rfl, hl, hb2, hz2⟩
  have B2 : Below w.heap.size w w2 := bthen hb1 hb1.size hb2
  obtain ⟨G, hG⟩ : ∃ G, w1.heap.size = G := ⟨_, rfl⟩
  rw [hG] at hl hz2 ⊢
  have HL : Hid _ := hl
  clear hl HP T hb1 hb2
  go_wp2_with fail
  refine (fixed_any _ (tab_keep HT.out B2)).mono ?_
  rintro e w3 ⟨rfl, hb3⟩
  have B3 : Below w.heap.size w w3 := bthen B2 B2.size hb3
  have HL3 : Hid (∀ i, i < L → w3.cell? ⟨G, i, none⟩ = some (.bool (!fits (K i) (N i) (S i) q))) := fun i hi => by rw [hb3.cell hz2]; exact HL.out i hi
  have HV3 : Hid _ := HV.out.below B3
  have hz3 : G < w3.heap.size := Nat.lt_of_lt_of_le hz2 hb3.size
  clear HL HV hb3 hz2 B2 HT
  go_wp2_with fail
  go_loopw [6] (fun i wr => ∃ k : Nat, i = .int .i64 k ∧ k ≤ L ∧ Hid (Below w3.heap.size w3 wr)) (fun i _ => L - (intOf i).toNat)
  case atStart => exact ⟨0, rfl, by omega, Below.refl _ _⟩
  case round =>
    obtain ⟨k, rfl, hk, HB⟩ := hrel
    by_cases hlt : k < L
    · have hltI : (k : Int) < (L : Int) := by omega
      have hval := HV3.out.below HB.out
      have v0 := hval.k k hlt
      have v1 := hval.n k hlt
      have v2 := hval.s k hlt
      rw [add_next a (k * 3) 0] at v1
      rw [add_next a (k * 3) 1] at v2
      have vlt := hval.lt (by omega)
      rw [← add_block a (k * 3)] at vlt
      have l0 : wr.cell? ⟨G, k, none⟩ = some (.bool (!fits (K k) (N k) (S k) q)) := by rw [HB.out.cell (by exact hz3)]; exact HL3.out k hlt
      have lG : G < wr.heap.size := Nat.lt_of_lt_of_le hz3 HB.out.size
      have C1 := As_any (K k) (N k) (S k) q (hval.b0 k hlt) (hval.b1 k hlt)
      have C2 := rAs_any (K k) (N k) (S k) q
      have C3 := rfits_any (K k) (N k) (S k) q
      have C4 := Must_val (K k) (N k) (S k) q (hval.b0 k hlt) (hval.b1 k hlt)
      obtain ⟨x, y, z, hx⟩ := asV_form (K k) (N k) (S k) q
      rw [hx] at C1 C2
      clear hval hx
      generalize asE (K k) (N k) (S k) q = ee at *
      generalize fits (K k) (N k) (S k) q = f at *
      generalize K k = kk at *
      generalize N k = nn at *
      generalize S k = ss at *
      have R : Rd wr (a.add (k * 3)) G k kk nn ss (!f) := ⟨v0, v1, v2, vlt, l0, lG⟩
      clear v0 v1 v2 vlt l0 lG
      unfold vl at *
      cases f
      · clear C4
        obtain ⟨c0, c1, c2, pl, l0, lG⟩ := id R
        go_wp2_with fail
        refine (C1 _).mono ?_
        rintro e w4 ⟨rfl, hb⟩
        clear c0 c1 c2 pl l0 lG
        have BB : Below wr.heap.size wr w4 := hb
        replace R := R.below hb
        clear hb C1
        have A := At.new w4 x y z
        unfold vb at A
        replace R := R.below (b1 w4 (.cells #[.int .i64 x, .int .i64 y, .string z] 23))
        replace BB := BB.alloc BB.size (.cells #[.int .i64 x, .int .i64 y, .string z] 23)
        obtain ⟨qA, hqA⟩ : ∃ q, w4.heap.size = q := ⟨_, rfl⟩
        obtain ⟨c0, c1, c2, pl, l0, lG⟩ := id R
        obtain ⟨A0, A1, A2, Al⟩ := id A
        rw [hqA] at A A0 A1 A2 Al
        go_wp2_with fail
        try rw [hqA]
        generalize w4.alloc (.cells #[.int .i64 x, .int .i64 y, .string z] 23) = w5 at *
        refine (C2 _).mono ?_
        rintro e w6 ⟨rfl, hb⟩
        clear c0 c1 c2 pl l0 lG
        clear A0 A1 A2 Al
        replace BB := bthen BB BB.size hb
        replace R := R.below hb
        replace A := A.below hb
        clear hb C2
        have D := At.new w6 x y z
        unfold vb at D
        replace R := R.below (b1 w6 (.cells #[.int .i64 x, .int .i64 y, .string z] 23))
        replace A := A.alloc (.cells #[.int .i64 x, .int .i64 y, .string z] 23)
        replace BB := BB.alloc BB.size (.cells #[.int .i64 x, .int .i64 y, .string z] 23)
        obtain ⟨qD, hqD⟩ : ∃ q, w6.heap.size = q := ⟨_, rfl⟩
        obtain ⟨c0, c1, c2, pl, l0, lG⟩ := id R
        obtain ⟨A0, A1, A2, Al⟩ := id A
        obtain ⟨D0, D1, D2, Dl⟩ := id D
        rw [hqD] at D D0 D1 D2 Dl
        go_wp2_with fail
        try rw [hqD]
        generalize w6.alloc (.cells #[.int .i64 x, .int .i64 y, .string z] 23) = w7 at *
        obtain ⟨X1, Fq1, F1, F2⟩ := class_of w7
        have d0 : ∀ x', (Fq1 x').cell? (a.add (k * 3)) = some (.int .i64 kk) := fun x' => (R.below (F1 x')).c0
        have d1 : ∀ x', (Fq1 x').cell? ⟨(a.add (k * 3)).block, (a.add (k * 3)).off + 1, none⟩ = some (.int .i64 nn) := fun x' => (R.below (F1 x')).c1
        have d2 : ∀ x', (Fq1 x').cell? ⟨(a.add (k * 3)).block, (a.add (k * 3)).off + 2, none⟩ = some (.string ss) := fun x' => (R.below (F1 x')).c2
        have d3 : ∀ x', (Fq1 x').cell? ⟨G, k, none⟩ = some (.bool (!false)) := fun x' => (R.below (F1 x')).l0
        have eA0 : ∀ x', (Fq1 x').cell? ⟨qA, 0, none⟩ = some (.int .i64 x) := fun x' => by rw [(F1 x').cell (by exact Al)]; exact A0
        have eA1 : ∀ x', (Fq1 x').cell? ⟨qA, 1, none⟩ = some (.int .i64 y) := fun x' => by rw [(F1 x').cell (by exact Al)]; exact A1
        have eA2 : ∀ x', (Fq1 x').cell? ⟨qA, 2, none⟩ = some (.string z) := fun x' => by rw [(F1 x').cell (by exact Al)]; exact A2
        have eD0 : ∀ x', (Fq1 x').cell? ⟨qD, 0, none⟩ = some (.int .i64 x) := fun x' => by rw [(F1 x').cell (by exact Dl)]; exact D0
        have eD1 : ∀ x', (Fq1 x').cell? ⟨qD, 1, none⟩ = some (.int .i64 y) := fun x' => by rw [(F1 x').cell (by exact Dl)]; exact D1
        have eD2 : ∀ x', (Fq1 x').cell? ⟨qD, 2, none⟩ = some (.string z) := fun x' => by rw [(F1 x').cell (by exact Dl)]; exact D2
        have hS : ∀ x', Calls Tryd.prog 22 #[.agg #[.int .i64 kk, .int .i64 nn, .string ss], .int .i64 q] (Fq1 x') fun e w'' => e = .returned (.bool false) ∧ ∃ y', w'' = Fq1 y' := fun x' => (C3 (Fq1 x')).mono fun e w' ⟨he, hw⟩ => ⟨he, F2 w' (bthen (F1 x') (F1 x').size hw)⟩
        have HC : Hid (∃ x', w7.drew = Fq1 x') := F2 _ (Below.refl _ _).drew
        have HF1 : Hid _ := F1
        have HR : Hid _ := R
        have HBB : Hid _ := BB
        clear F1 F2 R BB c0 c1 c2 pl l0 lG A A0 A1 A2 Al D D0 D1 D2 Dl
        haveI : Nonempty X1 := HC.out.elim fun x' _ => ⟨x'⟩
        refine wp_class (F := Fq1) (by kernel_rfl) (by kernel_rfl) HC.out ?_
        repeat (go_big_quiet_step (exact hS _))
        refine wpQuiet_nil ?_
        intro _ hw'
        obtain ⟨x', rfl⟩ := hw'
        have R := HR.out.below (HF1.out x')
        have BB := bthen HBB.out HBB.out.size (HF1.out x')
        clear d0 d1 d2 d3 eA0 eA1 eA2 eD0 eD1 eD2 hS HC HF1 HR HBB
        generalize Fq1 x' = w8 at *
        obtain ⟨c0, c1, c2, pl, l0, lG⟩ := id R
        go_wp2_with fail
        obtain ⟨X2, Fq2, F1, F2⟩ := class_of w8
        have d0 : ∀ x', (Fq2 x').cell? (a.add (k * 3)) = some (.int .i64 kk) := fun x' => (R.below (F1 x')).c0
        have d1 : ∀ x', (Fq2 x').cell? ⟨(a.add (k * 3)).block, (a.add (k * 3)).off + 1, none⟩ = some (.int .i64 nn) := fun x' => (R.below (F1 x')).c1
        have d2 : ∀ x', (Fq2 x').cell? ⟨(a.add (k * 3)).block, (a.add (k * 3)).off + 2, none⟩ = some (.string ss) := fun x' => (R.below (F1 x')).c2
        have d3 : ∀ x', (Fq2 x').cell? ⟨G, k, none⟩ = some (.bool (!false)) := fun x' => (R.below (F1 x')).l0
        have hS : ∀ x', Calls Tryd.prog 22 #[.agg #[.int .i64 kk, .int .i64 nn, .string ss], .int .i64 q] (Fq2 x') fun e w'' => e = .returned (.bool false) ∧ ∃ y', w'' = Fq2 y' := fun x' => (C3 (Fq2 x')).mono fun e w' ⟨he, hw⟩ => ⟨he, F2 w' (bthen (F1 x') (F1 x').size hw)⟩
        have HC : Hid (∃ x', w8.drew = Fq2 x') := F2 _ (Below.refl _ _).drew
        have HF1 : Hid _ := F1
        have HR : Hid _ := R
        have HBB : Hid _ := BB
        clear F1 F2 R BB c0 c1 c2 pl l0 lG 
        haveI : Nonempty X2 := HC.out.elim fun x' _ => ⟨x'⟩
        refine wp_class (F := Fq2) (by kernel_rfl) (by kernel_rfl) HC.out ?_
        repeat (go_big_quiet_step (exact hS _))
        refine wpQuiet_nil ?_
        intro _ hw'
        obtain ⟨x', rfl⟩ := hw'
        have R := HR.out.below (HF1.out x')
        have BB := bthen HBB.out HBB.out.size (HF1.out x')
        clear d0 d1 d2 d3 hS HC HF1 HR HBB
        generalize Fq2 x' = w9 at *
        obtain ⟨c0, c1, c2, pl, l0, lG⟩ := id R
        go_wp2_with fail
        go_roundw
        case rel => exact ⟨k + 1, by go_num, by omega, bthen HB.out HB.out.size BB⟩
        case measure => simp [intOf]; omega
      · replace C4 := C4 rfl
        obtain ⟨c0, c1, c2, pl, l0, lG⟩ := id R
        go_wp2_with fail
        refine (C1 _).mono ?_
        rintro e w4 ⟨rfl, hb⟩
        clear c0 c1 c2 pl l0 lG
        have BB : Below wr.heap.size wr w4 := hb
        replace R := R.below hb
        clear hb C1
        have A := At.new w4 x y z
        unfold vb at A
        replace R := R.below (b1 w4 (.cells #[.int .i64 x, .int .i64 y, .string z] 23))
        replace BB := BB.alloc BB.size (.cells #[.int .i64 x, .int .i64 y, .string z] 23)
        obtain ⟨qA, hqA⟩ : ∃ q, w4.heap.size = q := ⟨_, rfl⟩
        obtain ⟨c0, c1, c2, pl, l0, lG⟩ := id R
        obtain ⟨A0, A1, A2, Al⟩ := id A
        rw [hqA] at A A0 A1 A2 Al
        go_wp2_with fail
        try rw [hqA]
        generalize w4.alloc (.cells #[.int .i64 x, .int .i64 y, .string z] 23) = w5 at *
        refine (C2 _).mono ?_
        rintro e w6 ⟨rfl, hb⟩
        clear c0 c1 c2 pl l0 lG
        clear A0 A1 A2 Al
        replace BB := bthen BB BB.size hb
        replace R := R.below hb
        replace A := A.below hb
        clear hb C2
        have D := At.new w6 x y z
        unfold vb at D
        replace R := R.below (b1 w6 (.cells #[.int .i64 x, .int .i64 y, .string z] 23))
        replace A := A.alloc (.cells #[.int .i64 x, .int .i64 y, .string z] 23)
        replace BB := BB.alloc BB.size (.cells #[.int .i64 x, .int .i64 y, .string z] 23)
        obtain ⟨qD, hqD⟩ : ∃ q, w6.heap.size = q := ⟨_, rfl⟩
        obtain ⟨c0, c1, c2, pl, l0, lG⟩ := id R
        obtain ⟨A0, A1, A2, Al⟩ := id A
        obtain ⟨D0, D1, D2, Dl⟩ := id D
        rw [hqD] at D D0 D1 D2 Dl
        go_wp2_with fail
        try rw [hqD]
        generalize w6.alloc (.cells #[.int .i64 x, .int .i64 y, .string z] 23) = w7 at *
        obtain ⟨X1, Fq1, F1, F2⟩ := class_of w7
        have d0 : ∀ x', (Fq1 x').cell? (a.add (k * 3)) = some (.int .i64 kk) := fun x' => (R.below (F1 x')).c0
        have d1 : ∀ x', (Fq1 x').cell? ⟨(a.add (k * 3)).block, (a.add (k * 3)).off + 1, none⟩ = some (.int .i64 nn) := fun x' => (R.below (F1 x')).c1
        have d2 : ∀ x', (Fq1 x').cell? ⟨(a.add (k * 3)).block, (a.add (k * 3)).off + 2, none⟩ = some (.string ss) := fun x' => (R.below (F1 x')).c2
        have d3 : ∀ x', (Fq1 x').cell? ⟨G, k, none⟩ = some (.bool (!true)) := fun x' => (R.below (F1 x')).l0
        have eA0 : ∀ x', (Fq1 x').cell? ⟨qA, 0, none⟩ = some (.int .i64 x) := fun x' => by rw [(F1 x').cell (by exact Al)]; exact A0
        have eA1 : ∀ x', (Fq1 x').cell? ⟨qA, 1, none⟩ = some (.int .i64 y) := fun x' => by rw [(F1 x').cell (by exact Al)]; exact A1
        have eA2 : ∀ x', (Fq1 x').cell? ⟨qA, 2, none⟩ = some (.string z) := fun x' => by rw [(F1 x').cell (by exact Al)]; exact A2
        have eD0 : ∀ x', (Fq1 x').cell? ⟨qD, 0, none⟩ = some (.int .i64 x) := fun x' => by rw [(F1 x').cell (by exact Dl)]; exact D0
        have eD1 : ∀ x', (Fq1 x').cell? ⟨qD, 1, none⟩ = some (.int .i64 y) := fun x' => by rw [(F1 x').cell (by exact Dl)]; exact D1
        have eD2 : ∀ x', (Fq1 x').cell? ⟨qD, 2, none⟩ = some (.string z) := fun x' => by rw [(F1 x').cell (by exact Dl)]; exact D2
        have hS : ∀ x', Calls Tryd.prog 22 #[.agg #[.int .i64 kk, .int .i64 nn, .string ss], .int .i64 q] (Fq1 x') fun e w'' => e = .returned (.bool true) ∧ ∃ y', w'' = Fq1 y' := fun x' => (C3 (Fq1 x')).mono fun e w' ⟨he, hw⟩ => ⟨he, F2 w' (bthen (F1 x') (F1 x').size hw)⟩
        have HC : Hid (∃ x', w7.drew = Fq1 x') := F2 _ (Below.refl _ _).drew
        have HF1 : Hid _ := F1
        have HR : Hid _ := R
        have HBB : Hid _ := BB
        clear F1 F2 R BB c0 c1 c2 pl l0 lG A A0 A1 A2 Al D D0 D1 D2 Dl
        haveI : Nonempty X1 := HC.out.elim fun x' _ => ⟨x'⟩
        refine wp_class (F := Fq1) (by kernel_rfl) (by kernel_rfl) HC.out ?_
        repeat (go_big_quiet_step (exact hS _))
        refine wpQuiet_nil ?_
        intro _ hw'
        obtain ⟨x', rfl⟩ := hw'
        have R := HR.out.below (HF1.out x')
        have BB := bthen HBB.out HBB.out.size (HF1.out x')
        clear d0 d1 d2 d3 eA0 eA1 eA2 eD0 eD1 eD2 hS HC HF1 HR HBB
        generalize Fq1 x' = w8 at *
        obtain ⟨c0, c1, c2, pl, l0, lG⟩ := id R
        go_wp2_with fail
        obtain ⟨X2, Fq2, F1, F2⟩ := class_of w8
        have d0 : ∀ x', (Fq2 x').cell? (a.add (k * 3)) = some (.int .i64 kk) := fun x' => (R.below (F1 x')).c0
        have d1 : ∀ x', (Fq2 x').cell? ⟨(a.add (k * 3)).block, (a.add (k * 3)).off + 1, none⟩ = some (.int .i64 nn) := fun x' => (R.below (F1 x')).c1
        have d2 : ∀ x', (Fq2 x').cell? ⟨(a.add (k * 3)).block, (a.add (k * 3)).off + 2, none⟩ = some (.string ss) := fun x' => (R.below (F1 x')).c2
        have d3 : ∀ x', (Fq2 x').cell? ⟨G, k, none⟩ = some (.bool (!true)) := fun x' => (R.below (F1 x')).l0
        have hS : ∀ x', Calls Tryd.prog 22 #[.agg #[.int .i64 kk, .int .i64 nn, .string ss], .int .i64 q] (Fq2 x') fun e w'' => e = .returned (.bool true) ∧ ∃ y', w'' = Fq2 y' := fun x' => (C3 (Fq2 x')).mono fun e w' ⟨he, hw⟩ => ⟨he, F2 w' (bthen (F1 x') (F1 x').size hw)⟩
        have hM : ∀ x', Calls Tryd.prog 23 #[.agg #[.int .i64 kk, .int .i64 nn, .string ss], .int .i64 q] (Fq2 x') fun e w'' => e = .returned (.agg #[.int .i64 kk, .int .i64 nn, .string ss]) ∧ ∃ y', w'' = Fq2 y' := fun x' => (C4 (Fq2 x')).mono fun e w' ⟨he, hw⟩ => ⟨he, F2 w' (bthen (F1 x') (F1 x').size hw)⟩
        have HC : Hid (∃ x', w8.drew = Fq2 x') := F2 _ (Below.refl _ _).drew
        have HF1 : Hid _ := F1
        have HR : Hid _ := R
        have HBB : Hid _ := BB
        clear F1 F2 R BB c0 c1 c2 pl l0 lG 
        haveI : Nonempty X2 := HC.out.elim fun x' _ => ⟨x'⟩
        refine wp_class (F := Fq2) (by kernel_rfl) (by kernel_rfl) HC.out ?_
        iterate 6 (go_big_quiet_step (exact hS _))
        repeat (go_big_quiet_step (exact hM _))
        refine wpQuiet_nil ?_
        intro _ hw'
        obtain ⟨x', rfl⟩ := hw'
        have R := HR.out.below (HF1.out x')
        have BB := bthen HBB.out HBB.out.size (HF1.out x')
        clear d0 d1 d2 d3 hS hM HC HF1 HR HBB
        generalize Fq2 x' = w9 at *
        obtain ⟨c0, c1, c2, pl, l0, lG⟩ := id R
        go_wp2_with fail
        go_roundw
        case rel => exact ⟨k + 1, by go_num, by omega, bthen HB.out HB.out.size BB⟩
        case measure => simp [intOf]; omega
    · go_wp2
      go_ret
      exact ⟨rfl, bthen B3 B3.size HB.out⟩
end Go.Proofs.YtimmoecjfkacpaaDoor
