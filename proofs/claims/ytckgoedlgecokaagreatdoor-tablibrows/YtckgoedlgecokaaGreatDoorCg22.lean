/- The walk of Remove on an empty row. -/
import Derived.Test.YtckgoedlgecokaaGreatDoorCg21
import Derived.Test.YtckgoedlgecokaaGreatDoorCg13
import Derived.Test.YtckgoedlgecokaaGreatDoorCg04
import Derived.Test.YtckgoedlgecokaaGreatDoorCg07
import Derived.Laws.StructEq
namespace Go.Proofs.YtckgoedlgecokaaGreatDoor
open Go.RowKit
section
variable {No : Nat → Prop} {w : World} {T S hb c : Nat} {K : Nat} {l : List V}
theorem rowf_none : fupd (rowf []) 0 nil = rowf [] := by
  funext x
  unfold fupd rowf
  split
  · rw [if_neg (by simp; omega)]
  · rfl
set_option maxRecDepth 20000 in
set_option maxHeartbeats 4000000 in
theorem remove_none (h : Tw No w T S hb c 1 K (rowf [])) (hc : c ≤ 400000) (fuel : Int) (hf0 : 0 ≤ fuel) :
    Calls Tryz.prog 17 #[tp T, .int .i64 0, .int .i64 fuel] w fun e w' => e = .returned (.tuple #[vv nil, .int .i64 0, .int .i64 0]) ∧ Tw No w' T S hb (c + 200) 1 K (rowf []) ∧ Keep No w w' := by
  obtain ⟨No2, h0, n1, n2, n3⟩ := h.box (vb 0 0 ⟨#[]⟩)
  have C := h0.len (by omega) (m := 0) (by omega) fun x _ h1 => rowf_pres (l := []) (fun v hv => by cases hv) x h1
  have HK : Hid (Keep No w (w.alloc (vb 0 0 ⟨#[]⟩)) ∧ (∀ g, No g → No2 g) ∧ No2 w.heap.size ∧ R3 (w.alloc (vb 0 0 ⟨#[]⟩)) w.heap.size nil ∧ ¬ No w.heap.size) := ⟨Keep.of (b1 _ _), n1, n2, R3.made w nil, n3⟩
  have f0 : ¬ fuel < 0 := by omega
  have d0 : decide (fuel < 0) = false := by simp; omega
  have HNo : Hid (∀ g, No g → g < w.heap.size) := fun g q => h.nos q
  clear h h0 n1 n2 n3
  go_enter Tryz.func17, Tryz.ntmps17
  go_wp2_with fail
  refine C.mono ?_
  rintro e w1 ⟨rfl, t1, k1⟩
  have B1 : Hid (R3 w1 w.heap.size nil ∧ Keep No w w1) := ⟨HK.out.2.2.2.1.kept k1 HK.out.2.2.1, HK.out.1.trans (k1.sub HK.out.2.1)⟩
  have C2 := t1.get31 (by omega) 0 ⟨by omega, by omega⟩
  clear C k1 t1
  go_wp2_with fail
  refine C2.mono ?_
  rintro e w2 ⟨rfl, t2, k2⟩
  have B2 : Hid (R3 w2 w.heap.size nil ∧ Keep No w w2) := ⟨B1.out.1.kept k2 HK.out.2.2.1, B1.out.2.trans (k2.sub HK.out.2.1)⟩
  obtain ⟨xv, hxv⟩ : ∃ xv, rowf [] 0 = xv := ⟨_, rfl⟩
  have HXV : Hid (rowf [] 0 = xv) := hxv
  rw [hxv]
  clear C2 k2 B1 hxv
  have hz2 : w.heap.size < w2.heap.size := B2.out.1.bx.lt
  have k3 := b2 w2 (vb xv.1 xv.2.1 xv.2.2) (.cells #[.int .i64 fuel, .int .i64 0] 66)
  have e3 : ((w2.alloc (vb xv.1 xv.2.1 xv.2.2)).alloc (.cells #[.int .i64 fuel, .int .i64 0] 66)).heap.size = w2.heap.size + 1 + 1 := by simp
  have t3 := t2.news k3
  obtain ⟨No3, hNo3⟩ : ∃ No3, (fun g => No2 g ∨ (w2.heap.size ≤ g ∧ g < ((w2.alloc (vb xv.1 xv.2.1 xv.2.2)).alloc (.cells #[.int .i64 fuel, .int .i64 0] 66)).heap.size)) = No3 := ⟨_, rfl⟩
  have HX : Hid ((∀ g, No g → No3 g ∧ g ≠ w2.heap.size + 1) ∧ No3 (w2.heap.size + 1) ∧ (No3 w.heap.size ∧ w.heap.size ≠ w2.heap.size + 1) ∧ (No3 w2.heap.size ∧ w2.heap.size ≠ w2.heap.size + 1)) := by
    rw [← hNo3, e3]
    exact ⟨fun g q => ⟨.inl (HK.out.2.1 g q), by have := HNo.out g q; omega⟩, .inr ⟨by omega, by omega⟩, ⟨.inl HK.out.2.2.1, by omega⟩, .inr ⟨by omega, by omega⟩, by omega⟩
  rw [hNo3] at t3
  have sp := Sp.made (w2.alloc (vb xv.1 xv.2.1 xv.2.2)) fuel 66
  rw [show (w2.alloc (vb xv.1 xv.2.1 xv.2.2)).heap.size = w2.heap.size + 1 by simp] at sp
  have HI : Hid (Tw No3 ((w2.alloc (vb xv.1 xv.2.1 xv.2.2)).alloc (.cells #[.int .i64 fuel, .int .i64 0] 66)) T S hb (c + 130 + 1) 1 K (rowf []) ∧ Sp ((w2.alloc (vb xv.1 xv.2.1 xv.2.2)).alloc (.cells #[.int .i64 fuel, .int .i64 0] 66)) (w2.heap.size + 1) fuel 0 ∧ Bx ((w2.alloc (vb xv.1 xv.2.1 xv.2.2)).alloc (.cells #[.int .i64 fuel, .int .i64 0] 66)) w2.heap.size xv ∧ R3 ((w2.alloc (vb xv.1 xv.2.1 xv.2.2)).alloc (.cells #[.int .i64 fuel, .int .i64 0] 66)) w.heap.size nil ∧ Keep No w ((w2.alloc (vb xv.1 xv.2.1 xv.2.2)).alloc (.cells #[.int .i64 fuel, .int .i64 0] 66))) :=
    ⟨t3, sp, (Bx.made w2 xv).below (b1 _ _), B2.out.1.below k3, B2.out.2.bel k3⟩
  clear t2 t3 k3 e3 hNo3 sp B2
  unfold vb at HI
  go_wp2
  go_loopw [13] (fun iv wx => iv = .int .i64 0 ∧ Hid (Tw No3 wx T S hb (c + 130 + 1) 1 K (rowf []) ∧ Sp wx (w2.heap.size + 1) fuel 0 ∧ Bx wx w2.heap.size xv ∧ R3 wx w.heap.size nil ∧ Keep No w wx)) (fun _ _ => 0)
  case atStart => exact ⟨rfl, HI⟩
  case round =>
    clear HI
    obtain ⟨rfl, HI⟩ := hrel
    have C2 := HI.out.1.set29 (by omega) 0 ⟨by omega, by omega⟩ nil (.inl rfl) (by kernel_rfl)
    rw [rowf_none] at C2
    go_wp2_with fail
    refine C2.mono ?_
    rintro e w4 ⟨rfl, t4, k4⟩
    have H4 : Hid (Tw No3 w4 T S hb (c + 200) 1 K (rowf []) ∧ Sp w4 (w2.heap.size + 1) fuel 0 ∧ Bx w4 w2.heap.size xv ∧ R3 w4 w.heap.size nil ∧ Keep No w w4) := ⟨t4.more (by omega), HI.out.2.1.kept k4 HX.out.2.1, HI.out.2.2.1.kept k4 HX.out.2.2.2.1, HI.out.2.2.2.1.kept k4 HX.out.2.2.1.1, HI.out.2.2.2.2.trans (k4.sub fun g q => (HX.out.1 g q).1)⟩
    clear C2 t4 k4 HI
    have c1 := H4.out.2.1.c1
    have x0 := H4.out.2.2.1.c0
    have x1 := H4.out.2.2.1.c1
    have x2 := H4.out.2.2.1.c2
    have m0 := H4.out.2.2.2.1.bx.c0
    have m1 := H4.out.2.2.2.1.bx.c1
    have m2 := H4.out.2.2.2.1.bx.c2
    have nf := H4.out.2.2.2.1.fz
    have ne1 : ¬ w2.heap.size + 1 = w.heap.size := by omega
    have ne2 : ¬ w2.heap.size = w.heap.size := by omega
    have HW : Hid (Tw No (Go.Proofs.YtckgoedlgecokaaGreatDoor.set3 w4 w.heap.size xv).drew T S hb (c + 200) 1 K (rowf []) ∧ R3 (Go.Proofs.YtckgoedlgecokaaGreatDoor.set3 w4 w.heap.size xv) w.heap.size xv ∧ Keep No w (Go.Proofs.YtckgoedlgecokaaGreatDoor.set3 w4 w.heap.size xv).drew) := ⟨((H4.out.1.set3 HX.out.2.2.1.1 xv).sub fun g q => (HX.out.1 g q).1).drew, H4.out.2.2.2.1.set xv, (H4.out.2.2.2.2.set3 HK.out.2.2.2.2 xv).drew⟩
    clear H4
    go_wp2_with fail
    go_region
    have R5 := HW.out.2.1.bx
    unfold Go.Proofs.YtckgoedlgecokaaGreatDoor.set3 at HW R5
    have r0 := R5.c0
    have r1 := R5.c1
    have r2 := R5.c2
    clear R5 c1 x0 x1 x2 m0 m1 m2 nf
    go_wp2_with fail
    exact bodyPost_ret (v := .tuple #[.agg #[.int .i64 xv.1, .int .i64 xv.2.1, .string xv.2.2], .int .i64 0, .int .i64 0]) (by simp [results, Tryz.results17, go_sem, r0, r1, r2]) rfl ⟨by rw [← HXV.out, rowf_out (by simp)], HW.out.1, HW.out.2.2⟩
end
end Go.Proofs.YtckgoedlgecokaaGreatDoor

/- A new table: an empty row. -/
namespace Go.Proofs.YtckgoedlgecokaaGreatDoor
open Go.RowKit
theorem new_hp (w : World) (n : Int) (No : Nat → Prop) (hn : ∀ g, No g → g < w.heap.size) : H.Hp No ((w.alloc (.map #[] 0)).alloc (.cells #[.int .i64 n, .int .i64 0, .int .i64 0, .slice none 0 0, .map (some w.heap.size)] 78)) (w.heap.size + 1) w.heap.size 0 (.slice none 0 0) (H.newSt n) := by
  have e : (w.alloc (.map #[] 0)).heap.size = w.heap.size + 1 := by simp
  have hs := (MapKept.heap_alloc (w.alloc (.map #[] 0)) (.cells #[.int .i64 n, .int .i64 0, .int .i64 0, .slice none 0 0, .map (some w.heap.size)] 78)).1
  rw [e] at hs
  refine ⟨hs, World.ownsRow_nil _ _ _ _, (H.Rdy.made No w).alloc _, Nat.le_refl _, fun q => ?_, fun q => ?_, fun g e => (by cases e), fun g q => ?_⟩
  · have := hn _ q; omega
  · have := hn _ q; omega
  · have := hn _ q; simp; omega
theorem pres_new : pres (fresh 0 0) = [] := rfl
theorem Mw.new (K : Nat) (hK : K ≤ 1000) (lim : Int) (h1 : 4 + 16 * ((K : Int) + 1) ≤ lim) (h2 : lim ≤ 400000) : H.takeE (H.newSt lim) 4 = 0 ∧ tpE (H.takeSt (H.newSt lim) 4) ((0 : Nat) : Int) ((0 : Nat) : Int) = 0 ∧
    Mw 1 K (rowf []) (newT 0 0 (H.takeId (H.takeSt (H.newSt lim) 4) ((0 : Nat) : Int)) (H.takeId (H.takeSt (H.takeSt (H.newSt lim) 4) ((0 : Nat) : Int)) (3 * ((0 : Nat) : Int)))) (tpS (H.takeSt (H.newSt lim) 4) ((0 : Nat) : Int) ((0 : Nat) : Int)) := by
  have iv := H.Inv.new lim (by omega) h2
  have e1 : H.takeE (H.newSt lim) 4 = 0 := take0 (by omega) (by show 4 ≤ lim - 0; omega)
  obtain ⟨a1, a2, a3, a4⟩ := blk_take iv e1
  have hl : (H.newSt lim).live = 0 := rfl
  have hm : (H.newSt lim).lim = lim := rfl
  have iv2 := iv.take 4
  generalize H.takeSt (H.newSt lim) 4 = s at *
  have e2 : H.takeE s ((0 : Nat) : Int) = 0 := take0 (by omega) (by omega)
  obtain ⟨b1, b2⟩ := H.takeSt_bad (s := s) (n := ((0 : Nat) : Int)) (.inr rfl)
  have z0 : 3 * ((0 : Nat) : Int) = ((0 : Nat) : Int) := rfl
  have e3 : tpE s ((0 : Nat) : Int) ((0 : Nat) : Int) = 0 := by
    unfold tpE; rw [if_neg (fun q => q e2), b1, z0]; exact e2
  have e4 : tpS s ((0 : Nat) : Int) ((0 : Nat) : Int) = s := by
    rcases tp_cases s ((0 : Nat) : Int) ((0 : Nat) : Int) with ⟨q, _⟩ | ⟨_, q, _⟩ | ⟨_, _, _, q⟩
    · exact absurd e2 q
    · rw [b1, z0] at q; exact absurd e2 q
    · rw [q, b1, z0, b1]
  refine ⟨e1, e3, ?_⟩
  rw [e4, b2, b1, z0, b2]
  refine ⟨⟨Int.le_refl _, Int.le_refl _⟩, ⟨.inl ⟨rfl, rfl⟩, .inl ⟨rfl, rfl⟩, fun _ => rfl, ?_⟩, by rw [a3, hm]; exact h1, Nat.zero_le _, Nat.zero_le _, fun k hk => ?_, fun x hx => ?_, fun x hx => ?_, hK⟩
  · rw [a2, hl]; rfl
  · have : k ∈ pres (fresh 0 0) := hk
    rw [pres_new] at this; cases this
  · rw [rowf_out (by simp; omega)]
    show pget (fresh 0 0) (kn x) = nil
    unfold pget
    rw [if_neg (fun q : inA (fresh 0 0).n (kn x) => by have q1 : 1 ≤ x := q.2.2.1; have q2 : x ≤ ((0 : Nat) : Int) := q.2.2.2; omega)]
    rfl
  · rw [rowf_out (by simp; omega)]; kernel_rfl
theorem new_row {w : World} {No : Nat → Prop} {S hb c : Nat} {vb : Value} {lim : Int} (h : H.Hp No w S hb c vb (H.newSt lim)) (hc : c ≤ 700000) (K : Nat) (hK : K ≤ 1000) (h1 : 4 + 16 * ((K : Int) + 1) ≤ lim) (h2 : lim ≤ 400000) :
    Calls Tryz.prog 24 #[tp S, .int .i64 0, .int .i64 0] w fun e w' => ∃ T, e = .returned (.tuple #[tp T, .int .i64 0]) ∧ Tw No w' T S hb (c + 3) 1 K (rowf []) ∧ Keep No w w' := by
  obtain ⟨m1, m2, m3⟩ := Mw.new K hK lim h1 h2
  refine (new_good h hc (H.Inv.new lim (by omega) h2) 0 0 0 (by omega) (by omega) (by kernel_rfl) (.inl rfl) m1 m2).mono fun e w' ⟨T, A, b, g, he, ht, hk⟩ => ⟨T, he, ⟨A, b, g, _, _, ht, m3⟩, hk⟩
end Go.Proofs.YtckgoedlgecokaaGreatDoor

/- The walk of is: has the table just the list's values? -/
namespace Go.Proofs.YtckgoedlgecokaaGreatDoor
open Go.RowKit
theorem underV : Tryz.prog.underlying 24 = some (.struct (Tryz.prog.fieldsOf 24)) := by kernel_rfl
theorem stoodV : Tryz.prog.stoodInHeld 24 = false := by kernel_rfl
theorem neqV (x : V) (W : World) : (binOp .neq 24 (.agg #[.int .i64 x.1, .int .i64 x.2.1, .string x.2.2]) (.agg #[.int .i64 x.1, .int .i64 x.2.1, .string x.2.2])).run Tryz.prog W = .ok (.bool false) W := by
  rw [run_neq_struct, run_equalIn_agg W _ _ _ _ underV stoodV]
  simp [go_sem]
section
variable {No : Nat → Prop} {w : World} {T S hb c : Nat} {K : Nat} {l : List V}
set_option maxRecDepth 20000 in
set_option maxHeartbeats 4000000 in
theorem is_row (h : Tw No w T S hb c 1 K (rowf l)) (g : Gl l) (hc : c ≤ 400000) (hl : l.length ≤ 1000) (B : Nat) (a : Option Addr) (cp : Nat) (lv : Lv w B (.slice a l.length cp) l.length fun i => l.getD i nil) (hn : ∀ q, (Value.slice a l.length cp).ownBlock = some q → No q) :
    Calls Tryz.prog 11 #[tp T, .slice a l.length cp] w fun e w' => e = .returned (.bool true) ∧ Tw No w' T S hb (c + l.length + 300) 1 K (rowf l) ∧ Keep No w w' := by
  obtain ⟨n, hN⟩ : ∃ n, l.length = n := ⟨_, rfl⟩
  have HN : Hid (l.length = n) := hN
  have HI : Hid (Tw No w T S hb c 1 K (rowf l) ∧ Lv w B (.slice a n cp) n (fun i => l.getD i nil) ∧ ∀ q, (Value.slice a n cp).ownBlock = some q → No q) := ⟨h, hN ▸ lv, hN ▸ hn⟩
  rw [hN] at hl ⊢
  clear h lv hn hN
  go_enter Tryz.func11, Tryz.ntmps11
  go_wp2
  go_loopw [5] (fun iv wx => ∃ j : Nat, iv = .int .i64 (j : Nat) ∧ j ≤ n ∧ Hid (Tw No wx T S hb (c + j) 1 K (rowf l) ∧ Keep No w wx)) (fun iv _ => n - (intOf iv).toNat)
  case atStart => exact ⟨0, rfl, by omega, HI.out.1, Keep.refl _ _⟩
  case round =>
    obtain ⟨j, rfl, hj, HJ⟩ := hrel
    by_cases hlt : j < n
    · have h1 : (j : Int) < (n : Int) := by omega
      have wj : IntKind.i64.wrap ((j : Int) + 1) = (j : Int) + 1 := by rw [IntKind.wrap_i64]; omega
      have hms : n - (j + 1) < n - j := by omega
      obtain ⟨q, cq, eq, _, lq, _, m0, m1, m2⟩ := (HI.out.2.1.keep HJ.out.2 HI.out.2.2).at hlt
      have nq : No q := HI.out.2.2 q (by rw [eq]; rfl)
      injection eq with eq1 eq2 eq3
      subst eq1
      clear eq2 eq3
      obtain ⟨x, hx⟩ : ∃ x, l.getD j nil = x := ⟨_, rfl⟩
      rw [hx] at m0 m1 m2
      have HG : Hid (rowf l ((j : Int) + 1) = x) := by
        have := HN.out
        show _ = _
        rw [rowf_in (by omega) (by omega), ← hx]; congr 1; omega
      have HM : Hid (∀ W, Keep No wr W → W.cell? ⟨q, j * 3, none⟩ = some (.int .i64 x.1) ∧ W.cell? ⟨q, j * 3 + 1, none⟩ = some (.int .i64 x.2.1) ∧ W.cell? ⟨q, j * 3 + 2, none⟩ = some (.string x.2.2)) := fun W k => by
        have e := k.block q lq nq
        exact ⟨by rw [World.cell?_of_block (w := wr) e]; exact m0, by rw [World.cell?_of_block (w := wr) e]; exact m1, by rw [World.cell?_of_block (w := wr) e]; exact m2⟩
      have CI := mkI ((j : Int) + 1) wr.drew
      have HT : Hid (Tw No wr.drew T S hb (c + j) 1 K (rowf l) ∧ Keep No wr wr.drew ∧ Keep No w wr) := ⟨HJ.out.1.drew, (Keep.refl _ _).drew, HJ.out.2⟩
      have nx := neqV x
      have r0 := (HM.out _ HT.out.2.1).1
      have r1 := (HM.out _ HT.out.2.1).2.1
      have r2 := (HM.out _ HT.out.2.1).2.2
      clear hx lq nq HJ m0 m1 m2
      go_wp2_with fail
      go_region_with (first
        | (go_at_call 20; refine CI.mono ?_; rintro e w3 ⟨rfl, hb3⟩; have K3 : Hid (Keep No wr w3 ∧ Tw No w3 T S hb (c + j) 1 K (rowf l)) := ⟨HT.out.2.1.bel hb3, HT.out.1.below hb3⟩; have a0 := (HM.out _ K3.out.1).1; have a1 := (HM.out _ K3.out.1).2.1; have a2 := (HM.out _ K3.out.1).2.2; have CG := K3.out.2.get (by omega) ((j : Int) + 1) ⟨by omega, by omega⟩; rw [HG.out] at CG; clear hb3)
        | (go_at_call 26; refine CG.mono ?_; rintro e w4 ⟨rfl, t4, k4⟩; have K4 : Hid (Keep No wr w4 ∧ Tw No w4 T S hb (c + j + 1) 1 K (rowf l)) := ⟨K3.out.1.trans k4, t4⟩; have b0 := (HM.out _ K4.out.1).1; have b1 := (HM.out _ K4.out.1).2.1; have b2 := (HM.out _ K4.out.1).2.2; clear t4 k4 CG))
      all_goals
        have HN2 : Hid (Tw No w4 T S hb (c + (j + 1)) 1 K (rowf l) ∧ Keep No w w4) := ⟨K4.out.2, HT.out.2.2.trans K4.out.1⟩
        clear HM r0 r1 r2 a0 a1 a2 b0 b1 b2 HT K3 K4 HG CI nx
        go_wp2
        go_roundw
        case rel => exact ⟨j + 1, by go_num, by omega, HN2⟩
        case measure => first | omega | (simp only [intOf]; omega) | (simp; omega)
    · have h1 : ¬ (j : Int) < (n : Int) := by omega
      have wj : IntKind.i64.wrap ((n : Int) + 1) = (n : Int) + 1 := by rw [IntKind.wrap_i64]; omega
      have e0 : j = n := by omega
      subst e0
      have CI := mkI ((j : Int) + 1) wr
      go_wp2_with fail
      refine CI.mono ?_
      rintro e w3 ⟨rfl, hb3⟩
      have CG := (HJ.out.1.below hb3).get (by omega) ((j : Int) + 1) ⟨by omega, by omega⟩
      rw [rowf_out (l := l) (x := (j : Int) + 1) (by have := HN.out; omega)] at CG
      have HK3 : Hid (Keep No w w3) := HJ.out.2.bel hb3
      clear CI hb3 HJ
      go_wp2_with fail
      refine CG.mono ?_
      rintro e w4 ⟨rfl, t4, k4⟩
      have CL := last_row t4 g (by omega) (by have := HN.out; omega)
      rw [HN.out] at CL
      have HK4 : Hid (Keep No w w4) := HK3.out.trans k4
      clear CG t4 k4 HK3
      have fl := fldV 0 0 ⟨#[]⟩
      unfold vv nil vl
      go_wp2_with fail
      refine CL.mono ?_
      rintro e w5 ⟨rfl, t5, k5⟩
      have H5 : Hid (Tw No w5 T S hb (c + j + 300) 1 K (rowf l) ∧ Keep No w w5) := ⟨t5.more (by omega), HK4.out.trans k5⟩
      clear CL t5 k5 HK4
      go_wp2
      go_ret
      exact ⟨rfl, H5.out⟩
end
end Go.Proofs.YtckgoedlgecokaaGreatDoor
