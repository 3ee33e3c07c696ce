/- The walk of the reference's Fit. The great seat's numbers. -/
import Derived.Test.YtcaaaoehipcloaaGreatCg36
import Derived.Test.YtcaaaoehipcloaaGreatCg38
import Derived.Test.YtcaaaoehipcloaaGreatCg11
import Derived.Test.YtcaaaoehipcloaaGreatCg14
namespace Go.Proofs.YtcaaaoehipcloaaGreat
open Go.RowKit

theorem ints_take {F : Nat → V} {m : Nat} {l : List V} (h : Is F m l) {i : Nat} (hi : i < m) : ints (l.take (i + 1)) = ints (l.take i) ++ (if (F i).1 = 2 then [(F i).2.1] else []) := by
  have e := h.2 i hi
  rw [List.take_add_one, e]
  show ints (l.take i ++ [F i]) = _
  rw [ints_app]
  congr 1
  unfold ints
  by_cases q : (F i).1 = 2
  · simp [q]
  · simp [q]
/-- An int more. -/
theorem ints_push {w0 w : World} {B : Nat} {v : Value} {l : List Int} (hb : Below B w0 w) (hB : B ≤ w.heap.size) (h : w.ownsRow B 3 1 v l.length (l.map (Value.int .i64))) (x : Int) (hn : l.length ≤ 200000) :
    ∃ g c w', (Builtin.append_ #[37, 37] 37 #[v, .slice (some ⟨w.heap.size, 0, none⟩) 1 1]).run Tryz.prog (w.alloc (.cells #[.int .i64 x] 3)) = .ok (.slice (some ⟨g, 0, none⟩) (l.length + 1) c) w' ∧ w'.ownsRow B 3 1 (.slice (some ⟨g, 0, none⟩) (l.length + 1) c) (l ++ [x]).length ((l ++ [x]).map (Value.int .i64)) ∧ Below B w0 w' := by
  have b5 := b1 w (.cells #[.int .i64 x] 3)
  have h2 : (w.alloc (.cells #[.int .i64 x] 3)).ownsRow B 3 1 v l.length (l.map (Value.int .i64)) := h.kept ⟨b5.os, b5.tape, b5.output, b5.size, fun i hi _ => b5.block i hi⟩ (row := none) (by cases v.ownBlock <;> simp)
  obtain ⟨j0, hji, hz0, hz1, hz2⟩ := info_parts info3
  obtain ⟨g2, cap3, w6, hr, hown, hgr, hat, hlt6⟩ := run_append_lies (P := Tryz.prog) (w.alloc (.cells #[.int .i64 x] 3)) 37 37 B 3 j0 (.int .i64 0) 1 8 Tryz.underlying37 hji hz0 hz1 hz2 rfl (by omega) _ _ _ h2 ⟨w.heap.size, 0, none⟩ 1 1 [.int .i64 x] rfl
      (World.news_of_block (cs := #[.int .i64 x]) (t := 3) (fr := (0, 0)) (MapKept.heap_alloc w _).1) (by intro u hu; simp at hu; rw [hu]; rfl) (by omega) (by simp only [maxLen]; omega) (by omega) (by have := b5.size; omega) _ rfl
  refine ⟨g2, cap3, w6, hr, by simpa using hown, (bthen hb hB b5).trans ⟨hgr.os, hgr.tape, hgr.output, hgr.size, fun y hy => hgr.block y (by have := b5.size; omega) (fun e => ?_)⟩⟩
  have := (h.lt y e.symm).1
  omega
set_option maxRecDepth 20000 in
set_option maxHeartbeats 4000000 in
theorem rfit_any {w : World} {B : Nat} {v : Value} {m : Nat} {F : Nat → V} {l : List V} (h : Lv w B v m F) (hi : Is F m l) (hk : ∀ k, k ∈ l → KOK k) (hm : m ≤ 200000) :
    Calls Tryz.prog 58 #[v] w fun e w' => e = .returned (.tuple #[.int .i64 (C.szA (ints l) (oth l : Nat)), .int .i64 (C.szH (ints l) (oth l : Nat)), .int .i64 (C.szE (ints l) (oth l : Nat))]) ∧ Below w.heap.size w w' := by
  have HL : Hid (Lv w B v m F) := h
  have HI : Hid (Is F m l) := hi
  have HF : Hid (C.Fit (ints l)) := ints_fit hk
  have HN : Hid ((ints l).length + oth l = m) := by show _ = _; rw [ints_len]; exact hi.1
  obtain ⟨av, cv, rfl⟩ := h.form
  clear h hi hk
  go_enter Tryz.func58, Tryz.ntmps58
  go_wp2_with fail
  go_loopw [5, 6] (fun lw jw wr => ∃ i : Nat, jw = .int .i64 (i : Nat) ∧ i ≤ m ∧ Hid (wr.ownsRow w.heap.size 3 1 lw (ints (l.take i)).length ((ints (l.take i)).map (Value.int .i64))) ∧ Hid (Below w.heap.size w wr)) (fun _ jw _ => m - (intOf jw).toNat)
  case atStart => exact ⟨0, rfl, by omega, World.ownsRow_nil w _ 3 1, Below.refl _ _⟩
  case round =>
    obtain ⟨i, rfl, him, HO, HB⟩ := hrel
    obtain ⟨ak, ck, hvk⟩ := slice_shape HO.out
    subst hvk
    have hlen : (ints (l.take i)).length ≤ i := by
      have h1 := ints_len (l.take i)
      have h2 := List.length_take_le i l
      omega
    by_cases hlt : i < m
    · have hlt' : (i : Int) < (m : Int) := by omega
      obtain ⟨g0, c0, hv, _, _, _, x0, x1, _⟩ := (HL.out.below HB.out).at hlt
      obtain ⟨rfl, rfl⟩ : av = some ⟨g0, 0, none⟩ ∧ cv = c0 := by simpa using hv
      have ht := ints_take HI.out hlt
      by_cases h2 : (F i).1 = 2
      · rw [if_pos h2] at ht
        have hb2 : ((F i).1 == 2) = true := by simp [h2]
        obtain ⟨g, c, w6, hr, ho6, hb6⟩ := ints_push HB.out HB.out.size HO.out (F i).2.1 (by omega)
        rw [← ht] at ho6
        have HO6 : Hid (w6.ownsRow w.heap.size 3 1 (.slice (some ⟨g, 0, none⟩) ((ints (l.take i)).length + 1) c) (ints (l.take (i + 1))).length ((ints (l.take (i + 1))).map (Value.int .i64))) := ho6
        have HB6 : Hid (Below w.heap.size w w6) := hb6
        clear ho6 hb6 ht h2 hv
        generalize (F i).1 = k1 at *
        generalize (F i).2.1 = k2 at *
        go_wp2_with (at_builtin; refine wp_app rfl _ _ 37 rfl 37 rfl _ _ rfl rfl hr ?_)
        go_round
        case rel => exact ⟨i + 1, by go_num, by omega, HO6, HB6⟩
        case measure => simp [intOf]; omega
      · rw [if_neg h2, List.append_nil] at ht
        have hb2 : ((F i).1 == 2) = false := by simpa using h2
        have HT : Hid (ints (l.take (i + 1)) = ints (l.take i)) := ht
        clear ht h2 hv
        generalize (F i).1 = k1 at *
        go_wp2_with fail
        go_round
        case rel => exact ⟨i + 1, by go_num, by omega, by rw [HT.out]; exact HO, HB⟩
        case measure => simp [intOf]; omega
    · have hle : ¬ (i : Int) < (m : Int) := by omega
      have hl : l.take i = l := by rw [List.take_of_length_le]; have := HI.out.1; omega
      rw [hl] at HO hlen ⊢
      have CS := C.rsizes_any (ints l) (oth l : Nat) _ wr (C.ints_own HO.out) HF.out (by have := HN.out; omega)
      have hw1 : IntKind.i64.wrap ((m : Int) - ((ints l).length : Int)) = (oth l : Int) := by have := HN.out; rw [IntKind.wrap_i64]; omega
      go_wp2_with fail
      refine CS.mono ?_; rintro e w4 ⟨rfl, hb4⟩
      have HB4 : Hid (Below w.heap.size w w4) := bthen HB.out HB.out.size hb4
      clear hb4 CS
      go_wp2_with fail
      refine bodyPost_ret (v := .tuple #[.int .i64 (C.szA (ints l) (oth l : Nat)), .int .i64 (C.szH (ints l) (oth l : Nat)), .int .i64 (C.szE (ints l) (oth l : Nat))]) (by simp [results, Tryz.results58, go_sem]) rfl ⟨rfl, HB4.out⟩
end Go.Proofs.YtcaaaoehipcloaaGreat

/- The reference's table and its heap: Take and Give; stores into the struct. The great seat's numbers. -/
namespace Go.Proofs.YtcaaaoehipcloaaGreat
open Go.RowKit
section
variable {No : Nat → Prop} {w : World} {RT A P ka va ca : Nat} {cb : Nat → Nat} {G c : Nat} {t : TS} {s : H.St}
theorem RQ.take (h : RQ No w RT A P ka va ca cb G c t s) (hc : c ≤ 900000) (n : Int) :
    Calls Tryz.prog 30 #[.pointer (some ⟨G, 0, none⟩), .int .i64 n] w fun e w' => e = .returned (.tuple #[.int .i64 (H.takeId s n), .int .i64 (H.takeE s n)]) ∧ RQ No w' RT A P ka va ca cb G (c + 1) t (H.takeSt s n) ∧ Keep (fun g => No g ∨ Rb.Own RT A P ka va ca cb t g) w w' := by
  refine (rtk h.rh hc h.iv n).mono ?_
  rintro e w' ⟨rfl, h1, k⟩
  exact ⟨rfl, ⟨h.rb.kept k (fun x q => .inr q), h1, h.no, h.ti, h.iv.take n, h.p0, by have := h.p1; omega⟩, k⟩
theorem RQ.give (h : RQ No w RT A P ka va ca cb G c t s) (hc : c ≤ 900000) (id : Int) :
    Calls Tryz.prog 31 #[.pointer (some ⟨G, 0, none⟩), .int .i64 id] w fun e w' => e = .returned (.int .i64 (H.giveE s id)) ∧ RQ No w' RT A P ka va ca cb G (c + 1) t (H.giveSt s id) ∧ Keep (fun g => No g ∨ Rb.Own RT A P ka va ca cb t g) w w' := by
  refine (rgv h.rh hc h.iv id).mono ?_
  rintro e w' ⟨rfl, h1, k⟩
  exact ⟨rfl, ⟨h.rb.kept k (fun x q => .inr q), h1, h.no, h.ti, h.iv.give id, h.p0, by have := h.p1; omega⟩, k⟩
/-- A world in which the struct alone has changed. -/
theorem RQ.struct (h : RQ No w RT A P ka va ca cb G c t s) {w' : World} {sb nb hint pr : Int} (k : Keep (fun g => g ≠ RT) w w') (hsz : w'.heap.size = w.heap.size)
    (c0 : w'.cell? ⟨RT, 0, none⟩ = some (.slice (some ⟨A, 0, none⟩) t.p.n t.p.n)) (c1 : w'.cell? ⟨RT, 1, none⟩ = some (.pointer (some ⟨P, 0, none⟩))) (c2 : w'.cell? ⟨RT, 2, none⟩ = some (.int .i64 sb)) (c3 : w'.cell? ⟨RT, 3, none⟩ = some (.int .i64 nb)) (c4 : w'.cell? ⟨RT, 4, none⟩ = some (.int .i64 hint)) (c5 : w'.cell? ⟨RT, 5, none⟩ = some (.int .i64 pr)) (c6 : w'.cell? ⟨RT, 6, none⟩ = some (.pointer (some ⟨G, 0, none⟩))) (fz : ∀ j, w'.frozen? ⟨RT, j, none⟩ = false)
    (p0 : 0 ≤ pr) (p1 : pr ≤ (c : Int) * 65536) :
    RQ No w' RT A P ka va ca cb G c { p := t.p, sb := sb, nb := nb, hint := hint, pr := pr } s ∧ Keep No w w' := by
  have eA := k.block A h.rb.ltA (fun e => h.rb.nRA e.symm)
  have hrp := h.rb.rp.kept k h.rb.nR
  have hrh := h.rh.frame k.size (fun g hg hn => k.block g hg (fun e => hn (.inr (.inl e))))
  exact ⟨⟨⟨c0, c1, c2, c3, c4, c5, c6, fz, h.rb.sl.block eA, fun j => by rw [World.frozen?_of_block (w := w) eA]; exact h.rb.fA j, by rw [hsz]; exact h.rb.ltR, by rw [hsz]; exact h.rb.ltA, hrp, h.rb.nRA, h.rb.nR, h.rb.nA⟩, hrh, h.no, h.ti, h.iv, p0, p1⟩, k.sub (fun g q e => h.no RT (.inl rfl) (e ▸ q))⟩
theorem cell_ne (w : World) (N i j : Nat) (v : Value) (h : i ≠ j) : (w.setCell ⟨N, i, none⟩ v).cell? ⟨N, j, none⟩ = w.cell? ⟨N, j, none⟩ := World.cell?_setCell_other _ _ _ _ (fun q => by injection q with _ q2; omega)
/-- The count of reads is stored. -/
theorem RQ.probe (h : RQ No w RT A P ka va ca cb G c t s) (x : Int) (p0 : 0 ≤ x) (p1 : x ≤ (c : Int) * 65536) :
    RQ No (w.setCell ⟨RT, 5, none⟩ (.int .i64 x)) RT A P ka va ca cb G c { t with pr := x } s ∧ Keep No w (w.setCell ⟨RT, 5, none⟩ (.int .i64 x)) :=
  h.struct ((Keep.refl (fun g => g ≠ RT) w).set (p := ⟨RT, 5, none⟩) (fun q => q rfl) _) (by simp [World.setCell]) (by rw [cell_ne _ _ _ _ _ (by omega)]; exact h.rb.c0) (by rw [cell_ne _ _ _ _ _ (by omega)]; exact h.rb.c1) (by rw [cell_ne _ _ _ _ _ (by omega)]; exact h.rb.c2) (by rw [cell_ne _ _ _ _ _ (by omega)]; exact h.rb.c3) (by rw [cell_ne _ _ _ _ _ (by omega)]; exact h.rb.c4) (World.cell?_setCell_same _ _ _ h.rb.c5) (by rw [cell_ne _ _ _ _ _ (by omega)]; exact h.rb.c6) (fun j => by simpa using h.rb.fz j) p0 p1
end
end Go.Proofs.YtcaaaoehipcloaaGreat

/- The reference's table: new parts in the old ones' place. The great seat's numbers. -/
namespace Go.Proofs.YtcaaaoehipcloaaGreat
open Go.RowKit
section
variable {No : Nat → Prop} {w : World} {RT A P ka va ca : Nat} {cb : Nat → Nat} {G c : Nat} {t : TS} {s : H.St}
/-- The blocks of the old parts. -/
abbrev Od (A P ka va ca : Nat) (cb : Nat → Nat) (t : TS) : Nat → Prop := fun g => g = A ∨ Rp.Own P ka va ca t.p.z t.p.g cb g
/-- Slots of nils in a new block, a new part; both are stored into the struct. -/
theorem RQ.renew (h : RQ No w RT A P ka va ca cb G c t s) {w1 wa wb : World} {A' P' ka' va' ca' n z : Nat} (hb : Below w.heap.size w w1) (hA : w1.heap[A']? = some (.cells (zeros3 n) 34)) (hr : Rn wa wb P' ka' va' ca' z) (hb2 : Below wb.heap.size wb w1) (hwa : w.heap.size ≤ wa.heap.size) (hgA : w.heap.size ≤ A') (hne : A' ≠ P' ∧ A' ≠ ka' ∧ A' ≠ va' ∧ A' ≠ ca') (hn : n ≤ 65536) (hz : Rt z) :
    RQ (fun g => No g ∨ Od A P ka va ca cb t g) ((w1.setCell ⟨RT, 0, none⟩ (.slice (some ⟨A', 0, none⟩) n n)).setCell ⟨RT, 1, none⟩ (.pointer (some ⟨P', 0, none⟩))) RT A' P' ka' va' ca' (fun _ => 0) G c { t with p := fresh n z } s ∧
      Keep (fun g => No g ∨ Od A P ka va ca cb t g) w ((w1.setCell ⟨RT, 0, none⟩ (.slice (some ⟨A', 0, none⟩) n n)).setCell ⟨RT, 1, none⟩ (.pointer (some ⟨P', 0, none⟩))) := by
  have h1 := h.rb.below hb
  have k : Keep (fun g => g ≠ RT) w1 ((w1.setCell ⟨RT, 0, none⟩ (.slice (some ⟨A', 0, none⟩) n n)).setCell ⟨RT, 1, none⟩ (.pointer (some ⟨P', 0, none⟩))) := ((Keep.refl (fun g => g ≠ RT) w1).set (p := ⟨RT, 0, none⟩) (fun q => q rfl) _).set (p := ⟨RT, 1, none⟩) (fun q => q rfl) _
  have hsz : ((w1.setCell ⟨RT, 0, none⟩ (.slice (some ⟨A', 0, none⟩) n n)).setCell ⟨RT, 1, none⟩ (.pointer (some ⟨P', 0, none⟩))).heap.size = w1.heap.size := by simp [World.setCell]
  have c0 : ((w1.setCell ⟨RT, 0, none⟩ (.slice (some ⟨A', 0, none⟩) n n)).setCell ⟨RT, 1, none⟩ (.pointer (some ⟨P', 0, none⟩))).cell? ⟨RT, 0, none⟩ = some (.slice (some ⟨A', 0, none⟩) n n) := by
    rw [cell_ne _ _ _ _ _ (by omega)]; exact World.cell?_setCell_same _ _ _ h1.c0
  have c1 : ((w1.setCell ⟨RT, 0, none⟩ (.slice (some ⟨A', 0, none⟩) n n)).setCell ⟨RT, 1, none⟩ (.pointer (some ⟨P', 0, none⟩))).cell? ⟨RT, 1, none⟩ = some (.pointer (some ⟨P', 0, none⟩)) :=
    World.cell?_setCell_same _ _ _ (by rw [cell_ne _ _ _ _ _ (by omega)]; exact h1.c1)
  have cj : ∀ j, 2 ≤ j → ((w1.setCell ⟨RT, 0, none⟩ (.slice (some ⟨A', 0, none⟩) n n)).setCell ⟨RT, 1, none⟩ (.pointer (some ⟨P', 0, none⟩))).cell? ⟨RT, j, none⟩ = w1.cell? ⟨RT, j, none⟩ := fun j hj => by
    rw [cell_ne _ _ _ _ _ (by omega), cell_ne _ _ _ _ _ (by omega)]
  have fz : ∀ j, ((w1.setCell ⟨RT, 0, none⟩ (.slice (some ⟨A', 0, none⟩) n n)).setCell ⟨RT, 1, none⟩ (.pointer (some ⟨P', 0, none⟩))).frozen? ⟨RT, j, none⟩ = false := fun j => by simpa using h1.fz j
  generalize (w1.setCell ⟨RT, 0, none⟩ (.slice (some ⟨A', 0, none⟩) n n)).setCell ⟨RT, 1, none⟩ (.pointer (some ⟨P', 0, none⟩)) = w2 at *
  have ltA : A' < w1.heap.size := (Array.getElem?_eq_some_iff.1 hA).1
  have ltR := h.rb.ltR
  have eA := k.block A' ltA (by omega)
  have hrs := hr.rs
  have hown : ∀ x, Rp.Own P' ka' va' ca' z (g0 z) (fun _ => 0) x → w.heap.size ≤ x := fun x q => by
    have := hrs.ge x q
    have h2 : ¬ x < wa.heap.size := this
    omega
  have hne2 : ∀ x, Rp.Own P' ka' va' ca' z (g0 z) (fun _ => 0) x → x ≠ A' := fun x q e => by
    rcases q with q | q | q | q | ⟨_, _, q, _⟩
    · exact hne.1 (by rw [← e, q])
    · exact hne.2.1 (by rw [← e, q])
    · exact hne.2.2.1 (by rw [← e, q])
    · exact hne.2.2.2 (by rw [← e, q])
    · exact absurd rfl q
  have hrp1 : Rp w1 P' ka' va' ca' z (g0 z) (fun _ => 0) := hrs.rp.below hb2
  have hrp : Rp w2 P' ka' va' ca' z (g0 z) (fun _ => 0) := hrp1.kept k (fun x q e => by have := hown x q; omega)
  have kw : Keep (fun g => g ≠ RT) w w2 := (Keep.of hb).trans k
  have kO : Keep (fun g => No g ∨ Od A P ka va ca cb t g) w w2 := kw.sub (fun g q e => by
    rcases q with q | q | q
    · exact h.no RT (.inl rfl) (e ▸ q)
    · exact h.rb.nRA (by rw [← e, q])
    · exact h.rb.nR g q e)
  refine ⟨⟨⟨c0, c1, by rw [cj 2 (by omega)]; exact h1.c2, by rw [cj 3 (by omega)]; exact h1.c3, by rw [cj 4 (by omega)]; exact h1.c4, by rw [cj 5 (by omega)]; exact h1.c5, by rw [cj 6 (by omega)]; exact h1.c6, fz, (made_vals hA).block eA, fun j => by rw [World.frozen?_of_block (w := w1) eA]; exact free_of hA j, by rw [hsz]; exact h1.ltR, by rw [hsz]; exact ltA, hrp, by omega, fun x q e => by have := hown x q; omega, hne2⟩, ?_, ?_, TI.fr0 hz hn, h.iv, h.p0, h.p1⟩, kO⟩
  · refine (h.rh.frame2 kw.size (fun g hg hn => kw.block g hg (fun e => hn (.inr (.inl e))))).sub (fun g q => ?_)
    rcases q with (q | q | q) | q | q | q
    · exact .inl (.inl q)
    · exact .inl (.inr (.inr (.inl q)))
    · exact .inl (.inr (.inr (.inr q)))
    · exact .inl (.inr (.inl q))
    · exact .inr ⟨by rw [q]; exact hgA, by rw [q, hsz]; exact ltA⟩
    · exact .inr ⟨hown g q, hrp.own_lt q⟩
  · have hlt : ∀ g, No g ∨ Od A P ka va ca cb t g → g < w.heap.size := fun g q => by
      rcases q with q | q | q
      · exact h.nos g q
      · rw [q]; exact h.rb.ltA
      · exact h.rb.rp.own_lt q
    rintro x (q | q | q) e
    · rw [q] at e
      rcases e with e | e | e
      · exact h.no RT (.inl rfl) e
      · exact h.rb.nRA e
      · exact h.rb.nR RT e rfl
    · have := hlt x e; omega
    · have := hlt x e; have := hown x q; omega
end
end Go.Proofs.YtcaaaoehipcloaaGreat

/- What the reference's rehash asks first: the sizes that fit. The great seat's numbers. -/
namespace Go.Proofs.YtcaaaoehipcloaaGreat
open Go.RowKit

/-- An append at a step of a region that draws its order, by its run. -/
theorem step_run {ops : Array Oper} {o : Oper} {ac : Act} {K : Act → World → Prop} {Q : Exit → Act → World → Prop} {E : Prop} {W W' : World} {v u r : Value} (hgd : o.guard = none) (s y : Operand)
    (ho : o.op = .call { callee := .builtin .append, args := #[s, y], argTypes := #[22, 22] }) (hty : o.type = 22) (hs : ac.eval s = v) (hy : ac.eval y = u) (hr : (Builtin.append_ #[22, 22] 22 #[v, u]).run Tryz.prog W = .ok r W') (h : K (ac.put o.dst r) W') :
    if Region.wanted o (yielded ops ac.tmps) = true then Oper.wp Tryz.prog o ac W K Q else E := by
  have hw : Region.wanted o (yielded ops ac.tmps) = true := by simp [Region.wanted, hgd]
  rw [if_pos hw]
  unfold Oper.wp execOp
  simp only [ho, hty, resolve, invoke, builtin, Sem.run_bind, Sem.run_pure, Result.andThen_ok, List.map_toArray, List.map_cons, List.map_nil, hs, hy, hr]
  exact h

/-- A call of a Go function at a step of a region that draws its order. -/
theorem step_goE {ops : Array Oper} {o : Oper} {ac : Act} {K : Act → World → Prop} {Q : Exit → Act → World → Prop} {E : Prop} {W : World} (hgd : o.guard = none) (f : FuncId) (xs : Array Operand) (ats : Array TypeId)
    (ho : o.op = .call { callee := .value (.func f), args := xs, argTypes := ats }) (args : Array Value) (hx : #[] ++ xs.map ac.eval ++ #[] = args) (eg : ∀ args w, (callFunc f args).run Tryz.prog w = .ok (.enter f args) w)
    {R : Ending → World → Prop} (C : Calls Tryz.prog f args W R) (hK : ∀ e w', R e w' → ∃ v, e = .returned v ∧ K (ac.put o.dst v) w') :
    if Region.wanted o (yielded ops ac.tmps) = true then Oper.wp Tryz.prog o ac W K Q else E := by
  have hw : Region.wanted o (yielded ops ac.tmps) = true := by simp [Region.wanted, hgd]
  rw [if_pos hw]
  obtain ⟨dst, op, ty, pos, after, guard⟩ := o
  simp only at ho
  subst ho
  unfold Oper.wp
  rw [execOp_call_go, hx, eg, Oper.upon_enter]
  refine C.mono fun e w' h => ?_
  obtain ⟨v, rfl, h'⟩ := hK e w' h
  exact h'
theorem enters79 : ∀ args w, (callFunc 59 args).run Tryz.prog w = .ok (.enter 59 args) w := enters_of Tryz.func59 (by kernel_rfl) rfl
theorem enters78 : ∀ args w, (callFunc 58 args).run Tryz.prog w = .ok (.enter 58 args) w := enters_of Tryz.func58 (by kernel_rfl) rfl
/-- Slots copied so far. -/
def cpI (o : Pa) (n z i : Nat) : Pa := ⟨n, fun j => if j < i then o.F j else nil, z, g0 z⟩
theorem cpI_zero (o : Pa) (n z : Nat) : cpI o n z 0 = fresh n z := by simp [cpI, fresh]
theorem cpI_succ (o : Pa) (n z i : Nat) : { cpI o n z i with F := upd (cpI o n z i).F i (o.F i) } = cpI o n z (i + 1) := by
  suffices hF : upd (fun j => if j < i then o.F j else nil) i (o.F i) = fun j => if j < i + 1 then o.F j else nil by
    show Pa.mk n (upd (fun j => if j < i then o.F j else nil) i (o.F i)) z (g0 z) = _
    rw [hF]
    rfl
  funext j
  by_cases e : j = i
  · rw [e, upd_at, if_pos (by omega)]
  · rw [upd_ne _ _ e]
    by_cases q : j < i
    · rw [if_pos q, if_pos (by omega)]
    · rw [if_neg q, if_neg (by omega)]
theorem cpI_end (o : Pa) (n z : Nat) : cpI o n z (min n o.n) = cpy o (fresh n z) := rfl
theorem cpI_ti {o : Pa} (h : TI o) {n z i : Nat} (hn : n ≤ 65536) (hz : Rt z) (hi : i ≤ o.n) : TI (cpI o n z i) := by
  have f := TI.fr0 hz hn
  refine ⟨f.inv, hz, hn, fun j _ => ?_, f.xv, f.out⟩
  show fm (if j < i then o.F j else nil) = true
  split
  · exact h.fv j (by omega)
  · exact fm_nil

theorem rfit_app {w W : World} {B b m : Nat} {v : Value} {F : Nat → V} {p : Pa} {k : V} (hL : Lv W B v m F) (hi : Is F m (pres p)) (hx : Bx W b k) (hB : B ≤ W.heap.size) (hwB : w.heap.size ≤ B) (hb : Below w.heap.size w W) (ha : Ask p k) (hm : m ≤ 190000) :
    ∃ g c w', (Builtin.append_ #[22, 22] 22 #[v, .slice (some ⟨b, 0, none⟩) 1 1]).run Tryz.prog W = .ok (.slice (some ⟨g, 0, none⟩) (m + 1) c) w' ∧
      Calls Tryz.prog 58 #[.slice (some ⟨g, 0, none⟩) (m + 1) c] w' fun e w'' => e = .returned (.tuple #[.int .i64 (C.szA (ints (pres p ++ [k])) (oth (pres p ++ [k]) : Nat)), .int .i64 (C.szH (ints (pres p ++ [k])) (oth (pres p ++ [k]) : Nat)), .int .i64 (rsE p k)]) ∧ Below w.heap.size w w'' := by
  obtain ⟨g, c, w', hr, h1, h2, h3, h4⟩ := hL.app2 k hx (by omega) hB
  refine ⟨g, c, w', hr, (rfit_any h1 (hi.snoc k) ha.ok (by omega)).mono ?_⟩
  rintro e w'' ⟨rfl, hb2⟩
  have b1 : Below w.heap.size W w' := ⟨h2.os, h2.tape, h2.output, h2.size, fun y hy => h2.block y (by omega) (fun e => by have := (hL.own.lt y e.symm).1; omega)⟩
  exact ⟨rfl, bthen (hb.trans b1) (by have := h2.size; have := hb.size; omega) hb2⟩
/-- Three numbers of the struct are stored. -/
theorem RQ.three {No : Nat → Prop} {w : World} {RT A P ka va ca : Nat} {cb : Nat → Nat} {G c : Nat} {t : TS} {s : H.St} (h : RQ No w RT A P ka va ca cb G c t s) (x y z : Int) :
    RQ No (((w.setCell ⟨RT, 2, none⟩ (.int .i64 x)).setCell ⟨RT, 3, none⟩ (.int .i64 y)).setCell ⟨RT, 4, none⟩ (.int .i64 z)) RT A P ka va ca cb G c { p := t.p, sb := x, nb := y, hint := z, pr := t.pr } s ∧ Keep No w (((w.setCell ⟨RT, 2, none⟩ (.int .i64 x)).setCell ⟨RT, 3, none⟩ (.int .i64 y)).setCell ⟨RT, 4, none⟩ (.int .i64 z)) :=
  h.struct ((((Keep.refl (fun g => g ≠ RT) w).set (p := ⟨RT, 2, none⟩) (fun q => q rfl) _).set (p := ⟨RT, 3, none⟩) (fun q => q rfl) _).set (p := ⟨RT, 4, none⟩) (fun q => q rfl) _) (by simp [World.setCell])
    (by rw [cell_ne _ _ _ _ _ (by omega), cell_ne _ _ _ _ _ (by omega), cell_ne _ _ _ _ _ (by omega)]; exact h.rb.c0) (by rw [cell_ne _ _ _ _ _ (by omega), cell_ne _ _ _ _ _ (by omega), cell_ne _ _ _ _ _ (by omega)]; exact h.rb.c1)
    (by rw [cell_ne _ _ _ _ _ (by omega), cell_ne _ _ _ _ _ (by omega)]; exact World.cell?_setCell_same _ _ _ h.rb.c2) (by rw [cell_ne _ _ _ _ _ (by omega)]; exact World.cell?_setCell_same _ _ _ (by rw [cell_ne _ _ _ _ _ (by omega)]; exact h.rb.c3))
    (World.cell?_setCell_same _ _ _ (by rw [cell_ne _ _ _ _ _ (by omega), cell_ne _ _ _ _ _ (by omega)]; exact h.rb.c4)) (by rw [cell_ne _ _ _ _ _ (by omega), cell_ne _ _ _ _ _ (by omega), cell_ne _ _ _ _ _ (by omega)]; exact h.rb.c5) (by rw [cell_ne _ _ _ _ _ (by omega), cell_ne _ _ _ _ _ (by omega), cell_ne _ _ _ _ _ (by omega)]; exact h.rb.c6) (fun j => by simpa using h.rb.fz j) h.p0 h.p1
end Go.Proofs.YtcaaaoehipcloaaGreat
