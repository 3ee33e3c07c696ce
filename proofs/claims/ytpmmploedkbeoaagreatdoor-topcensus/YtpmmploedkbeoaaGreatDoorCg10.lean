/- The walk of sizesWith, on. -/
import Derived.Test.YtpmmploedkbeoaaGreatDoorCg09
import Derived.Laws.CopyOwn
namespace Go.Proofs.YtpmmploedkbeoaaGreatDoor
open Go.RowKit

theorem Cw.start (w : World) (o : Obj) : Cw ((((w.alloc o).alloc (.cells #[.slice none 0 0] 170)).alloc (.cells #[.int .i64 0] 3)).setCell ⟨w.heap.size + 1 + 1, 0, none⟩ (.int .i64 0)) (w.heap.size + 1) [] ∧
    Below w.heap.size w ((((w.alloc o).alloc (.cells #[.slice none 0 0] 170)).alloc (.cells #[.int .i64 0] 3)).setCell ⟨w.heap.size + 1 + 1, 0, none⟩ (.int .i64 0)) ∧
    (((w.alloc o).alloc (.cells #[.slice none 0 0] 170)).alloc (.cells #[.int .i64 0] 3)).cell? ⟨w.heap.size + 1 + 1, 0, none⟩ = some (.int .i64 0) ∧ (((w.alloc o).alloc (.cells #[.slice none 0 0] 170)).alloc (.cells #[.int .i64 0] 3)).frozen? ⟨w.heap.size + 1 + 1, 0, none⟩ = false := by
  have e1 : (w.alloc o).heap.size = w.heap.size + 1 := by simp
  have e2 : ((w.alloc o).alloc (.cells #[.slice none 0 0] 170)).heap.size = w.heap.size + 1 + 1 := by simp
  have h1 := (MapKept.heap_alloc (w.alloc o) (.cells #[.slice none 0 0] 170)).1
  have h2 := (MapKept.heap_alloc ((w.alloc o).alloc (.cells #[.slice none 0 0] 170)) (.cells #[.int .i64 0] 3)).1
  rw [e1] at h1
  rw [e2] at h2
  have h1' : (((w.alloc o).alloc (.cells #[.slice none 0 0] 170)).alloc (.cells #[.int .i64 0] 3)).heap[w.heap.size + 1]? = some (.cells #[.slice none 0 0] 170) := by rw [Below.heap_alloc _ _ _ (by omega)]; exact h1
  have hb : Below w.heap.size w (((w.alloc o).alloc (.cells #[.slice none 0 0] 170)).alloc (.cells #[.int .i64 0] 3)) := bthen (b2 w _ _) (by simp; omega) (b1 _ _)
  have h1'' : ((((w.alloc o).alloc (.cells #[.slice none 0 0] 170)).alloc (.cells #[.int .i64 0] 3)).setCell ⟨w.heap.size + 1 + 1, 0, none⟩ (.int .i64 0)).heap[w.heap.size + 1]? = some (.cells #[.slice none 0 0] 170) := by
    rw [Below.heap_setCell _ _ _ _ (by show w.heap.size + 1 ≠ w.heap.size + 1 + 1; omega)]; exact h1'
  refine ⟨⟨⟨.slice none 0 0, cell_of_row h1'' 0, World.ownsRow_nil _ _ _ _⟩, World.cell?_setCell_same _ _ _ (cell_of_row h2 0), fun j => H.free_row h1'' j, fun j => ?_, by simp [World.setCell]⟩, hb.setCell (by show w.heap.size ≤ w.heap.size + 1 + 1; omega) _, cell_of_row h2 0, H.free_row h2 0⟩
  simpa using H.free_row h2 j

/-- What a round of sizesWith leaves. -/
def Sr (w : World) (N B o A b a : Nat) (p : Pa) (sb nb : Int) (k : V) (l : List V) (W : World) : Prop :=
  Cw W (N + 1) l ∧ Pm W B o A b a p sb nb ∧ Bx W N k ∧ Below N w W ∧ (B < N ∧ A < N ∧ b < N ∧ a < N)
theorem Sr.below {w W W' : World} {N B o A b a : Nat} {p : Pa} {sb nb : Int} {k : V} {l : List V} (h : Sr w N B o A b a p sb nb k l W) (hb : Below W.heap.size W W') : Sr w N B o A b a p sb nb k l W' :=
  ⟨h.1.below hb, h.2.1.below hb, h.2.2.1.below hb, h.2.2.2.1.trans (hb.mono (by have := h.1.lt; omega)), h.2.2.2.2⟩
theorem Sr.step {w W W' : World} {N B o A b a : Nat} {p : Pa} {sb nb : Int} {k : V} {l l' : List V} (h : Sr w N B o A b a p sb nb k l W) (hc : Cw W' (N + 1) l') (hb : Below (N + 1) W W') : Sr w N B o A b a p sb nb k l' W' := by
  obtain ⟨h1, h2, h3, h4, q1, q2, q3, q4⟩ := h
  have kk : Keep (fun g => g < N + 1) W W' := ⟨hb.os, hb.tape, hb.output, hb.size, fun g _ hg => hb.block g hg⟩
  exact ⟨hc, h2.kept kk (by show _ < _; omega) (by show _ < _; omega) (by show _ < _; omega) (by show _ < _; omega), h3.kept kk (by show _ < _; omega), h4.trans (hb.mono (by omega)), q1, q2, q3, q4⟩
/-- A new block for a struct, and its three cells. -/
abbrev st3 (w : World) (g : Nat) (x : V) : World := (((w.alloc (.cells #[.int .i64 0, .int .i64 0, .string ⟨#[]⟩] 37)).setCell ⟨g, 0, none⟩ (.int .i64 x.1)).setCell ⟨g, 1, none⟩ (.int .i64 x.2.1)).setCell ⟨g, 2, none⟩ (.string x.2.2)
theorem st3_bx (w : World) (x : V) : Bx (st3 w w.heap.size x) w.heap.size x ∧ Below w.heap.size w (st3 w w.heap.size x) := by
  have hm := Bx.made w (0, 0, ⟨#[]⟩)
  have ne : ∀ (i j : Nat) (W : World) (v : Value), i ≠ j → (W.setCell ⟨w.heap.size, i, none⟩ v).cell? ⟨w.heap.size, j, none⟩ = W.cell? ⟨w.heap.size, j, none⟩ := fun i j W v hij => World.cell?_setCell_other _ _ _ _ (fun q => by injection q with _ q2; omega)
  refine ⟨⟨?_, ?_, ?_, by simp [World.setCell]⟩, (((b1 w _).setCell (Nat.le_refl _) _).setCell (Nat.le_refl _) _).setCell (Nat.le_refl _) _⟩
  · rw [ne 2 0 _ _ (by omega), ne 1 0 _ _ (by omega)]; exact World.cell?_setCell_same _ _ _ hm.c0
  · rw [ne 2 1 _ _ (by omega)]; exact World.cell?_setCell_same _ _ _ (by rw [ne 0 1 _ _ (by omega)]; exact hm.c1)
  · exact World.cell?_setCell_same _ _ _ (by rw [ne 1 2 _ _ (by omega), ne 0 2 _ _ (by omega)]; exact hm.c2)

set_option maxRecDepth 20000 in
set_option maxHeartbeats 4000000 in
theorem sw_any {B o A b a : Nat} {p : Pa} {sb nb : Int} (k : V) (w : World) (h : Pm w B o A b a p sb nb) (hT : TI p) (hk : ∀ k', k' ∈ pres p ++ [k] → KOK k') :
    Calls Tryz.prog 105 #[.pointer (some ⟨B, o, none⟩), vv k] w fun e w' => e = .returned (.tuple #[.int .i64 (C.szA (ints (pres p ++ [k])) (oth (pres p ++ [k]) : Nat)), .int .i64 (C.szH (ints (pres p ++ [k])) (oth (pres p ++ [k]) : Nat)), .int .i64 (C.szE (ints (pres p ++ [k])) (oth (pres p ++ [k]) : Nat))]) ∧ Below w.heap.size w w' := by
  have hmf : ∀ (fn : Fn) (first cap : Array Value) (w : World), (Instr.makeFunc fn first cap).run Tryz.prog w = .ok (.func fn first cap) w := fun _ _ _ _ => rfl
  have HC : Hid _ := Cw.start w (vb k.1 k.2.1 k.2.2)
  have X0 := (((Bx.made w k).below (b1 _ (.cells #[.slice none 0 0] 170))).below (b1 _ (.cells #[.int .i64 0] 3)))
  obtain ⟨W0, hW0⟩ : ∃ W0, ((w.alloc (vb k.1 k.2.1 k.2.2)).alloc (.cells #[.slice none 0 0] 170)).alloc (.cells #[.int .i64 0] 3) = W0 := ⟨_, rfl⟩
  rw [hW0] at HC X0
  have y1 := HC.out.2.2.1
  have y2 := HC.out.2.2.2
  have X1 := X0.kept ((Keep.refl (fun x => x ≠ w.heap.size + 1 + 1) W0).set (p := ⟨w.heap.size + 1 + 1, 0, none⟩) (fun q => q rfl) (.int .i64 0)) (by show w.heap.size ≠ w.heap.size + 1 + 1; omega)
  have HX : Hid (Bx (W0.setCell ⟨w.heap.size + 1 + 1, 0, none⟩ (.int .i64 0)) w.heap.size k) := X1
  have P1 := h.below HC.out.2.1
  have HL : Hid (∀ g, g < W0.heap.size → True) := fun _ _ => trivial
  obtain ⟨W1, hW1⟩ : ∃ W1, W0.setCell ⟨w.heap.size + 1 + 1, 0, none⟩ (.int .i64 0) = W1 := ⟨_, rfl⟩
  rw [hW1] at HC HX P1
  have HP : Hid (Pm W1 B o A b a p sb nb) := P1
  have c0 := P1.c0
  have c1 := P1.c1
  clear P1 X0 X1 HL
  unfold vb at hW0
  unfold vv vl
  unfold pp at c1
  generalize hsz : w.heap.size = N at *
  have HSZ : Hid (w.heap.size = N) := hsz
  have HS : Hid (Sr w N B o A b a p sb nb k (kA p.F 0) W1) := ⟨HC.out.1, HP.out, HX.out, HC.out.2.1, by have := h.ltB; omega, by have := h.ltA; omega, by have := h.pt.ltb; omega, by have := h.pt.lta; omega⟩
  have hn := hT.le
  have hz := hT.rt.le
  have HN0 : Hid (∀ i, i ≤ p.n → (kA p.F i).length ≤ 65536) := fun i hi => by have := kA_len p.F i; omega
  have e61 := enters61
  clear HC HX HP h
  go_enter Tryz.func105, Tryz.ntmps105
  go_wp2_with fail
  go_loopw [20] (fun iw wr => ∃ i : Nat, iw = .int .i64 (i : Nat) ∧ i ≤ p.n ∧ Hid (Sr w N B o A b a p sb nb k (kA p.F i) wr)) (fun iw _ => p.n - (intOf iw).toNat)
  case atStart => exact ⟨0, rfl, Nat.zero_le _, HS⟩
  case round =>
    obtain ⟨i, rfl, hi, HR⟩ := hrel
    clear HS y1 y2 c0 c1
    by_cases hlt : i < p.n
    · have hlt' : (i : Int) < (p.n : Int) := by omega
      obtain ⟨a0, a1, a2⟩ := HR.out.2.1.sl.at hlt
      have ek : kA p.F (i + 1) = kA p.F i ++ (if (p.F i).1 = 0 then [] else [kn ((i : Int) + 1)]) := rfl
      have hlen := HN0.out i hi
      have HBx := Bx.made wr (p.F i)
      have HR2 : Hid (Sr w N B o A b a p sb nb k (kA p.F i) (wr.alloc (vb (p.F i).1 (p.F i).2.1 (p.F i).2.2))) := HR.out.below (b1 wr (vb (p.F i).1 (p.F i).2.1 (p.F i).2.2))
      obtain ⟨W2, hW2⟩ : ∃ W2, wr.alloc (vb (p.F i).1 (p.F i).2.1 (p.F i).2.2) = W2 := ⟨_, rfl⟩
      rw [hW2] at HBx HR2
      have b0 := HBx.c0
      have hwi : IntKind.i64.wrap ((i : Int) + 1) = (i : Int) + 1 := by rw [IntKind.wrap_i64]; omega
      clear HBx HR
      unfold vb at hW2
      generalize p.F i = x at *
      by_cases hx : x.1 = 0
      · rw [if_pos hx, List.append_nil] at ek
        have HEk : Hid (kA p.F (i + 1) = kA p.F i) := ek
        have hxb : (x.1 != 0) = false := by simp [hx]
        clear ek hx
        go_wp2_with fail
        go_round
        case rel => exact ⟨i + 1, by go_num, by omega, by rw [HEk.out]; exact HR2⟩
        case measure => simp [intOf]; omega
      · have hxb : (x.1 != 0) = true := by simp [hx]
        rw [if_neg hx] at ek
        have HEk : Hid (kA p.F (i + 1) = kA p.F i ++ [kn ((i : Int) + 1)]) := ek
        have CN := number_any ((i : Int) + 1) W2
        unfold vl at CN
        clear ek hx
        go_wp2_with fail
        refine CN.mono ?_; rintro e W3 ⟨rfl, hb3⟩
        have HR3 : Hid (Sr w N B o A b a p sb nb k (kA p.F i) W3) := HR2.out.below hb3
        have CC := count_any (N + 1) W3 (kA p.F i) (kn ((i : Int) + 1)) HR3.out.1 (by omega)
        unfold vv vl at CC
        clear CN hb3 HR2
        go_wp2_with (go_at_fn 146; refine CC.mono ?_; rintro e W4 ⟨rfl, hc4, hb4⟩; have HR4 : Hid (Sr w N B o A b a p sb nb k (kA p.F i ++ [kn ((i : Int) + 1)]) W4) := HR3.out.step hc4 hb4; clear hc4 hb4)
        go_round
        case rel => exact ⟨i + 1, by go_num, by omega, by rw [HEk.out]; exact HR4⟩
        case measure => simp [intOf]; omega
    · obtain rfl : i = p.n := by omega
      have hnlt : ¬ ((p.n : Int) < (p.n : Int)) := by omega
      have c1 := HR.out.2.1.c1
      unfold pp at c1
      have CS := size_any wr HR.out.2.1.pt
      unfold pp at CS
      obtain ⟨W5, hW5⟩ : ∃ W5, W5 = wr := ⟨_, rfl⟩
      rw [← hW5] at HR c1 CS ⊢
      clear hW5
      have HR5 : Hid (Sr w N B o A b a p sb nb k (kA p.F p.n ++ kH p.g 0) W5) := by simp only [kH, List.append_nil]; exact HR
      clear HR
      go_wp2_with fail
      refine CS.mono ?_; rintro e W6 ⟨rfl, rfl⟩
      clear CS
      go_wp2_with fail
      go_loopw [39] (fun iw wr => ∃ i : Nat, iw = .int .i64 (i : Nat) ∧ i ≤ p.z ∧ Hid (Sr w N B o A b a p sb nb k (kA p.F p.n ++ kH p.g i) wr)) (fun iw _ => p.z - (intOf iw).toNat)
      case atStart => exact ⟨0, rfl, Nat.zero_le _, HR5⟩
      case round =>
        obtain ⟨i, rfl, hi2, HR⟩ := hrel
        clear HR5 c1
        have c1 := HR.out.2.1.c1
        unfold pp at c1
        by_cases hlt : i < p.z
        · have hlt' : (i : Int) < (p.z : Int) := by omega
          have CA := at_in i wr HR.out.2.1.pt hlt
          unfold pp at CA
          have ek : kA p.F p.n ++ kH p.g (i + 1) = kA p.F p.n ++ kH p.g i ++ (if (p.g.X i).1 = 0 then [] else [p.g.K i]) := by rw [kH, List.append_assoc]
          have hlen : (kA p.F p.n ++ kH p.g i).length ≤ 131072 := by
            have h1 := kA_len p.F p.n
            have h2 := kH_len p.g i
            rw [List.length_append]; omega
          go_wp2_with fail
          refine CA.mono ?_; rintro e W7 ⟨rfl, hb7⟩
          have HR7 : Hid (Sr w N B o A b a p sb nb k (kA p.F p.n ++ kH p.g i) (W7.alloc (.cells #[.int .i64 (p.g.K i).1, .int .i64 (p.g.K i).2.1, .string (p.g.K i).2.2, .int .i64 (p.g.X i).1, .int .i64 (p.g.X i).2.1, .string (p.g.X i).2.2, .int .i64 (link (pl p.z) p.g i)] 203))) := (HR.out.below hb7).below (b1 _ _)
          clear HR hb7 CA
          generalize link (pl p.z) p.g i = lk at *
          generalize p.g.K i = ky at *
          generalize p.g.X i = x at *
          by_cases hx : x.1 = 0
          · rw [if_pos hx, List.append_nil] at ek
            have HEk : Hid (kA p.F p.n ++ kH p.g (i + 1) = kA p.F p.n ++ kH p.g i) := ek
            have hxb : (x.1 != 0) = false := by simp [hx]
            clear ek hx
            go_wp2_with fail
            go_round
            case rel => exact ⟨i + 1, by go_num, by omega, by rw [HEk.out]; exact HR7⟩
            case measure => simp [intOf]; omega
          · have hxb : (x.1 != 0) = true := by simp [hx]
            rw [if_neg hx] at ek
            have HEk : Hid (kA p.F p.n ++ kH p.g (i + 1) = kA p.F p.n ++ kH p.g i ++ [ky]) := ek
            clear ek hx
            have CC := count_any (N + 1) _ _ ky HR7.out.1 (by omega)
            unfold vv vl at CC
            go_wp2_with (go_at_fn 146; refine CC.mono ?_; rintro e W8 ⟨rfl, hc4, hb4⟩; have HR8 : Hid (Sr w N B o A b a p sb nb k (kA p.F p.n ++ kH p.g i ++ [ky]) W8) := HR7.out.step hc4 hb4; clear hc4 hb4)
            go_round
            case rel => exact ⟨i + 1, by go_num, by omega, by rw [HEk.out]; exact HR8⟩
            case measure => simp [intOf]; omega
        · obtain rfl : i = p.z := by omega
          have hnlt : ¬ ((p.z : Int) < (p.z : Int)) := by omega
          have HRr : Hid (Sr w N B o A b a p sb nb k (pres p) wr) := HR
          have hlen : (pres p).length ≤ 131072 := by
            have h1 := kA_len p.F p.n
            have h2 := kH_len p.g p.z
            unfold pres
            rw [List.length_append]; omega
          have b0 := HR.out.2.2.1.c0
          have b1' := HR.out.2.2.1.c1
          have b2' := HR.out.2.2.1.c2
          have CC := count_any (N + 1) _ _ k HRr.out.1 (by omega)
          unfold vv vl at CC
          clear HR
          have HF : Hid (C.Fit (ints (pres p ++ [k]))) := ints_fit hk
          have HLn : Hid ((ints (pres p ++ [k])).length ≤ 200000) := by
            show _ ≤ _
            have h1 := ints_len (pres p ++ [k])
            rw [List.length_append] at h1
            simp only [List.length_singleton] at h1
            omega
          generalize hpl : pres p ++ [k] = pl at *
          have HPL : Hid (pres p ++ [k] = pl) := hpl
          clear hpl hk hlen
          go_wp2_with (first
            | (go_at_fn 146
               refine CC.mono ?_
               rintro e W9 ⟨rfl, hc9, hb9⟩
               have HR9 : Hid (Sr w N B o A b a p sb nb k pl W9) := HRr.out.step hc9 hb9
               obtain ⟨vi, y1, y2⟩ := hc9.ci
               have y3 := hc9.co
               have CZ := C.sizes_any _ (oth pl : Nat) vi W9 (C.ints_own y2) HF.out (by have := HLn.out; omega)
               clear hc9 hb9 y2)
            | (go_at_call 148
               refine CZ.mono ?_
               rintro e W10 ⟨rfl, hb10⟩
               have HR10 : Hid (Below N w W10) := HR9.out.2.2.2.1.trans (hb10.mono (by have := HR9.out.1.lt; omega))
               clear hb10))
          refine bodyPost_ret (v := .tuple #[.int .i64 (C.szA (ints pl) (oth pl : Nat)), .int .i64 (C.szH (ints pl) (oth pl : Nat)), .int .i64 (C.szE (ints pl) (oth pl : Nat))]) (by simp [results, Tryz.results105, go_sem]) rfl ⟨by rw [HPL.out], HR10.out⟩
end Go.Proofs.YtpmmploedkbeoaaGreatDoor

/- The walk of fill: the slots are copied, then what is present is set. -/
namespace Go.Proofs.YtpmmploedkbeoaaGreatDoor
open Go.RowKit

theorem run_copy3 {P : Program} (w : World) (dT sT ty elem : TypeId) (g dLen dCap : Nat) (a : Addr) (sLen sCap : Nat) (cur : Array Value) (t : TypeId) (cs : List Value)
    (hu : P.underlying dT = some (.slice elem)) (hs : (P.info? elem).map (·.size) = some 3)
    (hg : w.heap[g]? = some (.cells cur t (0, 0))) (hn : cs.length = Nat.min sLen dLen * 3)
    (hsrc : ∀ j v, cs[j]? = some v → w.cell? (a.add j) = some v) (hfit : cs.length ≤ cur.size) (h1 : ∀ v ∈ cs, v.oneCell' = true) :
    (Builtin.copy_ #[dT, sT] ty #[.slice (some ⟨g, 0, none⟩) dLen dCap, .slice (some a) sLen sCap]).run P w = .ok (goInt (Nat.min sLen dLen : Nat)) (w.setRow g (cs ++ cur.toList.drop cs.length).toArray) := by
  have hl := run_loadCells_list (P := P) w a cs hsrc
  have hst := run_storeCells_at P g 0 t cs 0 cur w hg (by simpa using hfit) h1
  simp only [Nat.add_zero, Nat.zero_add, List.take_zero, List.nil_append] at hst
  cases hq : P.info? elem with
  | none => simp [hq] at hs
  | some i =>
    have hi : i.size = 3 := by simpa [hq] using hs
    rw [hn] at hl
    simp [Builtin.copy_, run_underlying hu, Builtin.lenOf, Builtin.firstCells, sizeOf, typeInfo, hq, hi, hl, hst]

/-- The slots of a new row behind the copy of an old one. -/
theorem copy_vals {w : World} {Ab Ao n m : Nat} {F : Nat → V} (ty : TypeId) (hA : w.heap[Ab]? = some (.cells (zeros3 n) 37)) (hF : Rv w Ao m F) :
    ∃ w', (Builtin.copy_ #[30, 30] ty #[.slice (some ⟨Ab, 0, none⟩) n n, .slice (some ⟨Ao, 0, none⟩) m m]).run Tryz.prog w = .ok (.int .i64 ((min n m : Nat) : Int)) w' ∧
      Rv w' Ab n (fun i => if i < min n m then F i else nil) ∧ (∀ j, w'.frozen? ⟨Ab, j, none⟩ = false) ∧ Keep (fun x => x ≠ Ab) w w' := by
  have hlen : (cellsV F (min n m)).length = Nat.min m n * 3 := by rw [cellsV_len]; show _ = min m n * 3; rw [Nat.min_comm]
  have hsz : (zeros3 n).size = n * 3 := by simp [zeros3, madeCells]
  have hr := run_copy3 (P := Tryz.prog) w 30 30 ty 37 Ab n n ⟨Ao, 0, none⟩ m m (zeros3 n) 37 (cellsV F (min n m)) Tryz.underlying30 (by kernel_rfl) hA hlen (fun j v hj => ?_) (by rw [cellsV_len, hsz]; have := Nat.min_le_left n m; omega) (cellsV_one F _)
  · rw [show Nat.min m n = min n m from Nat.min_comm _ _] at hr
    refine ⟨w.setRow Ab (cellsV F (min n m) ++ (zeros3 n).toList.drop (cellsV F (min n m)).length).toArray, hr, ⟨fun i hi j hj => ?_⟩, fun j => ?_, ⟨rfl, rfl, rfl, by simp [World.setRow], fun g _ hg => setRow_other _ _ _ _ hg⟩⟩
    · rw [cell_of_row (setRow_heap w Ab _ _ _ _ hA)]
      simp only [List.getElem?_toArray]
      by_cases q : i < min n m
      · rw [if_pos q, List.getElem?_append_left (by rw [cellsV_len]; omega), cellsV_at _ _ _ (by omega)]
        rw [show (i * 3 + j) / 3 = i by omega, show (i * 3 + j) % 3 = j by omega]
      · rw [if_neg q, List.getElem?_append_right (by rw [cellsV_len]; omega), List.getElem?_drop, cellsV_len]
        have e : min n m * 3 + (i * 3 + j - min n m * 3) = i * 3 + j := by omega
        rw [e]
        have h0 := (zeros_rv hA).c i hi j hj
        rw [cell_of_row hA] at h0
        simpa using h0
    · exact H.free_row (setRow_heap w Ab _ _ _ _ hA) j
  · have hj2 : j < min n m * 3 := by have := (List.getElem?_eq_some_iff.1 hj).1; rwa [cellsV_len] at this
    rw [cellsV_at _ _ _ hj2] at hj
    injection hj with hj
    have hadd : (⟨Ao, 0, none⟩ : Addr).add j = ⟨Ao, j, none⟩ := by unfold Addr.add; split <;> simp_all
    rw [hadd, ← hj]
    have := hF.c (j / 3) (by have := Nat.min_le_right n m; omega) (j % 3) (by omega)
    rwa [show j / 3 * 3 + j % 3 = j by omega] at this
theorem wp_copy_run {P : Program} (w : World) {o : Oper} {a : Act} {K : Act → World → Prop} {Q : Exit → Act → World → Prop} (d s : Operand) (t t' : TypeId)
    (ho : o.op = .call { callee := .builtin .copy, args := #[d, s], argTypes := #[t, t'] }) (v u : Value) (hd : a.eval d = v) (hs : a.eval s = u) {v' : Value} {w' : World}
    (hr : (Builtin.copy_ #[t, t'] o.type #[v, u]).run P w = .ok v' w') (h : K (a.put o.dst v') w') : o.wp P a w K Q := by
  unfold Oper.wp execOp
  simp only [ho, resolve, invoke, builtin, Sem.run_bind, Sem.run_pure, Result.andThen_ok, List.map_toArray, List.map_cons, List.map_nil, hd, hs, hr]
  exact h
theorem wpList_copy_run {P : Program} (w : World) {ops : Array Oper} {rest : List Oper} {o : Oper} {a : Act} {Q : Exit → Act → World → Prop} (hgd : o.guard = none) (d s : Operand) (t t' : TypeId)
    (ho : o.op = .call { callee := .builtin .copy, args := #[d, s], argTypes := #[t, t'] }) (v u : Value) (hd : a.eval d = v) (hs : a.eval s = u) {v' : Value} {w' : World}
    (hr : (Builtin.copy_ #[t, t'] o.type #[v, u]).run P w = .ok v' w') (h : wpList P ops Q rest (a.put o.dst v') w') : wpList P ops Q (o :: rest) a w :=
  wpList_plain hgd fun _ hK => wp_copy_run w d s t t' ho v u hd hs hr (hK _ _ h)
end Go.Proofs.YtpmmploedkbeoaaGreatDoor
