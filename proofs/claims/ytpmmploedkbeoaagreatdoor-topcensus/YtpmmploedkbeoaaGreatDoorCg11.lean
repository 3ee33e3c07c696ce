/- The walk of fill, on. -/
import Derived.Test.YtpmmploedkbeoaaGreatDoorCg10
namespace Go.Proofs.YtpmmploedkbeoaaGreatDoor
open Go.RowKit

/-- New parts that are being filled beside the old ones. -/
structure Fw (w wr : World) (Fb Ab bn an T o Ao bo ao : Nat) (q p : Pa) (x y sb nb : Int) : Prop where
  new : Pm wr Fb 0 Ab bn an q x y
  old : Pm wr T o Ao bo ao p sb nb
  keep : Keep (fun g => g ≠ Ab ∧ g ≠ an ∧ g ≠ bn) w wr
  ti : TI q
  dT : T ≠ Ab ∧ T ≠ an ∧ T ≠ bn
  dA : Ao ≠ Ab ∧ Ao ≠ an ∧ Ao ≠ bn
  db : bo ≠ Ab ∧ bo ≠ an ∧ bo ≠ bn
  da : ao ≠ Ab ∧ ao ≠ an ∧ ao ≠ bn
theorem Fw.below {w wr w' : World} {Fb Ab bn an T o Ao bo ao : Nat} {q p : Pa} {x y sb nb : Int} (h : Fw w wr Fb Ab bn an T o Ao bo ao q p x y sb nb) (hb : Below wr.heap.size wr w') : Fw w w' Fb Ab bn an T o Ao bo ao q p x y sb nb :=
  ⟨h.new.below hb, h.old.below hb, h.keep.bel hb, h.ti, h.dT, h.dA, h.db, h.da⟩
theorem Fw.step {w wr w' : World} {Fb Ab bn an T o Ao bo ao : Nat} {q q' p : Pa} {x y sb nb : Int} (h : Fw w wr Fb Ab bn an T o Ao bo ao q p x y sb nb) (hp : Pm w' Fb 0 Ab bn an q' x y) (hk : Keep (fun g => g ≠ Ab ∧ g ≠ an ∧ g ≠ bn) wr w') (ht : TI q') : Fw w w' Fb Ab bn an T o Ao bo ao q' p x y sb nb :=
  ⟨hp, h.old.kept hk h.dT h.dA h.db h.da, h.keep.trans hk, ht, h.dT, h.dA, h.db, h.da⟩
theorem Fw.copied {w0 w w' : World} {Fb Ab bn an T o Ao bo ao : Nat} {p : Pa} {n z : Nat} {x y sb nb : Int} (h : Fw w0 w Fb Ab bn an T o Ao bo ao (fresh n z) p x y sb nb) (hp : TI p)
    (hr : Rv w' Ab n (fun i => if i < min n p.n then p.F i else nil)) (hf : ∀ j, w'.frozen? ⟨Ab, j, none⟩ = false) (hk : Keep (fun g => g ≠ Ab) w w') : Fw w0 w' Fb Ab bn an T o Ao bo ao (cpy p (fresh n z)) p x y sb nb := by
  have hN := h.new
  have eB := hk.block Fb hN.ltB (fun e => hN.nAB e.symm)
  refine h.step ⟨by rw [World.cell?_of_block (w := w) eB]; exact hN.c0, by rw [World.cell?_of_block (w := w) eB]; exact hN.c1, by rw [World.cell?_of_block (w := w) eB]; exact hN.c2, by rw [World.cell?_of_block (w := w) eB]; exact hN.c3,
    hr, hf, Nat.lt_of_lt_of_le hN.ltA hk.size, Nat.lt_of_lt_of_le hN.ltB hk.size, hN.pt.kept hk (fun e => hN.nAb e.symm) (fun e => hN.nAa e.symm), hN.nAB, hN.nAb, hN.nAa, hN.nBb, hN.nBa⟩ (hk.sub fun g q => q.1) (hp.cp0 h.ti.le h.ti.rt)
theorem stp_nz (p : Pa) (k v : V) : (stp p k v).n = p.n ∧ (stp p k v).z = p.z := by unfold stp; split; exact ⟨rfl, rfl⟩; exact pset_nz p k v

set_option maxRecDepth 20000 in
set_option maxHeartbeats 4000000 in
theorem fill_any {Fb Ab bn an T o Ao bo ao : Nat} {p : Pa} {n z : Nat} {x y sb nb : Int} (w : World) (h : Fw w w Fb Ab bn an T o Ao bo ao (fresh n z) p x y sb nb) (hobj : w.heap[Ab]? = some (.cells (zeros3 n) 37)) (hT : TI p) :
    Calls Tryz.prog 106 #[.pointer (some ⟨Fb, 0, none⟩), .pointer (some ⟨T, o, none⟩)] w fun e w' => e = .returned (.tuple #[]) ∧ Fw w w' Fb Ab bn an T o Ao bo ao (fill p (fresh n z)) p x y sb nb := by
  have h' := h.below (bdrew1 w)
  obtain ⟨W1, hr, hrv, hf, hk⟩ := copy_vals (w := w.drew) 3 hobj h'.old.sl
  have HF : Hid (Fw w W1 Fb Ab bn an T o Ao bo ao (cpy p (fresh n z)) p x y sb nb) := h'.copied hT hrv hf hk
  have c0 : w.cell? ⟨Fb, 0, none⟩ = some (.slice (some ⟨Ab, 0, none⟩) n n) := h.new.c0
  have c1 := h.old.c0
  have HTp : Hid (TI p) := hT
  have hpn := hT.le
  have hpz := hT.rt.le
  clear h hobj hT hrv hf hk h'
  obtain ⟨s, hs⟩ : ∃ s, min n p.n = s := ⟨_, rfl⟩
  have hsp : s ≤ p.n := by omega
  rw [hs] at hr
  have HE : Hid (fill p (fresh n z) = flH p (flA p s (cpy p (fresh n z)) (p.n - s)) p.z) := by show _ = _; unfold fill; show flH p (flA p (min n p.n) _ (p.n - min n p.n)) p.z = _; rw [hs]
  clear hs
  generalize hq0 : cpy p (fresh n z) = q0 at *
  clear hq0
  have HF0 : Hid (Fw w W1 Fb Ab bn an T o Ao bo ao (flA p s q0 0) p x y sb nb) := HF
  clear HF
  go_enter Tryz.func106, Tryz.ntmps106
  go_wp2_with fail
  refine wp_tail 8 (by kernel_rfl) (by kernel_rfl) ?_
  simp only [List.take_succ_cons, List.take_zero, List.drop_succ_cons, List.drop_zero]
  repeat still_step
  refine wpStill_nil ?_
  go_wp2_with (at_builtin; refine wpList_copy_run _ rfl _ _ 30 30 rfl _ _ rfl rfl hr ?_)
  clear hr c0 c1
  have HCN : Hid (∀ (m : Int) (xv : V) (W2 : World) (N2 : Nat) (q : Pa), Fw w W2 Fb Ab bn an T o Ao bo ao q p x y sb nb → Bx W2 N2 xv → ∀ W, Below W2.heap.size W2 W → Calls Tryz.prog 147 #[.int .i64 m] W fun e w' => e = .returned (.agg #[.int .i64 2, .int .i64 m, .string ⟨#[]⟩]) ∧ Bx w' N2 xv ∧ Fw w w' Fb Ab bn an T o Ao bo ao q p x y sb nb) := fun m xv W2 N2 q hF hB W hW =>
    (number_any m W).mono fun e w' hh => ⟨hh.1, (hB.below hW).below hh.2, (hF.below hW).below hh.2⟩
  have HCS : Hid (∀ (k v : V) (W : World) (q : Pa), Fw w W Fb Ab bn an T o Ao bo ao q p x y sb nb → Rng k → fm v = true → Calls Tryz.prog 68 #[.pointer (some ⟨Fb, 0, none⟩), .agg #[.int .i64 k.1, .int .i64 k.2.1, .string k.2.2], .agg #[.int .i64 v.1, .int .i64 v.2.1, .string v.2.2]] W fun e w' => e = .returned (.tuple #[.int .i64 ((pset q k v).2.1 : Nat), .int .i64 (pset q k v).2.2]) ∧ Fw w w' Fb Ab bn an T o Ao bo ao (pset q k v).1 p x y sb nb) := fun k v W q hF hr hv =>
    (set_any k v W hF.new hF.ti.inv hF.ti.rt hr hF.ti.le).mono fun e w' hh => ⟨hh.1, hF.step hh.2.1 hh.2.2 (hF.ti.set hr hv)⟩
  go_loopw [5] (fun iw wr => ∃ m : Nat, iw = .int .i64 ((s + m : Nat) : Int) ∧ s + m ≤ p.n ∧ Hid (Fw w wr Fb Ab bn an T o Ao bo ao (flA p s q0 m) p x y sb nb)) (fun iw _ => p.n - (intOf iw).toNat)
  case atStart => exact ⟨0, rfl, by omega, HF0⟩
  case round =>
    obtain ⟨m, rfl, hm, HR⟩ := hrel
    clear HF0
    have c1 := HR.out.old.c0
    by_cases hlt : s + m < p.n
    · obtain ⟨i, hi⟩ : ∃ i, s + m = i := ⟨_, rfl⟩
      have ek : flA p s q0 (m + 1) = stp (flA p s q0 m) (kn ((i : Int) + 1)) (p.F i) := by rw [flA, hi]
      have HI : Hid (s + m = i) := hi
      rw [hi] at hlt hm ⊢
      clear hi
      generalize flA p s q0 m = q at *
      have hlt' : (i : Int) < (p.n : Int) := by omega
      have hi0 : ¬ ((i : Int) < 0) := by omega
      obtain ⟨a0, a1, a2⟩ := HR.out.old.sl.at hlt
      have HBx : Hid (Bx (wr.alloc (vb (p.F i).1 (p.F i).2.1 (p.F i).2.2)) wr.heap.size (p.F i)) := Bx.made wr (p.F i)
      have HR2 : Hid (Fw w (wr.alloc (vb (p.F i).1 (p.F i).2.1 (p.F i).2.2)) Fb Ab bn an T o Ao bo ao q p x y sb nb) := HR.out.below (b1 wr (vb (p.F i).1 (p.F i).2.1 (p.F i).2.2))
      have HV : Hid (fm (p.F i) = true) := HTp.out.fv i hlt
      obtain ⟨W2, hW2⟩ : ∃ W2, wr.alloc (vb (p.F i).1 (p.F i).2.1 (p.F i).2.2) = W2 := ⟨_, rfl⟩
      rw [hW2] at HBx HR2
      have b0 := HBx.out.c0
      have b1 := HBx.out.c1
      have b2 := HBx.out.c2
      have hwi : IntKind.i64.wrap ((i : Int) + 1) = (i : Int) + 1 := by rw [IntKind.wrap_i64]; omega
      clear HR
      unfold vb at hW2
      generalize p.F i = xv at *
      by_cases hx : xv.1 = 0
      · rw [stp, if_pos hx] at ek
        have HEk : Hid (flA p s q0 (m + 1) = q) := ek
        have hxb : (xv.1 != 0) = false := by simp [hx]
        clear ek hx
        go_wp2_with fail
        go_round
        case rel => exact ⟨m + 1, by rw [← Nat.add_assoc, HI.out]; go_num, by have := HI.out; omega, by rw [HEk.out]; exact HR2⟩
        case measure => simp [intOf]; omega
      · have hxb : (xv.1 != 0) = true := by simp [hx]
        rw [stp, if_neg hx] at ek
        have HEk : Hid (flA p s q0 (m + 1) = (pset q (kn ((i : Int) + 1)) xv).1) := ek
        have CN := HCN.out ((i : Int) + 1) xv W2 wr.heap.size q HR2.out HBx.out
        have CS := fun W hF => HCS.out (kn ((i : Int) + 1)) xv W q hF (by constructor <;> simp <;> omega) HV.out
        clear ek hx HV
        go_wp2_with fail
        go_region_with (first
          | (go_at_call 147; refine (CN _ (by exact ⟨rfl, rfl, rfl, Nat.le_refl _, fun _ _ => rfl⟩)).mono ?_; rintro e W3 ⟨rfl, x3, f3⟩; have y0 := x3.c0; have y1 := x3.c1; have y2 := x3.c2; have CS3 := CS W3 f3; clear x3 f3)
          | (go_at_call 68; refine CS3.mono ?_; rintro e W4 ⟨rfl, f4⟩; have HF4 : Hid (Fw w W4 Fb Ab bn an T o Ao bo ao (pset q (kn ((i : Int) + 1)) xv).1 p x y sb nb) := f4; clear f4))
        all_goals (
          go_wp2_with fail
          go_round
          (case rel => exact ⟨m + 1, by rw [← Nat.add_assoc, HI.out]; go_num, by have := HI.out; omega, by rw [HEk.out]; exact HF4⟩)
          (case measure => simp [intOf]; omega))
    · obtain rfl : m = p.n - s := by omega
      have e1 : s + (p.n - s) = p.n := by omega
      rw [e1]
      have hnlt : ¬ ((p.n : Int) < (p.n : Int)) := by omega
      obtain ⟨q1, hq1⟩ : ∃ q1, flA p s q0 (p.n - s) = q1 := ⟨_, rfl⟩
      rw [hq1] at HR HE
      clear hq1
      have c2 := HR.out.old.c1
      have CZ := size_any wr HR.out.old.pt
      unfold pp at c2 CZ
      have HR1 : Hid (Fw w wr Fb Ab bn an T o Ao bo ao (flH p q1 0) p x y sb nb) := HR
      obtain ⟨W5, hW5⟩ : ∃ W5, W5 = wr := ⟨_, rfl⟩
      rw [← hW5] at HR1 c1 c2 CZ ⊢
      clear hW5 HR HCN
      have hwz : IntKind.i64.wrap ((p.z : Int) - 1) = (p.z : Int) - 1 := by rw [IntKind.wrap_i64]; omega
      go_wp2_with fail
      refine CZ.mono ?_; rintro e W6 ⟨rfl, rfl⟩
      clear CZ
      go_wp2_with fail
      go_loopw [7] (fun iw wr => ∃ m : Nat, iw = .int .i64 ((p.z : Int) - 1 - m) ∧ m ≤ p.z ∧ Hid (Fw w wr Fb Ab bn an T o Ao bo ao (flH p q1 m) p x y sb nb)) (fun iw _ => (intOf iw + 1).toNat)
      case atStart => exact ⟨0, by go_num, by omega, HR1⟩
      case round =>
        obtain ⟨m, rfl, hm, HR⟩ := hrel
        clear HR1 c1 c2
        have c2 := HR.out.old.c1
        unfold pp at c2
        by_cases hlt : m < p.z
        · obtain ⟨i, hi⟩ : ∃ i, p.z - 1 - m = i := ⟨_, rfl⟩
          have hiz : i < p.z := by omega
          have ei : (p.z : Int) - 1 - m = (i : Int) := by omega
          have ek : flH p q1 (m + 1) = stp (flH p q1 m) (p.g.K i) (p.g.X i) := by rw [flH, hi]
          rw [ei]
          have HI : Hid (p.z - 1 - m = i) := hi
          clear hi ei
          generalize flH p q1 m = q at *
          have hi0 : ¬ ((i : Int) < 0) := by omega
          have hi1 : (0 : Int) ≤ (i : Int) := by omega
          have CA := at_in i wr HR.out.old.pt hiz
          unfold pp at CA
          have hwi : IntKind.i64.wrap ((i : Int) - 1) = (i : Int) - 1 := by rw [IntKind.wrap_i64]; omega
          go_wp2_with fail
          refine CA.mono ?_; rintro e W7 ⟨rfl, hb7⟩
          have HR7 : Hid (Fw w (W7.alloc (.cells #[.int .i64 (p.g.K i).1, .int .i64 (p.g.K i).2.1, .string (p.g.K i).2.2, .int .i64 (p.g.X i).1, .int .i64 (p.g.X i).2.1, .string (p.g.X i).2.2, .int .i64 (link (pl p.z) p.g i)] 203)) Fb Ab bn an T o Ao bo ao q p x y sb nb) := (HR.out.below hb7).below (b1 _ _)
          have HV : Hid (fm (p.g.X i) = true) := HTp.out.xv i hiz
          have HKy : Hid ((p.g.X i).1 ≠ 0 → Rng (p.g.K i)) := fun hx => by have := (HTp.out.live hiz hx).2; exact ⟨this.2.2.1, this.2.2.2⟩
          clear HR hb7 CA
          generalize link (pl p.z) p.g i = lk at *
          generalize p.g.K i = ky at *
          generalize p.g.X i = xv at *
          by_cases hx : xv.1 = 0
          · rw [stp, if_pos hx] at ek
            have HEk : Hid (flH p q1 (m + 1) = q) := ek
            have hxb : (xv.1 != 0) = false := by simp [hx]
            clear ek hx
            go_wp2_with fail
            go_round
            case rel => exact ⟨m + 1, by have := HI.out; go_num, by omega, by rw [HEk.out]; exact HR7⟩
            case measure => simp [intOf]
          · have hxb : (xv.1 != 0) = true := by simp [hx]
            rw [stp, if_neg hx] at ek
            have HEk : Hid (flH p q1 (m + 1) = (pset q ky xv).1) := ek
            have CS := HCS.out ky xv _ q HR7.out (HKy.out hx) HV.out
            clear ek hx HV
            go_wp2_with fail
            refine CS.mono ?_; rintro e W8 ⟨rfl, f8⟩
            have HF8 : Hid (Fw w W8 Fb Ab bn an T o Ao bo ao (pset q ky xv).1 p x y sb nb) := f8
            clear CS f8 HR7
            go_wp2_with fail
            go_round
            case rel => exact ⟨m + 1, by have := HI.out; go_num, by omega, by rw [HEk.out]; exact HF8⟩
            case measure => simp [intOf]
        · obtain rfl : m = p.z := by omega
          have e2 : (p.z : Int) - 1 - (p.z : Int) = -1 := by omega
          rw [e2]
          clear e2
          go_wp2_with fail
          go_end0
          exact ⟨rfl, by rw [HE.out]; exact HR.out⟩
end Go.Proofs.YtpmmploedkbeoaaGreatDoor

/- A table of the program's in memory, its heap beside it; the walk of giveBack. -/
namespace Go.Proofs.YtpmmploedkbeoaaGreatDoor
open Go.RowKit

/-- No search reads more nodes than there are. -/
theorem len_le {z : Nat} {l : List Nat} (hn : l.Nodup) (hl : ∀ x, x ∈ l → x < z) : l.length ≤ z := by
  have h := (sum_pos hn hl).2
  rw [← h]
  have h1 : sumTo z (fun j => if j ∈ l then 1 else 0) ≤ sumTo z (fun _ => 1) := sumTo_le fun j _ => by split <;> omega
  have h2 : ∀ n, sumTo n (fun _ => 1) = n := fun n => by
    induction n with
    | zero => rfl
    | succ n ih => rw [sumTo, ih]
  rw [h2] at h1
  exact h1
theorem Inv.suf_len {z : Nat} {pl : V → Nat} {ok : V → Prop} {g : G} (h : Inv z pl ok g) (hpl : ∀ k, ok k → pl k < z) {m : Nat} (hm : m < z) : (suf pl g m).length ≤ z := by
  refine len_le ?_ (h.suf_lt hpl hm)
  unfold suf
  by_cases e : g.K m = nil
  · rw [if_pos e]; simp
  · rw [if_neg e]
    obtain ⟨p, q, hc, hp⟩ := mem_split (h.inC m hm e)
    have ho : pl (g.K m) < z := hpl _ ((h.key m hm).resolve_left e)
    have hn := h.nd _ ho
    rw [hc, List.nodup_append] at hn
    rw [hc, from_split hp]
    exact hn.2.1
theorem find_le {z : Nat} {g : G} {k : V} (h : Inv z (pl z) KOK g) (hz : pw z = true) : (find (pl z) g k).2 ≤ z := by
  have hs := h.suf_len (fun k _ => pl_lt hz k) (pl_lt hz k)
  unfold find
  cases hf : scan g.K k (suf (pl z) g (pl z k)) 0 with
  | mk o n =>
    cases o with
    | none => have := (scan_none hf).2; simp only; omega
    | some i => have := (scan_some hf).2.2.2; simp only; omega
theorem fnd_le {z : Nat} {g : G} {k : V} (h : Inv z (pl z) KOK g) (hz : Rt z) : (fnd z g k).2 ≤ z := by
  unfold fnd
  split
  · simp
  · rename_i q
    have : z ≠ 0 := fun e => q (.inl e)
    exact find_le h (hz.resolve_left this)
theorem put_rd {z : Nat} {g : G} {k v : V} (h : Inv z (pl z) KOK g) (hz : Rt z) : (put z g k v).2.1 ≤ z := by
  by_cases hf : fm k = true ∧ fm v = true
  · by_cases hk : k.1 = 0
    · rw [put, if_pos hf, if_pos hk]; simp
    · by_cases hz0 : z = 0
      · rw [put, if_pos hf, if_neg hk, if_pos hz0]; simp
      · have e : (put z g k v).2.1 = (find (pl z) g k).2 := by
          rw [put, if_pos hf, if_neg hk, if_neg hz0]
          cases hq : find (pl z) g k with
          | mk o n =>
            cases o with
            | none => simp only; split <;> rfl
            | some i => rfl
        rw [e]
        exact find_le h (hz.resolve_left hz0)
  · rw [put, if_neg hf]; simp
theorem pset_rd {p : Pa} (h : TI p) (k v : V) : (pset p k v).2.1 ≤ 65536 := by
  have := h.rt.le
  unfold pset
  split
  · simp
  · have := put_rd (k := k) (v := v) h.inv h.rt; simp only; omega
theorem prd_le {p : Pa} (h : TI p) (k : V) : prd p k ≤ 65536 := by
  have := h.rt.le
  unfold prd
  split
  · simp
  · have := fnd_le (k := k) h.inv h.rt; omega

/-- The table's own blocks. -/
structure Tm (w : World) (T A b a S : Nat) (t : TS) : Prop where
  pm : Pm w T 1 A b a t.p t.sb t.nb
  c0 : w.cell? ⟨T, 0, none⟩ = some (.pointer (some ⟨S, 0, none⟩))
  c5 : w.cell? ⟨T, 5, none⟩ = some (.int .i64 t.hint)
  c6 : w.cell? ⟨T, 6, none⟩ = some (.int .i64 t.pr)
  fz : ∀ j, w.frozen? ⟨T, j, none⟩ = false
theorem Tm.kept {No : Nat → Prop} {w w' : World} {T A b a S : Nat} {t : TS} (h : Tm w T A b a S t) (k : Keep No w w') (hT : No T) (hA : No A) (hb : No b) (ha : No a) : Tm w' T A b a S t := by
  have e := k.block T h.pm.ltB hT
  exact ⟨h.pm.kept k hT hA hb ha, by rw [World.cell?_of_block (w := w) e]; exact h.c0, by rw [World.cell?_of_block (w := w) e]; exact h.c5, by rw [World.cell?_of_block (w := w) e]; exact h.c6, fun j => by rw [World.frozen?_of_block (w := w) e]; exact h.fz j⟩
theorem Tm.below {w w' : World} {T A b a S : Nat} {t : TS} (h : Tm w T A b a S t) (k : Below w.heap.size w w') : Tm w' T A b a S t := h.kept (No := fun _ => True) (Keep.of k) trivial trivial trivial trivial

abbrev Nx (No : Nat → Prop) (T A b a : Nat) : Nat → Prop := fun g => No g ∨ g = T ∨ g = A ∨ g = b ∨ g = a
/-- A table and its heap; No: blocks of others. -/
structure TT (No : Nat → Prop) (w : World) (T A b a S hb c : Nat) (t : TS) (s : H.St) : Prop where
  tm : Tm w T A b a S t
  hp : ∃ vb, H.Hp (Nx No T A b a) w S hb c vb s
  nT : ¬ No T
  nA : ¬ No A
  nb : ¬ No b
  na : ¬ No a
  ti : TI t.p
  iv : H.Inv 0 s
  p0 : 0 ≤ t.pr
  p1 : t.pr ≤ (c : Int) * 65536
theorem TT.below {No : Nat → Prop} {w w' : World} {T A b a S hb c : Nat} {t : TS} {s : H.St} (h : TT No w T A b a S hb c t s) (k : Below w.heap.size w w') : TT No w' T A b a S hb c t s := by
  obtain ⟨vb, hp⟩ := h.hp
  exact ⟨h.tm.below k, ⟨vb, hp.below k⟩, h.nT, h.nA, h.nb, h.na, h.ti, h.iv, h.p0, h.p1⟩
theorem TT.more {No : Nat → Prop} {w : World} {T A b a S hb c c' : Nat} {t : TS} {s : H.St} (h : TT No w T A b a S hb c t s) (hc : c ≤ c') : TT No w T A b a S hb c' t s := by
  obtain ⟨vb, hp⟩ := h.hp
  exact ⟨h.tm, ⟨vb, hp.more hc⟩, h.nT, h.nA, h.nb, h.na, h.ti, h.iv, h.p0, by have := h.p1; omega⟩

set_option maxRecDepth 20000 in
set_option maxHeartbeats 2000000 in
theorem give_back {No : Nat → Prop} {w : World} {S hb c T A b a : Nat} {p : Pa} {sb nb : Int} {vb : Value} {s : H.St} {sp : Int} (h : H.Hp No w S hb c vb s) (hc : c ≤ 900000) (iv : H.Inv sp s) (hm : Pm w T 1 A b a p sb nb) (hT : No T) :
    Calls Tryz.prog 107 #[.pointer (some ⟨T, 1, none⟩), .pointer (some ⟨S, 0, none⟩)] w fun e w' => e = .returned (.tuple #[]) ∧ (∃ v', H.Hp No w' S hb (c + 2) v' (H.giveSt (H.giveSt s sb) nb)) ∧ Keep No w w' := by
  have C1 := H.give_any h (by omega) iv sb
  have iv2 := iv.give sb
  have C2 := fun W v' (h' : H.Hp No W S hb (c + 1) v' (H.giveSt s sb)) => H.give_any h' (by omega) iv2 nb
  have c2 := hm.c2
  have c3 := hm.c3
  have HM : Hid (∀ W, Keep No w W → W.cell? ⟨T, 1 + 3, none⟩ = some (.int .i64 nb)) := fun W k => by rw [World.cell?_of_block (w := w) (k.block T hm.ltB hT)]; exact hm.c3
  generalize H.giveE s sb = E1 at *
  generalize H.giveE (H.giveSt s sb) nb = E2 at *
  generalize H.giveSt (H.giveSt s sb) nb = s3 at *
  generalize H.giveSt s sb = s2 at *
  clear h iv iv2 hm
  go_enter Tryz.func107, Tryz.ntmps107
  go_wp2_with fail
  refine C1.mono ?_; rintro e W1 ⟨rfl, ⟨v1, hp⟩, hkk⟩
  have CC := C2 W1 v1 hp
  have c3' := HM.out W1 (kh hkk)
  have HK1 : Hid (Keep No w W1) := kh hkk
  clear C1 C2 hp hkk c2 c3
  go_wp2_with fail
  refine CC.mono ?_; rintro e W2 ⟨rfl, hp, hkk⟩
  have HP : Hid _ := hp
  have HK2 : Hid (Keep No w W2) := HK1.out.trans (kh hkk)
  clear CC hp hkk
  go_wp2_with fail
  go_end0
  exact ⟨rfl, HP.out, HK2.out⟩
end Go.Proofs.YtpmmploedkbeoaaGreatDoor
