/- The walk of NodesMap. -/
import Derived.Test.YtbkgbojfjijalaaLv
namespace Go.Proofs.Ytbkgbojfjijalaa
open Go.RowKit

/-- Where the law stands: the part, the two lists, and that they agree. -/
structure Mp (W w : World) (a z : Nat) (g : G) (vk vv : Value) (n : Nat) (KF VF : Nat → V) : Prop where
  st : St W.heap.size W w (a + 1) a z g
  lk : Lv w (a + 2) vk n KF
  lv : Lv w (a + 2) vv n VF
  ne : ∀ x, vk.ownBlock = some x → vv.ownBlock ≠ some x
  ok : ∀ i, i < n → KOK (KF i)
  one : ∀ i j, i < n → j < n → KF i = KF j → i = j
  map : ∀ i, i < n → mg z g (KF i) = VF i
theorem Mp.bel {W w w' : World} {a z : Nat} {g : G} {vk vv : Value} {n : Nat} {KF VF : Nat → V} (h : Mp W w a z g vk vv n KF VF) (hb : Below w.heap.size w w') : Mp W w' a z g vk vv n KF VF :=
  ⟨h.st.bel hb, h.lk.below hb, h.lv.below hb, h.ne, h.ok, h.one, h.map⟩
/-- Behind a Put that changed what no key in the lists has. -/
theorem Mp.moved {W w w' : World} {a z : Nat} {g g' : G} {vk vv : Value} {n : Nat} {KF VF VF' : Nat → V} (h : Mp W w a z g vk vv n KF VF) (hs : St W.heap.size W w' (a + 1) a z g') (hk : Keep (fun x => x ≠ a ∧ x ≠ a + 1) w w') (hm : ∀ i, i < n → mg z g' (KF i) = VF' i) (hv : ∀ i, i < n → VF' i = VF i) : Mp W w' a z g' vk vv n KF VF := by
  have hb : ∀ {v : Value} {F : Nat → V}, Lv w (a + 2) v n F → ∀ x, v.ownBlock = some x → x ≠ a ∧ x ≠ a + 1 := fun hl x hx => by have := (hl.own.lt x hx).1; omega
  exact ⟨hs, h.lk.keep hk (hb h.lk), h.lv.keep hk (hb h.lv), h.ne, h.ok, h.one, fun i hi => (hm i hi).trans (hv i hi)⟩

theorem Bx.mk2 (x : V) {W : World} {b : Nat} (h : b = W.heap.size) : Bx (W.alloc (.cells #[.int .i64 x.1, .int .i64 x.2.1, .string x.2.2] 32)) b x := by subst h; exact Bx.made W x
theorem Bx.al {W : World} {b : Nat} {x : V} (h : Bx W b x) (o : Obj) : Bx (W.alloc o) b x := h.below (b1 _ _)
theorem Bx.dr {W : World} {b : Nat} {x : V} (h : Bx W b x) : Bx W.drew b x := h.below (bdrew1 _)
theorem Bx.gr {W W' : World} {b : Nat} {x : V} {row : Option Nat} (hg : W.grownBy W' row) (h : Bx W b x) (hr : row ≠ some b) : Bx W' b x :=
  h.kept (No := fun y => some y ≠ row) ⟨hg.os, hg.tape, hg.output, hg.size, fun y hy hn => hg.block y hy hn⟩ (fun e => hr e.symm)
theorem Keep.grw {a : Nat} {w w1 w2 : World} {row : Option Nat} (h : Keep (fun y => y < a + 2) w w1) (k : w1.grownBy w2 row) (hr : ∀ y, row = some y → a + 2 ≤ y) : Keep (fun y => y < a + 2) w w2 :=
  h.trans ⟨k.os, k.tape, k.output, k.size, fun y hy hn => k.block y hy (fun e => by have := hr y e.symm; have : y < a + 2 := hn; omega)⟩
theorem step_app {ops : Array Oper} {o : Oper} {ac : Act} {K : Act → World → Prop} {Q : Exit → Act → World → Prop} {E : Prop} {W : World} {B : Nat} {v : Value} {n : Nat} {F : Nat → V} {x : V} (hgd : o.guard = none) (s y : Operand)
    (ho : o.op = .call { callee := .builtin .append, args := #[s, y], argTypes := #[49, 49] }) (hty : o.type = 49) (hs : ac.eval s = v) (hy : ∃ b, ac.eval y = .slice (some ⟨b, 0, none⟩) 1 1 ∧ Bx W b x) (hl : Lv W B v n F) (hn : n ≤ 400) (hB : B ≤ W.heap.size)
    (h : ∀ g c w', Lv w' B (.slice (some ⟨g, 0, none⟩) (n + 1) c) (n + 1) (upd F n x) → W.grownBy w' v.ownBlock → (v.ownBlock = some g ∨ g = W.heap.size) → g < w'.heap.size → K (ac.put o.dst (.slice (some ⟨g, 0, none⟩) (n + 1) c)) w') :
    if Region.wanted o (yielded ops ac.tmps) = true then Oper.wp Try.prog o ac W K Q else E := by
  obtain ⟨b, hb, hx⟩ := hy
  obtain ⟨g, c, w', hr, h1, h2, h3, h4⟩ := hl.app x hx hn hB
  have hw : Region.wanted o (yielded ops ac.tmps) = true := by simp [Region.wanted, hgd]
  rw [if_pos hw]
  unfold Oper.wp execOp
  simp only [ho, hty, resolve, invoke, builtin, Sem.run_bind, Sem.run_pure, Result.andThen_ok, List.map_toArray, List.map_cons, List.map_nil, hs, hb, hr]
  exact h g c w' h1 h2 h3 h4

set_option maxRecDepth 100000 in
set_option maxHeartbeats 8000000 in
theorem map_walk (z : Int) (L : Nat) (Q : Nat → Int × V × V) (v : Value) (W : World) (hO : Ops W.heap.size W v L Q) (hL : L * 72 ≤ 140737488355328) :
    Calls Try.prog 5 #[.int .i64 z, v] W fun e w' => e = .returned (.bool true) ∧ Below W.heap.size W w' := by
  have CF := fixed_any W
  by_cases hbad : rt z = false ∨ 4096 < z
  · have CB := fun w => begin_bad z w hbad
    have CR := right_any z
    clear hO
    go_enter Try.func5, Try.ntmps5
    go_wp2_with fail
    refine CF.mono ?_; rintro e w0 ⟨rfl, hb⟩
    have HB : Hid _ := hb
    clear hb CF
    go_wp2_with fail
    refine (CB _).mono ?_; rintro e w0 ⟨rfl, rfl⟩
    clear CB
    cases hr : rt z
    · rw [hr] at CR
      clear hbad hr
      go_wp2_with fail
      refine (CR _).mono ?_; rintro e w0 ⟨rfl, rfl⟩
      go_wp2_with fail
      go_ret
      exact ⟨rfl, HB.out⟩
    · have h1 : 4096 < z := by rw [hr] at hbad; simpa using hbad
      rw [hr] at CR
      clear hbad hr
      go_wp2_with fail
      refine (CR _).mono ?_; rintro e w0 ⟨rfl, rfl⟩
      go_wp2_with fail
      go_ret
      exact ⟨rfl, HB.out⟩
  · simp only [not_or, Bool.not_eq_false] at hbad
    obtain ⟨n, rfl, hR⟩ := Rt.of hbad.1
    have hn : n ≤ 4096 := by have := hbad.2; omega
    clear hbad
    have CB := fun w => begin_any n w hR hn
    have HO : Hid (Ops W.heap.size W v L Q) := hO
    obtain ⟨va0, cap, hva, hrng, _⟩ := id hO
    have HVA : Hid (v = .slice va0 L cap) := hva
    rw [hva]
    clear hva
    have HRng : Hid _ := hrng
    have HR : Hid (Rt n) := hR
    clear hO hrng hR
    unfold pp at CB
    go_enter Try.func5, Try.ntmps5
    go_wp2_with fail
    refine CF.mono ?_; rintro e w0 ⟨rfl, hb⟩
    have HB : Hid _ := hb
    have HBs : Hid (W.heap.size ≤ w0.heap.size) := hb.size
    clear hb CF
    go_wp2_with fail
    refine (CB _).mono ?_; rintro e w2 ⟨S, ka, va, ca, w1, rfl, h1, h2⟩
    have HS : Hid _ := St.start HB.out h1 h2
    clear CB h1 h2
    obtain ⟨a, ha⟩ : ∃ a, w0.heap.size = a := ⟨_, rfl⟩
    rw [ha] at HS HBs ⊢
    have HAB : Hid (W.heap.size ≤ a ∧ W.heap.size ≤ a + 1) := ⟨HBs.out, by have := HBs.out; omega⟩
    clear ha HBs HB
    go_wp2_with fail
    go_loopw [8, 9, 10] (fun kw vw iw wr => ∃ (k m : Nat), iw = .int .i64 (k : Nat) ∧ k ≤ L ∧ k ≤ 400 ∧ m ≤ k ∧ Hid (∃ g KF VF, Mp W wr a n g kw vw m KF VF)) (fun _ _ iw _ => L - (intOf iw).toNat)
    case atStart => exact ⟨0, 0, rfl, by omega, by omega, by omega, ⟨g0 n, fun _ => nil, fun _ => nil, HS.out, Lv.nil _ _ _, Lv.nil _ _ _, fun x h => (by cases h), fun i hi => (by omega), fun i j hi => (by omega), fun i hi => (by omega)⟩⟩
    case round =>
      obtain ⟨k, m, rfl, hk, hk4, hmk, HG⟩ := hrel
      obtain ⟨g, KF, VF, hM⟩ := HG.out
      clear HG HS
      obtain ⟨ak, ck, hvk⟩ := hM.lk.form
      obtain ⟨av, cv, hvv⟩ := hM.lv.form
      subst hvk hvv
      have HM : Hid _ := hM
      by_cases hlt : k < L ∧ k < 400
      · obtain ⟨hlt, h400⟩ := hlt
        have hlt' : (k : Int) < (L : Int) := by omega
        have h400' : (k : Int) < 400 := by omega
        obtain ⟨lb, off, cap2, hv, hlb, o0, o1, o2, o3, o4, o5, o6⟩ := (HO.out.below (hM.st.below (Nat.le_refl _))).at hlt
        rw [HVA.out] at hv
        obtain ⟨rfl, rfl⟩ : va0 = some ⟨lb, off, none⟩ ∧ cap = cap2 := by simpa using hv
        clear hv
        have HOx : Hid (∀ w', Below W.heap.size W w' → w'.cell? ⟨lb, off + k * 7 + 1, none⟩ = some (.int .i64 (Q k).2.1.1) ∧ w'.cell? ⟨lb, off + k * 7 + 2, none⟩ = some (.int .i64 (Q k).2.1.2.1) ∧ w'.cell? ⟨lb, off + k * 7 + 3, none⟩ = some (.string (Q k).2.1.2.2) ∧ w'.cell? ⟨lb, off + k * 7 + 4, none⟩ = some (.int .i64 (Q k).2.2.1) ∧ w'.cell? ⟨lb, off + k * 7 + 5, none⟩ = some (.int .i64 (Q k).2.2.2.1) ∧ w'.cell? ⟨lb, off + k * 7 + 6, none⟩ = some (.string (Q k).2.2.2.2)) := by
          intro w' hw'
          have hb0 := hM.st.below (Nat.le_refl W.heap.size)
          refine ⟨?_, ?_, ?_, ?_, ?_, ?_⟩
          · rw [hw'.cell (by exact hlb), ← hb0.cell (by exact hlb)]; exact o1
          · rw [hw'.cell (by exact hlb), ← hb0.cell (by exact hlb)]; exact o2
          · rw [hw'.cell (by exact hlb), ← hb0.cell (by exact hlb)]; exact o3
          · rw [hw'.cell (by exact hlb), ← hb0.cell (by exact hlb)]; exact o4
          · rw [hw'.cell (by exact hlb), ← hb0.cell (by exact hlb)]; exact o5
          · rw [hw'.cell (by exact hlb), ← hb0.cell (by exact hlb)]; exact o6
        have HLB : Hid (lb < W.heap.size) := hlb
        have HRk : Hid (Rng (Q k).2.1) := HRng.out k hlt
        have CP := put_all (Q k).2.1 (Q k).2.2 wr.drew (hM.st.pt.below (bdrew1 _)) hM.st.inv HR.out HRk.out
        have HST : Hid (∀ w', Pt w' (a + 1) a n (put n g (Q k).2.1 (Q k).2.2).1 → Keep (fun x => x ≠ a ∧ x ≠ a + 1) wr.drew w' → St W.heap.size W w' (a + 1) a n (put n g (Q k).2.1 (Q k).2.2).1) := fun w' h1 h2 => (hM.st.bel (bdrew1 _)).put HR.out HRk.out h1 h2 HAB.out
        have HPM : Hid ((put n g (Q k).2.1 (Q k).2.2).2.2 = 0 → KOK (Q k).2.1 ∧ mg n (put n g (Q k).2.1 (Q k).2.2).1 (Q k).2.1 = (Q k).2.2 ∧ ∀ k', KOK k' → k' ≠ (Q k).2.1 → mg n (put n g (Q k).2.1 (Q k).2.2).1 k' = mg n g k') := fun he => put_map hM.st.inv HR.out HRk.out he
        have HPB : Hid ((put n g (Q k).2.1 (Q k).2.2).2.2 ≠ 0 → (∀ k', mg n (put n g (Q k).2.1 (Q k).2.2).1 k' = mg n g k') ∧ ((put n g (Q k).2.1 (Q k).2.2).2.2 = 12 ∨ ((put n g (Q k).2.1 (Q k).2.2).2.2 = 2 ∧ ¬ (fm (Q k).2.1 = true ∧ fm (Q k).2.2 = true)) ∨ ((put n g (Q k).2.1 (Q k).2.2).2.2 = 9 ∧ fm (Q k).2.1 = true ∧ fm (Q k).2.2 = true ∧ (Q k).2.1.1 = 0))) := fun he => put_bad he
        generalize put n g (Q k).2.1 (Q k).2.2 = r at *
        unfold pp vl at CP
        clear hM
        go_upto_region 10 with fail
        go_cut [11, 12] from 35 to 135 (fun nw ew wx => nw = .int .i64 (r.2.1 : Nat) ∧ ew = .int .i64 r.2.2 ∧ Hid (St W.heap.size W wx (a + 1) a n r.1 ∧ Keep (fun x => x ≠ a ∧ x ≠ a + 1) wr wx))
        case first =>
          go_region_with (go_at_call 12; refine CP.mono ?_; rintro e w3 ⟨rfl, hp, hk2⟩)
          all_goals
            have HX : Hid (St W.heap.size W w3 (a + 1) a n r.1 ∧ Keep (fun x => x ≠ a ∧ x ≠ a + 1) wr w3) := ⟨HST.out w3 hp hk2, (Keep.of (bdrew1 _)).trans hk2⟩
            clear hp hk2 CP
            go_wp2_with fail
            go_meet
            exact ⟨rfl, rfl, HX⟩
        case rest =>
          obtain ⟨rfl, rfl, HX⟩ := hcut
          clear CP HST o0 o1 o2 o3 o4 o5 o6
          have CK1 := rcheck_any (Q k).2.1.1 (Q k).2.1.2.1 (Q k).2.1.2.2
          have CK2 := rcheck_any (Q k).2.2.1 (Q k).2.2.2.1 (Q k).2.2.2.2
          rw [chk_of] at CK1 CK2
          unfold vl vb at CK1 CK2
          obtain ⟨o1, o2, o3, o4, o5, o6⟩ := HOx.out wc (HX.out.1.below (Nat.le_refl _))
          by_cases he : r.2.2 = 0
          · obtain ⟨hkok, hmk1, hmo⟩ := HPM.out he
            have HKK : Hid (KOK (Q k).2.1) := hkok
            have HMK : Hid (mg n r.1 (Q k).2.1 = (Q k).2.2) := hmk1
            have HMO : Hid (∀ k', KOK k' → k' ≠ (Q k).2.1 → mg n r.1 k' = mg n g k') := hmo
            have hLKb : ∀ {v : Value} {F : Nat → V}, Lv wr (a + 2) v m F → ∀ x, v.ownBlock = some x → x ≠ a ∧ x ≠ a + 1 := fun hl x hx => by have := (hl.own.lt x hx).1; omega
            have HLK : Hid (Lv wc (a + 2) (.slice ak m ck) m KF) := HM.out.lk.keep HX.out.2 (hLKb HM.out.lk)
            have HLV : Hid (Lv wc (a + 2) (.slice av m cv) m VF) := HM.out.lv.keep HX.out.2 (hLKb HM.out.lv)
            clear hkok hmk1 hmo hLKb HPM HPB CK1 CK2 o1 o2 o3 o4 o5 o6
            rw [he]
            clear he
            go_wp2_with fail
            go_loopw [13, 14] (fun aw jw wr' => ∃ (o : Option Nat) (j : Nat), aw = .int .i64 (fi o) ∧ jw = .int .i64 (j : Nat) ∧ j ≤ m ∧ Hid (∀ i, o = some i → i < j ∧ KF i = (Q k).2.1) ∧ Hid (o = none → ∀ i, i < j → KF i ≠ (Q k).2.1) ∧ Hid (Below wc.heap.size wc wr')) (fun _ jw _ => m - (intOf jw).toNat)
            case atStart => exact ⟨none, 0, rfl, rfl, by omega, fun i h => (by cases h), fun _ i hi => (by omega), Below.refl _ _⟩
            case round =>
              obtain ⟨o, j, rfl, rfl, hj, HO1, HO2, HBj⟩ := hrel
              by_cases hjm : j < m
              · have hjm' : (j : Int) < (m : Int) := by omega
                obtain ⟨gk, ck2, hak, hgk1, hgk2, hfz, y0, y1, y2⟩ := (HLK.out.below HBj.out).at hjm
                obtain ⟨rfl, rfl⟩ : ak = some ⟨gk, 0, none⟩ ∧ ck = ck2 := by simpa using hak
                obtain ⟨o1, o2, o3, o4, o5, o6⟩ := HOx.out wr (bthen (HX.out.1.below (Nat.le_refl _)) (HX.out.1.below (Nat.le_refl _)).size HBj.out)
                have N := eql32 (KF j).1 (KF j).2.1 (Q k).2.1.1 (Q k).2.1.2.1 (KF j).2.2 (Q k).2.1.2.2
                unfold vl at N
                have g32 := guard32
                clear hak hfz hgk1 hgk2
                by_cases hq : KF j = (Q k).2.1
                · rw [decide_eq_true (show ((KF j).1, (KF j).2.1, (KF j).2.2) = ((Q k).2.1.1, (Q k).2.1.2.1, (Q k).2.1.2.2) from hq)] at N
                  have HQ : Hid (KF j = (Q k).2.1) := hq
                  clear hq
                  go_wp2_with fail
                  go_quiet (fail)
                  go_wp2_with fail
                  go_round
                  case rel => exact ⟨some j, j + 1, rfl, by go_num, by omega, fun i h => by cases h; exact ⟨by omega, HQ.out⟩, fun h => (by cases h), HBj.out.trans (bdrew _ _ _)⟩
                  case measure => simp [intOf]; omega
                · rw [decide_eq_false (show ¬ ((KF j).1, (KF j).2.1, (KF j).2.2) = ((Q k).2.1.1, (Q k).2.1.2.1, (Q k).2.1.2.2) from hq)] at N
                  have HQ : Hid (KF j ≠ (Q k).2.1) := hq
                  clear hq
                  go_wp2_with fail
                  go_quiet (fail)
                  go_wp2_with fail
                  go_round
                  case rel => exact ⟨o, j + 1, rfl, by go_num, by omega, fun i h => ⟨by have := (HO1.out i h).1; omega, (HO1.out i h).2⟩, fun h i hi => by
                    by_cases e : i = j
                    · rw [e]; exact HQ.out
                    · exact HO2.out h i (by omega), HBj.out.trans (bdrew _ _ _)⟩
                  case measure => simp [intOf]; omega
              · have hjm' : ¬ (j : Int) < (m : Int) := by omega
                have hjm2 : j = m := by omega
                subst hjm2
                have hbw : Below W.heap.size W wr := bthen (HX.out.1.below (Nat.le_refl _)) (HX.out.1.below (Nat.le_refl _)).size HBj.out
                obtain ⟨o1, o2, o3, o4, o5, o6⟩ := HOx.out wr hbw
                have HSr : Hid (St W.heap.size W wr (a + 1) a n r.1) := HX.out.1.bel HBj.out
                have HLKr : Hid (Lv wr (a + 2) (.slice ak j ck) j KF) := HLK.out.below HBj.out
                have HLVr : Hid (Lv wr (a + 2) (.slice av j cv) j VF) := HLV.out.below HBj.out
                clear hbw HLK HLV HBj HX HOx
                cases o with
                | some i0 =>
                  obtain ⟨hi0, hki⟩ := HO1.out i0 rfl
                  have hi0' : ¬ ((i0 : Int) < 0) := by omega
                  have hi0m : (i0 : Int) < (j : Int) := by omega
                  obtain ⟨gv, cv2, hav, hgv1, hgv2, hfz, y0, y1, y2⟩ := HLVr.out.at hi0
                  obtain ⟨rfl, rfl⟩ : av = some ⟨gv, 0, none⟩ ∧ cv = cv2 := by simpa using hav
                  have HL2 := HLVr.out.set hi0 (Q k).2.2
                  obtain ⟨w9, hw9⟩ : ∃ w9, ((wr.setCell ⟨gv, i0 * 3, none⟩ (.int .i64 (Q k).2.2.1)).setCell ⟨gv, i0 * 3 + 1, none⟩ (.int .i64 (Q k).2.2.2.1)).setCell ⟨gv, i0 * 3 + 2, none⟩ (.string (Q k).2.2.2.2) = w9 := ⟨_, rfl⟩
                  have K9 : Keep (fun x => x ≠ gv) wr w9 := by
                    rw [← hw9]
                    exact (((Keep.refl _ _).set (p := ⟨gv, _, none⟩) (fun q => q rfl) _).set (p := ⟨gv, _, none⟩) (fun q => q rfl) _).set (p := ⟨gv, _, none⟩) (fun q => q rfl) _
                  rw [hw9] at HL2
                  have HM9 : Hid (Mp W w9 a n r.1 (.slice ak j ck) (.slice (some ⟨gv, 0, none⟩) j cv) j KF (upd VF i0 (Q k).2.2)) := by
                    refine ⟨⟨HSr.out.pt.kept K9 (by show a + 1 ≠ gv; omega) (by show a ≠ gv; omega), HSr.out.inv, HSr.out.keep.trans (K9.sub fun y hy => by show y ≠ gv; have h0 : y < W.heap.size := hy; have := HAB.out; omega)⟩, HLKr.out.keep K9 (fun x hx e => HM.out.ne x hx (by rw [e]; rfl)), HL2, HM.out.ne, HM.out.ok, HM.out.one, fun i hi => ?_⟩
                    by_cases e : i = i0
                    · subst e
                      rw [upd_at, hki]; exact HMK.out
                    · rw [upd_ne _ _ e, HMO.out (KF i) (HM.out.ok i hi) (fun q => e (HM.out.one i i0 hi hi0 (q.trans hki.symm)))]
                      exact HM.out.map i hi
                  simp only [fi]
                  clear HO1 HO2 hki hav hgv1 hgv2 K9 HL2 HSr HLKr HLVr HM
                  go_wp2_with fail
                  go_round
                  case rel => exact ⟨k + 1, j, by go_num, by omega, by omega, by omega, ⟨_, _, _, HM9.out⟩⟩
                  case measure => simp [intOf]; omega
                | none =>
                  have HNEW : Hid (∀ i, i < j → KF i ≠ (Q k).2.1) := HO2.out rfl
                  have hsz : a + 2 ≤ wr.heap.size := HSr.out.pt.ltb
                  have LK0 : Hid _ := HLKr.out
                  have LV0 : Hid _ := HLVr.out
                  have NE1 : Hid ((Value.slice ak j ck).ownBlock = none ∨ (Value.slice ak j ck).ownBlock ≠ (Value.slice av j cv).ownBlock) := by
                    cases q : (Value.slice ak j ck).ownBlock with
                    | none => exact .inl rfl
                    | some x => exact .inr (fun e => HM.out.ne x q e.symm)
                  have NE2 : Hid ((Value.slice av j cv).ownBlock = none ∨ (Value.slice av j cv).ownBlock ≠ (Value.slice ak j ck).ownBlock) := by
                    cases q : (Value.slice av j cv).ownBlock with
                    | none => exact .inl rfl
                    | some x => exact .inr (fun e => HM.out.ne x e.symm q)
                  have Hklt : Hid (∀ b, wr.heap.size ≤ b → (Value.slice ak j ck).ownBlock ≠ some b) := fun b hb e => by have := (HLKr.out.own.lt b e).2; omega
                  have Hvlt : Hid (∀ b, wr.heap.size ≤ b → (Value.slice av j cv).ownBlock ≠ some b) := fun b hb e => by have := (HLVr.out.own.lt b e).2; omega
                  have Hkge : Hid (∀ y, (Value.slice ak j ck).ownBlock = some y → a + 2 ≤ y) := fun y e => (HLKr.out.own.lt y e).1
                  have Hvge : Hid (∀ y, (Value.slice av j cv).ownBlock = some y → a + 2 ≤ y) := fun y e => (HLVr.out.own.lt y e).1
                  have NEkx : Hid (∀ g c s : Nat, ((Value.slice ak j ck).ownBlock = some g ∨ g = s) → wr.heap.size ≤ s → (Value.slice (some ⟨g, 0, none⟩) (j + 1) c).ownBlock ≠ (Value.slice av j cv).ownBlock) := by
                    intro g c s h hs e
                    rcases h with h | h
                    · exact HM.out.ne g h e.symm
                    · exact Hvlt.out g (by omega) e.symm
                  have NEvx : Hid (∀ g c s : Nat, ((Value.slice av j cv).ownBlock = some g ∨ g = s) → wr.heap.size ≤ s → (Value.slice (some ⟨g, 0, none⟩) (j + 1) c).ownBlock ≠ (Value.slice ak j ck).ownBlock) := by
                    intro g c s h hs e
                    rcases h with h | h
                    · exact HM.out.ne g e.symm h
                    · exact Hklt.out g (by omega) e.symm
                  have HADD : Hid (∀ Wf gk ck' gv cv', Keep (fun y => y < a + 2) wr Wf → Lv Wf (a + 2) (.slice (some ⟨gk, 0, none⟩) (j + 1) ck') (j + 1) (upd KF j (Q k).2.1) → Lv Wf (a + 2) (.slice (some ⟨gv, 0, none⟩) (j + 1) cv') (j + 1) (upd VF j (Q k).2.2) → gk ≠ gv →
                      Mp W Wf a n r.1 (.slice (some ⟨gk, 0, none⟩) (j + 1) ck') (.slice (some ⟨gv, 0, none⟩) (j + 1) cv') (j + 1) (upd KF j (Q k).2.1) (upd VF j (Q k).2.2)) := by
                    intro Wf gk ck' gv cv' hK h1 h2 hne
                    refine ⟨⟨HSr.out.pt.kept hK (by show a + 1 < a + 2; omega) (by show a < a + 2; omega), HSr.out.inv, HSr.out.keep.trans (hK.sub fun y hy => by show y < a + 2; have h0 : y < W.heap.size := hy; have := HAB.out; omega)⟩, h1, h2, ?_, ?_, ?_, ?_⟩
                    · intro x hx hy
                      have e1 : gk = x := by simpa [Value.ownBlock] using hx
                      have e2 : gv = x := by simpa [Value.ownBlock] using hy
                      omega
                    · intro i hi
                      by_cases e : i = j
                      · rw [e, upd_at]; exact HKK.out
                      · rw [upd_ne _ _ e]; exact HM.out.ok i (by omega)
                    · intro i i2 hi hi2 e
                      by_cases e1 : i = j <;> by_cases e2 : i2 = j
                      · omega
                      · rw [e1, upd_at, upd_ne _ _ e2] at e; exact absurd e.symm (HNEW.out i2 (by omega))
                      · rw [e2, upd_at, upd_ne _ _ e1] at e; exact absurd e (HNEW.out i (by omega))
                      · rw [upd_ne _ _ e1, upd_ne _ _ e2] at e; exact HM.out.one i i2 (by omega) (by omega) e
                    · intro i hi
                      by_cases e : i = j
                      · rw [e, upd_at, upd_at]; exact HMK.out
                      · rw [upd_ne _ _ e, upd_ne _ _ e, HMO.out (KF i) (HM.out.ok i (by omega)) (HNEW.out i (by omega))]
                        exact HM.out.map i (by omega)
                  simp only [fi]
                  clear HO1 HO2 HSr HLKr HLVr HM HMK HMO HKK HNEW
                  have HOc : Hid (∀ w', Keep (fun y => y < a + 2) wr w' → w'.cell? ⟨lb, off + k * 7 + 1, none⟩ = some (.int .i64 (Q k).2.1.1) ∧ w'.cell? ⟨lb, off + k * 7 + 2, none⟩ = some (.int .i64 (Q k).2.1.2.1) ∧ w'.cell? ⟨lb, off + k * 7 + 3, none⟩ = some (.string (Q k).2.1.2.2) ∧ w'.cell? ⟨lb, off + k * 7 + 4, none⟩ = some (.int .i64 (Q k).2.2.1) ∧ w'.cell? ⟨lb, off + k * 7 + 5, none⟩ = some (.int .i64 (Q k).2.2.2.1) ∧ w'.cell? ⟨lb, off + k * 7 + 6, none⟩ = some (.string (Q k).2.2.2.2)) := by
                    intro w' hK
                    have hlb2 : lb < a + 2 := by have := HLB.out; have := HAB.out; omega
                    have hc : ∀ x, w'.cell? ⟨lb, x, none⟩ = wr.cell? ⟨lb, x, none⟩ := fun x => World.cell?_of_block (w := wr) (hK.block lb (by omega) hlb2)
                    exact ⟨(hc _).trans o1, (hc _).trans o2, (hc _).trans o3, (hc _).trans o4, (hc _).trans o5, (hc _).trans o6⟩
                  go_wp2_with fail
                  go_region_held3 (fun w' => w'.cell? ⟨lb, off + k * 7 + 1, none⟩ = some (.int .i64 (Q k).2.1.1) ∧ w'.cell? ⟨lb, off + k * 7 + 2, none⟩ = some (.int .i64 (Q k).2.1.2.1) ∧ w'.cell? ⟨lb, off + k * 7 + 3, none⟩ = some (.string (Q k).2.1.2.2) ∧ w'.cell? ⟨lb, off + k * 7 + 4, none⟩ = some (.int .i64 (Q k).2.2.1) ∧ w'.cell? ⟨lb, off + k * 7 + 5, none⟩ = some (.int .i64 (Q k).2.2.2.1) ∧ w'.cell? ⟨lb, off + k * 7 + 6, none⟩ = some (.string (Q k).2.2.2.2)) (exact HOc.out _ (by repeat (first | exact Keep.refl _ _ | refine Keep.drew ?_ | refine Keep.alloc ?_ _ | refine TKk ?_ | refine TKv ?_))) (first
                    | (refine step_app (by rfl) _ _ (by rfl) (by rfl) (v := .slice ak j ck) (by rfl) (x := (Q k).2.1) (by exact ⟨_, rfl, by repeat (first | assumption | exact Bx.mk2 _ (by simp) | refine Bx.dr ?_ | refine Bx.al ?_ _ | refine TBk _ _ ?_ (by first | omega | (simp; done) | (simp; omega)) | refine TBv _ _ ?_ (by first | omega | (simp; done) | (simp; omega)))⟩) (B := a + 2) (n := j) (F := KF) (by repeat (first | exact LK0.out | exact LV0.out | assumption | refine Lv.drew ?_ | refine Lv.alloc ?_ _ | refine TLk _ _ _ ?_ (by first | exact NE1.out | exact NE2.out | exact .inr NEk | exact .inr NEv) | refine TLv _ _ _ ?_ (by first | exact NE1.out | exact NE2.out | exact .inr NEk | exact .inr NEv))) (by omega) (by first | omega | (simp; done) | (simp; omega)) ?_; intro gk ck' wk lkN grk atk ltk; have NEk : (Value.slice (some ⟨gk, 0, none⟩) (j + 1) ck').ownBlock ≠ (Value.slice av j cv).ownBlock := NEkx.out gk ck' _ atk (by first | omega | (simp; done) | (simp; omega)); have TLk := fun (v : Value) (n : Nat) (F : Nat → V) (h : Lv _ (a + 2) v n F) (hne : v.ownBlock = none ∨ v.ownBlock ≠ (Value.slice ak j ck).ownBlock) => h.grown grk hne; have TBk := fun (b : Nat) (x : V) (h : Bx _ b x) (hb : wr.heap.size ≤ b) => Bx.gr grk h (Hklt.out b hb); have TKk := fun (h : Keep (fun y => y < a + 2) wr _) => h.grw grk Hkge.out; have szk := grk.size; try simp at szk)
                    | (refine step_app (by rfl) _ _ (by rfl) (by rfl) (v := .slice av j cv) (by rfl) (x := (Q k).2.2) (by exact ⟨_, rfl, by repeat (first | assumption | exact Bx.mk2 _ (by simp) | refine Bx.dr ?_ | refine Bx.al ?_ _ | refine TBk _ _ ?_ (by first | omega | (simp; done) | (simp; omega)) | refine TBv _ _ ?_ (by first | omega | (simp; done) | (simp; omega)))⟩) (B := a + 2) (n := j) (F := VF) (by repeat (first | exact LK0.out | exact LV0.out | assumption | refine Lv.drew ?_ | refine Lv.alloc ?_ _ | refine TLk _ _ _ ?_ (by first | exact NE1.out | exact NE2.out | exact .inr NEk | exact .inr NEv) | refine TLv _ _ _ ?_ (by first | exact NE1.out | exact NE2.out | exact .inr NEk | exact .inr NEv))) (by omega) (by first | omega | (simp; done) | (simp; omega)) ?_; intro gv cv' wv lvN grv atv ltv; have NEv : (Value.slice (some ⟨gv, 0, none⟩) (j + 1) cv').ownBlock ≠ (Value.slice ak j ck).ownBlock := NEvx.out gv cv' _ atv (by first | omega | (simp; done) | (simp; omega)); have TLv := fun (v : Value) (n : Nat) (F : Nat → V) (h : Lv _ (a + 2) v n F) (hne : v.ownBlock = none ∨ v.ownBlock ≠ (Value.slice av j cv).ownBlock) => h.grown grv hne; have TBv := fun (b : Nat) (x : V) (h : Bx _ b x) (hb : wr.heap.size ≤ b) => Bx.gr grv h (Hvlt.out b hb); have TKv := fun (h : Keep (fun y => y < a + 2) wr _) => h.grw grv Hvge.out; have szv := grv.size; try simp at szv))
                  all_goals
                    have HGN : Hid (gk ≠ gv) := by
                      first
                        | (rcases atv with q | q
                           · exact fun e => NEk (by rw [q, e]; rfl)
                           · (show gk ≠ gv; first | omega | (simp at q; omega)))
                        | (rcases atk with q | q
                           · exact fun e => NEv (by rw [q, ← e]; rfl)
                           · (show gk ≠ gv; first | omega | (simp at q; omega)))
                    go_wp2_with fail
                    go_round
                    case rel => exact ⟨k + 1, j + 1, by go_num, by omega, by omega, by omega, ⟨_, _, _, HADD.out _ _ _ _ _ (by repeat (first | exact Keep.refl _ _ | refine Keep.drew ?_ | refine Keep.alloc ?_ _ | refine TKk ?_ | refine TKv ?_)) (by repeat (first | exact LK0.out | exact LV0.out | assumption | refine Lv.drew ?_ | refine Lv.alloc ?_ _ | refine TLk _ _ _ ?_ (by first | exact NE1.out | exact NE2.out | exact .inr NEk | exact .inr NEv) | refine TLv _ _ _ ?_ (by first | exact NE1.out | exact NE2.out | exact .inr NEk | exact .inr NEv))) (by repeat (first | exact LK0.out | exact LV0.out | assumption | refine Lv.drew ?_ | refine Lv.alloc ?_ _ | refine TLk _ _ _ ?_ (by first | exact NE1.out | exact NE2.out | exact .inr NEk | exact .inr NEv) | refine TLv _ _ _ ?_ (by first | exact NE1.out | exact NE2.out | exact .inr NEk | exact .inr NEv))) HGN.out⟩⟩
                    case measure => simp [intOf]; omega
          · obtain ⟨hmb, hE⟩ := HPB.out he
            have HMC : Hid (Mp W wc a n r.1 (.slice ak m ck) (.slice av m cv) m KF VF) := HM.out.moved HX.out.1 HX.out.2 (fun i hi => (hmb (KF i)).trans (HM.out.map i hi)) (fun _ _ => rfl)
            have HB1 : Hid (∀ o, Below wc.heap.size wc (wc.alloc o)) := fun o => b1 wc o
            have HB2 : Hid (∀ o o', Below wc.heap.size wc ((wc.alloc o).alloc o')) := fun o o' => b2 wc o o'
            have hlbc : lb < wc.heap.size := Nat.lt_of_lt_of_le HLB.out (HX.out.1.below (Nat.le_refl _)).size
            clear hmb HX HM HPM HPB he
            rcases hE with h12 | ⟨h2, hnf⟩ | ⟨h9, hf1, hf2, hk0⟩
            · rw [h12]
              clear h12
              go_wp2_with fail
              go_round
              case rel => exact ⟨k + 1, m, by go_num, by omega, by omega, by omega, ⟨_, _, _, HMC.out⟩⟩
              case measure => simp [intOf]; omega
            · rw [h2]
              clear h2
              by_cases hf1 : fm (Q k).2.1 = true
              · have hf2 : ¬ fm (Q k).2.2 = true := fun q => hnf ⟨hf1, q⟩
                rw [if_pos hf1] at CK1
                rw [if_neg hf2] at CK2
                clear hnf hf1 hf2
                go_wp2_with fail
                refine (CK1 _).mono ?_; rintro e w5 ⟨rfl, rfl⟩
                go_wp2_with fail
                refine (CK2 _).mono ?_; rintro e w5 ⟨rfl, rfl⟩
                have HMD : Hid _ := HMC.out.bel (HB2.out (.cells #[.int .i64 (Q k).2.1.1, .int .i64 (Q k).2.1.2.1, .string (Q k).2.1.2.2] 32) (.cells #[.int .i64 (Q k).2.2.1, .int .i64 (Q k).2.2.2.1, .string (Q k).2.2.2.2] 32))
                go_wp2_with fail
                go_round
                case rel => exact ⟨k + 1, m, by go_num, by omega, by omega, by omega, ⟨_, _, _, HMD.out⟩⟩
                case measure => simp [intOf]; omega
              · rw [if_neg hf1] at CK1
                clear hnf hf1
                go_wp2_with fail
                refine (CK1 _).mono ?_; rintro e w5 ⟨rfl, rfl⟩
                have HMD : Hid _ := HMC.out.bel (HB1.out (.cells #[.int .i64 (Q k).2.1.1, .int .i64 (Q k).2.1.2.1, .string (Q k).2.1.2.2] 32))
                go_wp2_with fail
                go_round
                case rel => exact ⟨k + 1, m, by go_num, by omega, by omega, by omega, ⟨_, _, _, HMD.out⟩⟩
                case measure => simp [intOf]; omega
            · rw [h9]
              rw [if_pos hf1] at CK1
              rw [if_pos hf2] at CK2
              have hkb : ((Q k).2.1.1 != 0) = false := by rw [hk0]; rfl
              clear h9 hf1 hf2 hk0
              go_wp2_with fail
              refine (CK1 _).mono ?_; rintro e w5 ⟨rfl, rfl⟩
              go_wp2_with fail
              refine (CK2 _).mono ?_; rintro e w5 ⟨rfl, rfl⟩
              have HMD : Hid _ := HMC.out.bel (HB2.out (.cells #[.int .i64 (Q k).2.1.1, .int .i64 (Q k).2.1.2.1, .string (Q k).2.1.2.2] 32) (.cells #[.int .i64 (Q k).2.2.1, .int .i64 (Q k).2.2.2.1, .string (Q k).2.2.2.2] 32))
              go_wp2_with fail
              go_round
              case rel => exact ⟨k + 1, m, by go_num, by omega, by omega, by omega, ⟨_, _, _, HMD.out⟩⟩
              case measure => simp [intOf]; omega
      · have HCON : Hid (¬ (k < L ∧ k < 400)) := hlt
        clear hlt hM
        by_cases h1 : k < L
        · have hA : (k : Int) < (L : Int) := by omega
          have hB : ¬ (k : Int) < 400 := by have := HCON.out; omega
          go_wp2_with fail
          go_loopw [15] (fun jw wr' => ∃ j : Nat, jw = .int .i64 (j : Nat) ∧ j ≤ m ∧ Hid (Mp W wr' a n g (.slice ak m ck) (.slice av m cv) m KF VF)) (fun jw _ => m - (intOf jw).toNat)
          case atStart => exact ⟨0, rfl, by omega, HM⟩
          case round =>
            obtain ⟨j, rfl, hj, HMj⟩ := hrel
            clear HM
            by_cases hjm : j < m
            · have hjm' : (j : Int) < (m : Int) := by omega
              obtain ⟨gk, ck2, hak, _, _, _, y0, y1, y2⟩ := HMj.out.lk.at hjm
              obtain ⟨rfl, rfl⟩ : ak = some ⟨gk, 0, none⟩ ∧ ck = ck2 := by simpa using hak
              have hkok := HMj.out.ok j hjm
              have CG := get_any (KF j) wr HMj.out.st.pt HMj.out.st.inv HR.out ⟨hkok.2.2.1, hkok.2.2.2⟩
              have hmg : xAt g (fnd n g (KF j)).1 = VF j := HMj.out.map j hjm
              rw [hmg] at CG
              unfold pp vl at CG
              clear hak hkok hmg
              go_wp2_with fail
              refine CG.mono ?_; rintro e w5 ⟨rfl, hb⟩
              obtain ⟨W6, hW6⟩ : ∃ W6, w5.alloc (vb (VF j).1 (VF j).2.1 (VF j).2.2) = W6 := ⟨_, rfl⟩
              have hb6 : Below wr.heap.size wr W6 := by rw [← hW6]; exact bthen hb hb.size (b1 _ _)
              have X6 : Bx W6 w5.heap.size (VF j) := by rw [← hW6]; exact Bx.made w5 (VF j)
              have HM6 : Hid _ := HMj.out.bel hb6
              have HX6 : Hid _ := X6
              unfold vb at hW6
              have HW6 : Hid _ := hW6
              clear CG hb hb6 X6 HMj hW6 y0 y1 y2
              go_upto_region 28 with fail
              rw [HW6.out]
              obtain ⟨gv, cv2, hav, _, _, _, p0, p1, p2⟩ := HM6.out.lv.at hjm
              obtain ⟨rfl, rfl⟩ : av = some ⟨gv, 0, none⟩ ∧ cv = cv2 := by simpa using hav
              have z0 := HX6.out.c0
              have z1 := HX6.out.c1
              have z2 := HX6.out.c2
              have Ne := neq32 (VF j).1 (VF j).2.1 (VF j).1 (VF j).2.1 (VF j).2.2 (VF j).2.2
              simp only [decide_true, Bool.not_true] at Ne
              unfold vl at Ne
              have g32 := guard32
              generalize w5.heap.size = B5 at *
              clear HW6 hav HX6
              go_wp2_with fail
              go_quiet (fail)
              go_wp2_with fail
              go_round
              case rel => exact ⟨j + 1, by go_num, by omega, HM6.out.bel (bdrew _ _ _)⟩
              case measure => simp [intOf]; omega
            · have hjm' : ¬ (j : Int) < (m : Int) := by omega
              have HBl : Hid _ := HMj.out.st.below (Nat.le_refl _)
              go_wp2_with fail
              go_ret
              exact ⟨rfl, HBl.out⟩
        · have hA : ¬ (k : Int) < (L : Int) := by omega
          go_wp2_with fail
          go_loopw [15] (fun jw wr' => ∃ j : Nat, jw = .int .i64 (j : Nat) ∧ j ≤ m ∧ Hid (Mp W wr' a n g (.slice ak m ck) (.slice av m cv) m KF VF)) (fun jw _ => m - (intOf jw).toNat)
          case atStart => exact ⟨0, rfl, by omega, HM⟩
          case round =>
            obtain ⟨j, rfl, hj, HMj⟩ := hrel
            clear HM
            by_cases hjm : j < m
            · have hjm' : (j : Int) < (m : Int) := by omega
              obtain ⟨gk, ck2, hak, _, _, _, y0, y1, y2⟩ := HMj.out.lk.at hjm
              obtain ⟨rfl, rfl⟩ : ak = some ⟨gk, 0, none⟩ ∧ ck = ck2 := by simpa using hak
              have hkok := HMj.out.ok j hjm
              have CG := get_any (KF j) wr HMj.out.st.pt HMj.out.st.inv HR.out ⟨hkok.2.2.1, hkok.2.2.2⟩
              have hmg : xAt g (fnd n g (KF j)).1 = VF j := HMj.out.map j hjm
              rw [hmg] at CG
              unfold pp vl at CG
              clear hak hkok hmg
              go_wp2_with fail
              refine CG.mono ?_; rintro e w5 ⟨rfl, hb⟩
              obtain ⟨W6, hW6⟩ : ∃ W6, w5.alloc (vb (VF j).1 (VF j).2.1 (VF j).2.2) = W6 := ⟨_, rfl⟩
              have hb6 : Below wr.heap.size wr W6 := by rw [← hW6]; exact bthen hb hb.size (b1 _ _)
              have X6 : Bx W6 w5.heap.size (VF j) := by rw [← hW6]; exact Bx.made w5 (VF j)
              have HM6 : Hid _ := HMj.out.bel hb6
              have HX6 : Hid _ := X6
              unfold vb at hW6
              have HW6 : Hid _ := hW6
              clear CG hb hb6 X6 HMj hW6 y0 y1 y2
              go_upto_region 28 with fail
              rw [HW6.out]
              obtain ⟨gv, cv2, hav, _, _, _, p0, p1, p2⟩ := HM6.out.lv.at hjm
              obtain ⟨rfl, rfl⟩ : av = some ⟨gv, 0, none⟩ ∧ cv = cv2 := by simpa using hav
              have z0 := HX6.out.c0
              have z1 := HX6.out.c1
              have z2 := HX6.out.c2
              have Ne := neq32 (VF j).1 (VF j).2.1 (VF j).1 (VF j).2.1 (VF j).2.2 (VF j).2.2
              simp only [decide_true, Bool.not_true] at Ne
              unfold vl at Ne
              have g32 := guard32
              generalize w5.heap.size = B5 at *
              clear HW6 hav HX6
              go_wp2_with fail
              go_quiet (fail)
              go_wp2_with fail
              go_round
              case rel => exact ⟨j + 1, by go_num, by omega, HM6.out.bel (bdrew _ _ _)⟩
              case measure => simp [intOf]; omega
            · have hjm' : ¬ (j : Int) < (m : Int) := by omega
              have HBl : Hid _ := HMj.out.st.below (Nat.le_refl _)
              go_wp2_with fail
              go_ret
              exact ⟨rfl, HBl.out⟩
end Go.Proofs.Ytbkgbojfjijalaa
