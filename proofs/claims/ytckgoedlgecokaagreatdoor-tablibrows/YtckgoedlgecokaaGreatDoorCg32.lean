/- The walk of TablibMoves. -/
import Derived.Test.YtckgoedlgecokaaGreatDoorCg31
namespace Go.Proofs.YtckgoedlgecokaaGreatDoor
open Go.RowKit
/-- The list when so many values have come from rf on to rp on (from nought on). -/
def mvL (l : List V) (rf rp : Nat) : Nat → List V
  | 0 => l
  | k + 1 => if (mvL l rf rp k).length ≤ rp + k then mvL l rf rp k ++ [l.getD (rf + k) nil] else (mvL l rf rp k).set (rp + k) (l.getD (rf + k) nil)
theorem mvL_len (l : List V) (rf : Nat) {rp : Nat} (h : rp < l.length) : ∀ k, (mvL l rf rp k).length = max l.length (rp + k)
  | 0 => by show l.length = _; omega
  | k + 1 => by
    have e := mvL_len l rf h k
    unfold mvL
    split
    · rw [List.length_append, List.length_singleton]; omega
    · rw [List.length_set]; omega
theorem mvL_row (l : List V) {rf rp : Nat} (h : rp < l.length) : ∀ k, rf + k ≤ l.length → rowf (mvL l rf rp k) = mvF (rowf l) (rowf l) ((rf : Int) + 1) ((rp : Int) + 1) (k : Nat)
  | 0, _ => (mvF_beg _ _ _ _).symm
  | k + 1, hk => by
    have e := mvL_row l (rf := rf) h k (by omega)
    have hl := mvL_len l rf h k
    have hg : rowf l ((rf : Int) + 1 + (k : Nat)) = l.getD (rf + k) nil := by rw [rowf_in (by omega) (by omega)]; congr 1; omega
    rw [show ((k + 1 : Nat) : Int) = (k : Int) + 1 by omega, ← mvF_step (rowf l) (rowf l) ((rf : Int) + 1) ((rp : Int) + 1) (n := (k : Int)) (by omega), ← e, hg]
    rw [mvL]
    split
    · rename_i q
      have : (mvL l rf rp k).length = rp + k := by omega
      rw [← rowf_snoc, this, show (rp : Int) + 1 + (k : Int) = ((rp + k : Nat) : Int) + 1 by omega]
    · rename_i q
      rw [← rowf_set _ _ _ (by omega), show (rp : Int) + 1 + (k : Int) = ((rp + k : Nat) : Int) + 1 by omega]
theorem mvL_gl {l : List V} (g : Gl l) {rf rp : Nat} : ∀ k, rf + k ≤ l.length → Gl (mvL l rf rp k)
  | 0, _ => g
  | k + 1, hk => by
    have ih := mvL_gl g (rf := rf) (rp := rp) k (by omega)
    have hx : Gv (l.getD (rf + k) nil) := g _ (getD_mem (by omega))
    intro x hx'
    rw [mvL] at hx'
    split at hx'
    · rcases List.mem_append.1 hx' with z | z
      · exact ih x z
      · rw [List.mem_singleton.1 z]; exact hx
    · rcases List.mem_or_eq_of_mem_set hx' with z | z
      · exact ih x z
      · rw [z]; exact hx
theorem RK.made {w wx : World} {T S hb c K : Nat} {l m : List V} {v : Value} (h : RJ w T S hb c K l v m wx) : RK w wx.heap.size T S hb c K l v m (.slice (some ⟨wx.heap.size, 0, none⟩) 0 0) [] (wx.alloc (.cells #[] 24)) := by
  obtain ⟨No, h1, h2, h3⟩ := h.tw
  have b := Go.Proofs.YtckgoedlgecokaaGreatDoor.b1 wx (.cells #[] 24)
  have e : (wx.alloc (.cells #[] 24)).heap.size = wx.heap.size + 1 := by simp
  have h' := h.below b
  refine ⟨⟨_, h1.news b, fun g q => .inl (h2 g q), fun g q => .inl (h3 g q), fun q e' => ?_⟩, h'.lv, ⟨World.ownsRow_made wx #[] 0 (Nat.le_refl _) (Nat.zero_le _) rfl⟩, fun q e' => (h.lv.own.lt q e').2, ⟨h.bl.size, by omega⟩, h'.bl⟩
  have e'' : wx.heap.size = q := by simpa [Value.ownBlock] using e'
  exact .inr ⟨by omega, by omega⟩
theorem pos_succ {r : Nat} (h : r < 10000) : IntKind.i64.wrap (1 + (r : Int)) = (r : Int) + 1 := by rw [IntKind.wrap_i64]; omega
set_option maxRecDepth 20000 in
set_option maxHeartbeats 8000000 in
theorem moves_walk {w : World} {av : Option Addr} {cv L : Nat} {F : Nat → V} (hv : Vin w av L F) (hL : L ≤ 9223372036854775807) (xf xe xp : Int) :
    Calls Tryz.prog 5 #[.agg #[.slice av L cv, .int .i64 xf, .int .i64 xe, .int .i64 xp]] w fun e w' => e = .returned (.bool true) ∧ Below w.heap.size w w' := by
  have B0 := b1 w (.cells #[.slice av L cv, .int .i64 xf, .int .i64 xe, .int .i64 xp] 49)
  have c0 : (w.alloc (.cells #[.slice av L cv, .int .i64 xf, .int .i64 xe, .int .i64 xp] 49)).heap[w.heap.size]? = some (.cells #[.slice av L cv, .int .i64 xf, .int .i64 xe, .int .i64 xp] 49) := (MapKept.heap_alloc w _).1
  obtain ⟨W0, hW0⟩ : ∃ W0, w.alloc (.cells #[.slice av L cv, .int .i64 xf, .int .i64 xe, .int .i64 xp] 49) = W0 := ⟨_, rfl⟩
  rw [hW0] at B0 c0
  have hz0 : w.heap.size < W0.heap.size := by rw [← hW0]; simp
  have CF := fixed_any W0
  have HV : Hid (Vin W0 av L F ∧ Below w.heap.size w W0) := ⟨hv.below B0, B0⟩
  have HC : Hid (∀ W, Below W0.heap.size W0 W → W.cell? ⟨w.heap.size, 0, none⟩ = some (.slice av L cv) ∧ W.cell? ⟨w.heap.size, 1, none⟩ = some (.int .i64 xf) ∧ W.cell? ⟨w.heap.size, 2, none⟩ = some (.int .i64 xe) ∧ W.cell? ⟨w.heap.size, 3, none⟩ = some (.int .i64 xp)) := fun W b => ⟨(b.cell (p := ⟨w.heap.size, 0, none⟩) hz0).trans (cell_of_row c0 0), (b.cell (p := ⟨w.heap.size, 1, none⟩) hz0).trans (cell_of_row c0 1), (b.cell (p := ⟨w.heap.size, 2, none⟩) hz0).trans (cell_of_row c0 2), (b.cell (p := ⟨w.heap.size, 3, none⟩) hz0).trans (cell_of_row c0 3)⟩
  clear hv B0 c0 hz0
  go_enter Tryz.func5, Tryz.ntmps5
  go_wp2_with fail
  refine CF.mono ?_
  rintro e w1 ⟨rfl, b1⟩
  have C1 := row_walk (cap := cv) (HV.out.1.below b1.drew) hL
  have HB1 : Hid (Below W0.heap.size W0 w1) := b1
  have c1 := (HC.out _ b1.drew).2.1
  have c2 := (HC.out _ b1.drew).2.2.1
  have c3 := (HC.out _ b1.drew).2.2.2
  have c0 := (HC.out _ b1.drew).1
  clear CF b1
  go_wp2_with fail
  go_region
  clear c1 c2 c3
  go_wp2_with fail
  refine C1.mono ?_
  rintro e w2 ⟨T, v, rfl, R1⟩
  have RR := RJ.of R1 HB1.out.drew
  obtain ⟨l, hl⟩ : ∃ l, rwq F L = l := ⟨_, rfl⟩
  have HG : Hid (Gl l ∧ l.length ≤ 100) := ⟨by rw [← hl]; exact rwq_gl F L, by rw [← hl]; exact rwq_len F L⟩
  rw [hl] at RR
  obtain ⟨n, hn⟩ : ∃ n, l.length = n := ⟨_, rfl⟩
  have HN : Hid (l.length = n) := hn
  have hn100 : n ≤ 100 := by rw [← hn]; exact HG.out.2
  obtain ⟨a1, q1, rfl⟩ := RR.form
  rw [hn] at RR ⊢
  have HR : Hid (RJ W0 T (w1.heap.size + 1) w1.heap.size (10 + 137 * n) 200 l (.slice a1 n q1) l w2) := RR
  clear C1 R1 RR hl hn HC c0
  by_cases h0 : n = 0
  · have HB2 : Hid (Below w.heap.size w w2) := HV.out.2.trans (HR.out.bl.mono HV.out.2.size)
    subst h0
    go_wp2
    go_ret
    exact ⟨rfl, HB2.out⟩
  · have n0 : ((n : Int) == 0) = false := by simp; omega
    have n0' : ¬ (n : Int) = 0 := by omega
    have n0'' : (n == 0) = false := by simp; omega
    have hp0 : 0 < n := by omega
    have hp1 : n ≤ 10000 := by omega
    obtain ⟨U1, rf, u1, un, u2, u3, u4, u5, hrf⟩ := pos_facts xf n hp0 hp1
    obtain ⟨U2, re, v1, _, v2, v3, v4, v5, hre⟩ := pos_facts xe n hp0 hp1
    obtain ⟨U3, rp, z1, _, z2, z3, z4, z5, hrp⟩ := pos_facts xp n hp0 hp1
    have wf := pos_succ (Nat.lt_of_lt_of_le hrf hp1)
    have we := pos_succ (Nat.lt_of_lt_of_le hre hp1)
    have wp := pos_succ (Nat.lt_of_lt_of_le hrp hp1)
    clear hp0 hp1
    go_wp2_with fail
    go_region
    clear u1 un u2 u3 u4 u5 v1 v2 v3 v4 v5 z1 z2 z3 z4 z5 wf we wp
    by_cases hfe : re < rf
    · have C2 := move_none T T ((rf : Int) + 1) ((re : Int) + 1) ((rp : Int) + 1) 1000 (by omega) (by omega) w2.drew
      have g1 : (re : Int) + 1 < (rf : Int) + 1 := by omega
      have g2 : re < rf := hfe
      have R2 := HR.out.drew
      have C3 := R2.run fun No hq t => is_row (l := l) t HG.out.1 (by omega) (by rw [HN.out]; omega) W0.heap.size a1 q1 (by rw [HN.out]; have := R2.lv; rw [HN.out] at this; exact this) (fun y e => hq y (by rw [HN.out] at e; exact e))
      rw [HN.out] at C3
      have HB2 : Hid (Below w.heap.size w W0) := HV.out.2
      clear R2 HR
      go_wp2_with fail
      refine C2.mono ?_
      rintro e w3 ⟨rfl, rfl⟩
      clear C2
      go_wp2_with fail
      refine C3.mono ?_
      rintro e w4 ⟨rfl, R4⟩
      have HB4 : Hid (Below w.heap.size w w4) := HB2.out.trans (R4.bl.mono HB2.out.size)
      clear C3 R4
      go_wp2
      go_ret
      exact ⟨rfl, HB4.out⟩
    · obtain ⟨m, hm⟩ : ∃ m, re = rf + m := ⟨re - rf, by omega⟩
      have HM : Hid (re = rf + m) := hm
      have R2 := HR.out.drew
      have C2 := R2.run (l2 := mvL l rf rp (m + 1)) fun No hq t => by
        have hl := HN.out
        have e := mvL_row l (rf := rf) (rp := rp) (by omega) (m + 1) (by omega)
        rw [show ((m + 1 : Nat) : Int) = (m : Int) + 1 by omega] at e
        have hM : MN ((rf : Int) + 1) ((re : Int) + 1) ((rp : Int) + 1) m := ⟨⟨by omega, by omega⟩, ⟨by omega, by omega⟩, by omega, ⟨by omega, by omega⟩⟩
        rw [e]
        by_cases hd : rf < rp ∧ rp ≤ re
        · exact move_down t (by omega) ((rf : Int) + 1) ((re : Int) + 1) ((rp : Int) + 1) m hM ⟨by omega, by omega⟩ ⟨by omega, by omega⟩ 1000 (by omega) (by omega)
        · exact move_up t (by omega) ((rf : Int) + 1) ((re : Int) + 1) ((rp : Int) + 1) m hM (by omega) ⟨by omega, by omega⟩ 1000 (by omega) (by omega)
      rw [show (m : Int) + 1 = (re : Int) - rf + 1 by omega] at C2
      have g1 : ¬ (re : Int) + 1 < (rf : Int) + 1 := by omega
      have g2 : ¬ re < rf := hfe
      have HB0 : Hid (Below w.heap.size w W0) := HV.out.2
      clear R2 HR hm HV HB1
      go_wp2_with fail
      refine C2.mono ?_
      rintro e w3 ⟨rfl, R3⟩
      have K3 := RK.made R3
      obtain ⟨a5, q5, w5, hr5, K5⟩ := K3.apps K3.src (by rw [HN.out]; show 0 + _ ≤ _; omega)
      rw [HN.out, List.length_nil, Nat.zero_add] at hr5 K5
      rw [List.nil_append] at K5
      have HI : Hid (RK W0 w3.heap.size T (w1.heap.size + 1) w1.heap.size (10 + 137 * n + 9000) 200 (mvL l rf rp (m + 1)) (.slice a1 n q1) l (.slice a5 n q5) (mvL l rf rp 0) w5) := K5
      clear C2 R3 K3 K5
      go_wp2_with (at_builtin; refine wp_app rfl _ _ 22 rfl 22 rfl _ _ rfl rfl hr5 ?_)
      clear hr5
      go_loopw [12, 13] (fun uv iv wx => ∃ j nn : Nat, ∃ a q, iv = .int .i64 ((j : Nat) + 1) ∧ uv = .slice a nn q ∧ rf ≤ j ∧ j ≤ re + 1 ∧ Hid ((mvL l rf rp (j - rf)).length = nn ∧ RK W0 w3.heap.size T (w1.heap.size + 1) w1.heap.size (10 + 137 * n + 9000) 200 (mvL l rf rp (m + 1)) (.slice a1 n q1) l (.slice a nn q) (mvL l rf rp (j - rf)) wx)) (fun _ iv _ => (re + 2 - intOf iv).toNat)
      case atStart => exact ⟨rf, n, a5, q5, by go_num, rfl, Nat.le_refl _, by omega, by rw [Nat.sub_self]; exact HN.out, by rw [Nat.sub_self]; exact HI.out⟩
      case round =>
        clear HI
        obtain ⟨j, nn, a, q, rfl, rfl, hj1, hj2, HI⟩ := hrel
        have hnn : nn = max n (rp + (j - rf)) := by have := mvL_len l rf (rp := rp) (by have := HN.out; omega) (j - rf); rw [HI.out.1, HN.out] at this; exact this
        by_cases hlt : j ≤ re
        · have h1 : (j : Int) + 1 ≤ (re : Int) + 1 := by omega
          have h1' : j ≤ re := hlt
          obtain ⟨t, ht⟩ : ∃ t, t = rp + (j - rf) := ⟨_, rfl⟩
          have hnn3 : nn ≤ 300 := by omega
          have x1 : IntKind.i64.wrap ((rp : Int) + 1 + ((j : Int) + 1)) = (rp : Int) + 1 + ((j : Int) + 1) := by rw [IntKind.wrap_i64]; omega
          have x2 : IntKind.i64.wrap ((rp : Int) + 1 + ((j : Int) + 1) - ((rf : Int) + 1)) = (t : Int) + 1 := by rw [IntKind.wrap_i64]; omega
          have x3 : IntKind.i64.wrap ((t : Int) + 1 - 1) = (t : Int) := by rw [IntKind.wrap_i64]; omega
          have x4 : IntKind.i64.wrap ((j : Int) + 1 - 1) = (j : Int) := by rw [IntKind.wrap_i64]; omega
          have x5 : IntKind.i64.wrap ((j : Int) + 1 + 1) = (j : Int) + 1 + 1 := by rw [IntKind.wrap_i64]; omega
          have hjn : j < n := by omega
          have hjn' : (j : Int) < (n : Int) := by omega
          obtain ⟨x, hx⟩ : ∃ x, l.getD j nil = x := ⟨_, rfl⟩
          have HX : Hid (∀ y, y = l.getD (rf + (j - rf)) nil → y = x) := fun y e => by rw [e, ← hx]; congr 1; omega
          obtain ⟨g, rfl, lg, u0, u1, u2⟩ := HI.out.2.at (i := j) (by rw [HN.out]; exact hjn)
          rw [hx] at u0 u1 u2
          clear hx
          by_cases hap : nn ≤ t
          · have y1 : (nn : Int) < (t : Int) + 1 := by omega
            have y2 : nn ≤ t := hap
            have K6 := HI.out.2.below (Go.Proofs.YtckgoedlgecokaaGreatDoor.b1 wr (.cells #[.int .i64 x.1, .int .i64 x.2.1, .string x.2.2] 24))
            obtain ⟨a7, q7, w7, hr7, K7⟩ := K6.apps (sv_box (Bx.made wr x)) (by rw [HI.out.1]; show _ + 1 ≤ _; omega)
            rw [HI.out.1] at hr7 K7
            have HN7 : Hid ((mvL l rf rp (j + 1 - rf)).length = nn + 1 ∧ RK W0 w3.heap.size T (w1.heap.size + 1) w1.heap.size (10 + 137 * n + 9000) 200 (mvL l rf rp (m + 1)) (.slice (some ⟨g, 0, none⟩) n q1) l (.slice a7 (nn + 1) q7) (mvL l rf rp (j + 1 - rf)) w7) := by
              have e : mvL l rf rp (j + 1 - rf) = mvL l rf rp (j - rf) ++ [x] := by
                rw [show j + 1 - rf = (j - rf) + 1 by omega, mvL, if_pos (by rw [HI.out.1]; omega), HX.out _ rfl]
              rw [e]
              exact ⟨by rw [List.length_append, HI.out.1]; rfl, K7⟩
            clear K6 K7 HI lg hnn ht
            go_wp2_with (at_builtin; refine wp_app rfl _ _ 22 rfl 22 rfl _ _ rfl rfl hr7 ?_)
            clear hr7
            go_roundw
            case rel => exact ⟨j + 1, nn + 1, a7, q7, by go_num, rfl, by omega, by omega, HN7⟩
            case measure => first | omega | (simp only [intOf]; omega) | (simp; omega)
          · have y1 : ¬ (nn : Int) < (t : Int) + 1 := by omega
            have y2 : ¬ nn ≤ t := hap
            have y3 : t < nn := by omega
            have y4 : (t : Int) < (nn : Int) := by omega
            obtain ⟨g2, rfl, fz, ⟨y, s0, s1, s2⟩, K7⟩ := HI.out.2.set (i := t) (by rw [HI.out.1]; exact y3) x
            have f0 := fz (t * 3)
            have f1 := fz (t * 3 + 1)
            have f2 := fz (t * 3 + 2)
            have HN7 : Hid ((mvL l rf rp (j + 1 - rf)).length = nn ∧ RK W0 w3.heap.size T (w1.heap.size + 1) w1.heap.size (10 + 137 * n + 9000) 200 (mvL l rf rp (m + 1)) (.slice (some ⟨g, 0, none⟩) n q1) l (.slice (some ⟨g2, 0, none⟩) nn q) (mvL l rf rp (j + 1 - rf)) (((wr.setCell ⟨g2, t * 3, none⟩ (.int .i64 x.1)).setCell ⟨g2, t * 3 + 1, none⟩ (.int .i64 x.2.1)).setCell ⟨g2, t * 3 + 2, none⟩ (.string x.2.2))) := by
              have e : mvL l rf rp (j + 1 - rf) = (mvL l rf rp (j - rf)).set t x := by
                rw [show j + 1 - rf = (j - rf) + 1 by omega, mvL, if_neg (by rw [HI.out.1]; omega), HX.out _ rfl, ht]
              rw [e]
              exact ⟨by rw [List.length_set]; exact HI.out.1, K7⟩
            clear K7 HI lg hnn ht fz
            go_wp2
            go_roundw
            case rel => exact ⟨j + 1, nn, some ⟨g2, 0, none⟩, q, by go_num, rfl, by omega, by omega, HN7⟩
            case measure => first | omega | (simp only [intOf]; omega) | (simp; omega)
        · have h1 : ¬ (j : Int) + 1 ≤ (re : Int) + 1 := by omega
          have h1' : ¬ j ≤ re := hlt
          have w1' : IntKind.i64.wrap ((re : Int) + 1 - ((rf : Int) + 1)) = (re : Int) - rf := by rw [IntKind.wrap_i64]; omega
          have w2' : IntKind.i64.wrap ((re : Int) - rf + 1) = (re : Int) - rf + 1 := by rw [IntKind.wrap_i64]; omega
          have ej : j - rf = m + 1 := by have := HM.out; omega
          have HK : Hid ((mvL l rf rp (m + 1)).length = nn ∧ RK W0 w3.heap.size T (w1.heap.size + 1) w1.heap.size (10 + 137 * n + 9000) 200 (mvL l rf rp (m + 1)) (.slice a1 n q1) l (.slice a nn q) (mvL l rf rp (m + 1)) wr) := by
            rw [← ej] at ⊢
            exact ⟨HI.out.1, by rw [ej]; rw [ej] at HI; exact HI.out.2⟩
          have C6 := HK.out.2.run fun No hq1 hq t => is_row (l := mvL l rf rp (m + 1)) t (mvL_gl HG.out.1 (m + 1) (by have := HN.out; have := HM.out; omega)) (by omega) (by rw [HK.out.1]; omega) w3.heap.size a q (by rw [HK.out.1]; have := HK.out.2.lu; rw [HK.out.1] at this; exact this) (fun y e => hq y (by rw [HK.out.1] at e; exact e))
          rw [HK.out.1] at C6
          clear HI HK ej hnn
          go_wp2_with fail
          refine C6.mono ?_
          rintro e w6 ⟨rfl, K6⟩
          have HB6 : Hid (Below w.heap.size w w6) := HB0.out.trans (K6.bl.mono HB0.out.size)
          clear C6 K6
          go_wp2
          go_ret
          exact ⟨rfl, HB6.out⟩
end Go.Proofs.YtckgoedlgecokaaGreatDoor
