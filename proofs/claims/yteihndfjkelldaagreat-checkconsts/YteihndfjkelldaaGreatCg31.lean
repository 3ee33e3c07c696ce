/- The walk of the reference's Format (words): digit by digit from the last one, then turned round. -/
import Derived.Test.YteihndfjkelldaaGreatCg18
import Derived.Test.YteihndfjkelldaaGreatCg20
import Derived.Laws.BytesArg
import Derived.BigRegion
import Derived.Test.YteihndfjkelldaaGreatCg30
import Derived.Test.YteihndfjkelldaaGreatCg23
import Derived.Test.YteihndfjkelldaaGreatCg16
namespace Go.Proofs.YteihndfjkelldaaGreat.W
open Go.RowKit
def itoaS (n : Int) : ByteArray := ⟨(Lib.itoa n).toArray⟩
theorem digs_unfold (u : Nat) : Lib.decDigits u = if u < 10 then [UInt8.ofNat (48 + u)] else Lib.decDigits (u / 10) ++ [UInt8.ofNat (48 + u % 10)] := by
  rw [Lib.decDigits]; simp
theorem digs_ne (u : Nat) : (Lib.decDigits u).isEmpty = false := by
  rw [digs_unfold]; split <;> simp
/-- The digits from the last one on; none for nought. -/
def rdg (u : Nat) : List UInt8 := if u = 0 then [] else (Lib.decDigits u).reverse
theorem rdg_step (u : Nat) (h : u ≠ 0) : rdg u = UInt8.ofNat (48 + u % 10) :: rdg (u / 10) := by
  unfold rdg
  rw [if_neg h, digs_unfold]
  by_cases h10 : u < 10
  · rw [if_pos h10, if_pos (by omega)]
    have : u % 10 = u := by omega
    rw [this]; rfl
  · rw [if_neg h10, if_neg (by omega)]
    simp
theorem digs_len10 (k : Nat) : ∀ u, u < 10 ^ (k + 1) → (Lib.decDigits u).length ≤ k + 1 := by
  induction k with
  | zero =>
    intro u hu
    rw [digs_unfold, if_pos (by simpa using hu)]; simp
  | succ k ih =>
    intro u hu
    rw [digs_unfold]
    split
    · simp
    · have := ih (u / 10) (by rw [Nat.pow_succ] at hu; omega)
      simp only [List.length_append, List.length_cons, List.length_nil]
      omega
theorem rdg_len (u : Nat) (h : u ≤ 9223372036854775808) : (rdg u).length ≤ 19 := by
  unfold rdg
  split
  · simp
  · have := digs_len10 18 u (by omega)
    simpa using this
theorem digV (d : Nat) (h : d < 10) : Value.int .u8 (48 + (d : Int)) = byteV (UInt8.ofNat (48 + d)) := by
  unfold byteV
  have : (UInt8.ofNat (48 + d)).toNat = 48 + d := by simp; omega
  rw [this]; rfl
theorem sw_zero (l : List UInt8) (p : Nat) (h : p < l.length) : sw l 0 p = l.getD p 0 := by unfold sw; rw [if_neg (by omega)]
theorem sw_mid (l : List UInt8) (k p : Nat) (h : k ≤ p ∧ p < l.length - k) : sw l k p = l.getD p 0 := by unfold sw; rw [if_neg (by omega)]
theorem sw_lo (l : List UInt8) (k : Nat) (_h : k < l.length / 2) : sw l (k + 1) k = l.getD (l.length - 1 - k) 0 := by unfold sw; rw [if_pos (by omega)]
theorem sw_hi (l : List UInt8) (k : Nat) (h : k < l.length / 2) : sw l (k + 1) (l.length - 1 - k) = l.getD k 0 := by
  unfold sw; rw [if_pos (by omega)]; congr 1; omega
theorem sw_else (l : List UInt8) (k p : Nat) (h1 : p ≠ k) (h2 : p ≠ l.length - 1 - k) (h : p < l.length) : sw l (k + 1) p = sw l k p := by
  unfold sw
  by_cases hc : p < k ∨ l.length - k ≤ p
  · rw [if_pos hc, if_pos (by omega)]
  · rw [if_neg hc, if_neg (by omega)]
theorem sw_end (l : List UInt8) (k p : Nat) (h : ¬ k < l.length / 2) (hp : p < l.length) : sw l k p = l.getD (l.length - 1 - p) 0 := by
  unfold sw
  by_cases hc : p < k ∨ l.length - k ≤ p
  · rw [if_pos hc]
  · rw [if_neg hc]; congr 1; omega
theorem sw_rev (l : List UInt8) (k : Nat) (h : ¬ k < l.length / 2) : (List.range l.length).map (sw l k) = l.reverse := by
  apply List.ext_getElem
  · simp
  · intro i hi hj
    simp only [List.length_map, List.length_range] at hi
    simp only [List.getElem_map, List.getElem_range, List.getElem_reverse]
    rw [sw_end l k i h hi]
    simp [List.getD, List.getElem?_eq_getElem (show l.length - 1 - i < l.length by omega)]
theorem bytes_step {B g : Nat} {w W W' : World} {l : List UInt8} {k : Nat} (h : Bytes B g w W l k) (hk : k < l.length / 2)
    (hW : W' = ((W.setCell ⟨g, k, none⟩ (byteV (l.getD (l.length - 1 - k) 0))).setCell ⟨g, l.length - 1 - k, none⟩ (byteV (l.getD k 0))).drew) : Bytes B g w W' l (k + 1) where
  cell p hp := by
    subst hW
    show ((W.setCell _ _).setCell _ _).cell? _ = _
    have c1 := h.cell k (by omega)
    have c2 := h.cell (l.length - 1 - k) (by omega)
    by_cases e2 : p = l.length - 1 - k
    · subst e2
      rw [sw_hi l k hk]
      exact World.cell?_setCell_same _ _ _ (by rw [World.cell?_setCell_other _ _ _ _ (fun q => by injection q with _ q2; omega)]; exact c2)
    · rw [World.cell?_setCell_other _ _ _ _ (fun q => by injection q with _ q2; omega)]
      by_cases e1 : p = k
      · subst e1
        rw [sw_lo l p hk]
        exact World.cell?_setCell_same _ _ _ c1
      · rw [World.cell?_setCell_other _ _ _ _ (fun q => by injection q with _ q2; omega), sw_else l k p e1 e2 hp]
        exact h.cell p hp
  free p hp := by
    subst hW
    show ((W.setCell _ _).setCell _ _).frozen? _ = _
    rw [World.frozen?_setCell, World.frozen?_setCell]
    exact h.free p hp
  below := by
    subst hW
    exact ((h.below.setCell (by exact h.low) _).setCell (by exact h.low) _).drew
  low := h.low
theorem bytes_of_row {B : Nat} {w W : World} {v : Value} {l : List UInt8} (h : W.ownsRow B 5 1 v l.length (l.map byteV)) (hb : Below B w W) (hl : l.length ≠ 0) :
    ∃ g cap, v = .slice (some ⟨g, 0, none⟩) l.length cap ∧ Bytes B g w W l 0 := by
  have hcs := fun g => h.cells (g := g)
  rcases h.2 with ⟨_, hz⟩ | ⟨g, cap, cur, rfl, h2, h3, h4, h5, h6, h7⟩
  · exact absurd hz hl
  · refine ⟨g, cap, rfl, ⟨fun p hp => ?_, fun p hp => ?_, hb, h2⟩⟩
    · rw [sw_zero l p hp]
      have := hcs g rfl p (byteV (l.getD p 0)) (by simp [List.getD, List.getElem?_eq_getElem hp])
      by_cases hp0 : p = 0
      · subst hp0; simpa [Addr.add] using this
      · simpa [Addr.add, hp0] using this
    · unfold World.frozen?; rw [h3]; simp
set_option maxRecDepth 20000 in
theorem conv_bytes {B g : Nat} {w W : World} {l : List UInt8} {k cap : Nat} (h : Bytes B g w W l k) (hk : ¬ k < l.length / 2) :
    (convert 42 9 (.slice (some ⟨g, 0, none⟩) l.length cap)).run Tryz.prog W = .ok (.string ⟨l.reverse.toArray⟩) W := by
  have hr := run_convert_bytes_arg (P := Tryz.prog) W 42 5 Tryz.underlying42 Tryz.underlying5 g 0 l.length cap ((List.range l.length).map fun p => ((sw l k p).toNat : Int)) (by simp) (fun i hi => by
    rw [Nat.zero_add, h.cell i hi]
    simp [byteV, List.getD, hi]) 9 Tryz.underlying9
  rw [hr]
  congr 2
  have e : (List.range l.length).map (sw l k) = l.reverse := sw_rev l k hk
  unfold strOfNums
  rw [← e]
  congr 1
  rw [List.map_map]
  congr 1
  apply List.map_congr_left
  intro p _
  simp
theorem ret_s {a b : ByteArray} (h : a = b) : Ending.returned (.string a) = .returned (.string b) := by rw [h]
set_option maxRecDepth 20000 in
set_option maxHeartbeats 4000000 in
theorem rfmt_pos (n : Int) (w : World) (h0 : 0 < n) (h1 : n ≤ 9223372036854775807) : Calls Tryz.prog 5 #[.int .i64 n] w fun e w' => e = .returned (.string (itoaS n)) ∧ Below w.heap.size w w' := by
  obtain ⟨i0, hi, hz0, hz1, hz2⟩ := info_parts Tryz.info5
  have hn0 : (n == 0) = false := by simp; omega
  have HL : Hid _ := rdg_len n.natAbs (by omega)
  have H1 : Hid _ := h1
  clear h1
  go_enter Tryz.func5, Tryz.ntmps5
  go_wp2
  go_loopw [3, 4] (fun v i wr => ∃ (m : Int) (ds : List UInt8), i = .int .i64 m ∧ 0 ≤ m ∧ m ≤ 9223372036854775807 ∧ Hid (rdg n.natAbs = ds ++ rdg m.natAbs) ∧ wr.ownsRow w.heap.size 5 1 v ds.length (ds.map byteV) ∧ Below w.heap.size w wr) (fun _ i _ => (intOf i).natAbs)
  case atStart => exact ⟨n, [], rfl, by omega, H1.out, rfl, World.ownsRow_nil _ _ _ _, Below.refl _ _⟩
  case round =>
    obtain ⟨m, ds, rfl, hm0, hm1, HR, hown, hbw⟩ := hrel
    by_cases hz : m = 0
    · subst hz
      have HR2 : Hid (rdg n.natAbs = ds) := by
        have := HR.out
        have e : rdg (Int.natAbs 0) = [] := rfl
        rw [e, List.append_nil] at this
        exact this
      have HD : Hid (ds.reverse = Lib.decDigits n.toNat) := by
        show _ = _
        rw [← HR2.out]
        unfold rdg
        rw [if_neg (by omega), List.reverse_reverse]
        congr 1; omega
      have hl0 : ds.length ≠ 0 := by
        have h2 := congrArg List.length HD.out
        have h3 := digs_ne n.toNat
        simp only [List.length_reverse] at h2
        intro h4
        rw [h4] at h2
        have := List.eq_nil_of_length_eq_zero h2.symm
        rw [this] at h3; simp at h3
      have hlen : ds.length ≤ 19 := by have h3 := HL.out; rw [HR2.out] at h3; exact h3
      obtain ⟨g, cap, rfl, hB⟩ := bytes_of_row hown hbw hl0
      clear hown hbw HR
      go_wp2
      go_loopw [6] (fun i wr2 => ∃ k : Nat, i = .int .i64 k ∧ k ≤ ds.length / 2 ∧ Bytes w.heap.size g w wr2 ds k) (fun i _ => ds.length / 2 - (intOf i).toNat)
      case atStart => exact ⟨0, rfl, by omega, hB⟩
      case round =>
        clear hB
        obtain ⟨k, rfl, hk, hB⟩ := hrel
        by_cases hlt : k < ds.length / 2
        · have hlt' : (k : Int) < (ds.length : Int) / 2 := by omega
          have c1 := hB.cell k (by omega)
          have c2 := hB.cell (ds.length - 1 - k) (by omega)
          rw [sw_mid _ _ _ (by omega)] at c1 c2
          have f1 := hB.free k (by omega)
          have f2 := hB.free (ds.length - 1 - k) (by omega)
          unfold byteV at c1 c2
          have q1 : (0 : Int) ≤ (ds.length : Int) - 1 - (k : Int) := by omega
          have q2 : (ds.length : Int) - 1 - (k : Int) < (ds.length : Int) := by omega
          have q3 : ((ds.length : Int) - 1 - (k : Int)).toNat = ds.length - 1 - k := by omega
          have q4 : (k : Int) < (ds.length : Int) := by omega
          go_wp2
          go_region
          go_wp2
          go_roundw
          case rel => exact ⟨k + 1, by go_num, by omega, bytes_step hB hlt rfl⟩
          case measure => simp [intOf]; omega
        · have hlt' : ¬ (k : Int) < (ds.length : Int) / 2 := by omega
          have hcv := conv_bytes (cap := cap) hB hlt
          go_wp2
          go_ret
          exact ⟨ret_s (by rw [HD.out, itoaS, Lib.itoa, if_neg (by omega)]), hB.below⟩
    · have hz' : (m == 0) = false := by simpa using hz
      have hz'' : (m != 0) = true := by simpa using hz
      obtain ⟨u, rfl⟩ : ∃ u : Nat, m = u := ⟨m.toNat, by omega⟩
      obtain ⟨c, hc⟩ : ∃ c, UInt8.ofNat (48 + u % 10) = c := ⟨_, rfl⟩
      have hR2 := rdg_step u (by omega)
      have HR2 : Hid (rdg n.natAbs = (ds ++ [c]) ++ rdg (u / 10)) := by
        have := HR.out
        simp only [Int.natAbs_natCast] at this
        rw [hR2, hc] at this
        show _ = _
        rw [this]; simp
      have hlen : ds.length ≤ 19 := by have h2 := congrArg List.length HR.out; have h3 := HL.out; simp only [List.length_append] at h2; omega
      have HV : Hid (Value.int .u8 (48 + (u : Int) % 10) = byteV c) := by
        have := digV (u % 10) (by omega)
        rw [hc] at this
        show _ = _
        rw [← this]; rfl
      clear hR2 HR hc
      obtain ⟨a0, c0, rfl⟩ := slice_shape hown
      go_wp2_with (at_builtin; refine wpList_append_own _ rfl _ _ 42 rfl w.heap.size 5 i0 (.int .u8 0) 1 1 Tryz.underlying42 hi hz0 hz1 hz2 rfl (by decide) _ _ _ rfl (hown.alloc _) ⟨wr.heap.size, 0, none⟩ 1 1 [byteV c] rfl rfl ?c1 ?c2 ?c3 ?c4 ?c5 ?_)
      case c1 =>
        intro j x hj
        match j, hj with
        | 0, hj => simp at hj; subst hj; rw [← HV.out]; simp [Addr.add]
      case c2 => intro x hx; simp at hx; subst hx; rfl
      case c3 => unfold maxLen; omega
      case c4 => omega
      case c5 => have := hbw.size; simp; omega
      intro v' w1 hown' hgrow _
      have hbw1 : Below w.heap.size w w1 := (hbw.alloc hbw.size _).grown hgrow (by have := hbw.size; simp; omega) (fun k hk => (hown.lt k hk).1)
      clear hown hgrow hbw
      go_wp2
      go_roundw
      case rel => exact ⟨_, ds ++ [c], rfl, by omega, by omega, by (show _ = _; rw [HR2.out]; congr 1), by simpa using hown', hbw1⟩
      case measure => simp [intOf]; omega
set_option maxRecDepth 20000 in
set_option maxHeartbeats 400000 in
theorem rfmt_zero (w : World) : Calls Tryz.prog 5 #[.int .i64 0] w fun e w' => e = .returned (.string (itoaS 0)) ∧ Below w.heap.size w w' := by
  have h : itoaS 0 = { data := #[48] } := by simp [itoaS, Lib.itoa, Lib.decDigits]
  rw [h]
  clear h
  go_enter Tryz.func5, Tryz.ntmps5
  go_wp2
  go_ret
  exact ⟨rfl, Below.refl _ _⟩
end Go.Proofs.YteihndfjkelldaaGreat.W

/- Names in a row, scanned (no program in it). -/
namespace Go.Proofs.YteihndfjkelldaaGreat
open Go.RowKit

theorem spn_run (f : Nat → Bool) (b : UInt8) (l : List UInt8) (hb : b.toNat < 128) (hf : f b.toNat = false) : ∀ ds : List UInt8, (∀ x ∈ ds, x.toNat < 128 ∧ f x.toNat = true) → spn f (ds ++ b :: l) = ds.length
  | [], _ => by
    refine spn_no f _ (by simp) ?_
    show f (rnL (b :: l)) = false
    rw [(asc b l hb).1]; exact hf
  | c :: ds, h => by
    have hc := h c (by simp)
    have a := asc c (ds ++ b :: l) hc.1
    have e := spn_yes f (c :: (ds ++ b :: l)) (by simp) (by rw [a.1]; exact hc.2)
    rw [a.2, List.drop_one, List.tail_cons, spn_run f b l hb hf ds fun x hx => h x (by simp [hx])] at e
    rw [List.cons_append, e, List.length_cons]; omega
theorem stp_bl (l : List UInt8) : stp (32 :: l) = .skip 1 := by
  have a := (asc 32 l (by decide)).1
  unfold stp; rw [if_pos (by rw [a]; simp)]
theorem pre45 (c : UInt8) (l : List UInt8) (h : c ≠ 45) : Lib.hasPrefix (c :: l) [45, 45] = false := by
  have h' : ((45 : UInt8) == c) = false := by simpa using fun e => h e.symm
  unfold Lib.hasPrefix
  rw [List.isPrefixOf_cons_cons, h']; rfl
theorem stp_word (c : UInt8) (ds : List UInt8) (b : UInt8) (l : List UInt8) (hb : b.toNat < 128) (hf : inNm b.toNat = false) (hc : letB c.toNat = true) (h45 : c ≠ 45) (hn : ¬ (c.toNat = 32 ∨ c.toNat = 9 ∨ c.toNat = 10 ∨ c.toNat = 13))
    (h : ∀ x ∈ c :: ds, x.toNat < 128 ∧ inNm x.toNat = true) (hl : (c :: ds).length ≤ 40) : stp (c :: ds ++ b :: l) = .tok (if wordB (c :: ds) then 2 else 1) (c :: ds) 0 (c :: ds).length := by
  have a := (asc c (ds ++ b :: l) (h c (by simp)).1).1
  have e := spn_run inNm b l hb hf (c :: ds) h
  unfold stp
  rw [e]
  rw [show rnL (c :: ds ++ b :: l) = c.toNat from a, if_neg hn, show Lib.hasPrefix (c :: ds ++ b :: l) [45, 45] = false from pre45 c _ h45, if_neg (by simp), if_pos hc, if_neg (by omega)]
  rw [List.take_left]
theorem stp_num (c : UInt8) (b : UInt8) (l : List UInt8) (hb : b.toNat < 128) (hf : inNm b.toNat = false) (h1 : 48 ≤ c.toNat) (h2 : c.toNat ≤ 57) (he : W.parE [c] = 0) : stp (c :: b :: l) = .tok 3 [c] (W.parN [c]) 1 := by
  have a := (asc c (b :: l) (by omega)).1
  have e := spn_run inNm b l hb hf [c] (by simp [inNm, digB]; omega)
  simp only [List.cons_append, List.nil_append, List.length_singleton] at e
  have h45 : c ≠ 45 := by rintro rfl; simp at h1
  have hl : letB (c.toNat : Int) = false := by simp [letB]; omega
  unfold stp
  rw [e, a, if_neg (by omega), pre45 c _ h45, if_neg (by simp), if_neg (by simp [hl]), if_pos (by simp [digB]; omega), if_neg (by simpa using he)]
  rfl
theorem stp_comma (l : List UInt8) : stp (44 :: 32 :: l) = .tok 5 [44] 0 1 := by
  have a := (asc 44 (32 :: l) (by decide)).1
  unfold stp
  rw [a, if_neg (by decide), pre45 _ _ (by decide), if_neg (by simp), if_neg (by decide), if_neg (by decide), if_neg (by decide), show sgz (44 :: 32 :: l) = 1 from rfl]
  rfl
theorem stp_is (l : List UInt8) : stp (61 :: 32 :: l) = .tok 5 [61] 0 1 := by
  have a := (asc 61 (32 :: l) (by decide)).1
  unfold stp
  rw [a, if_neg (by decide), pre45 _ _ (by decide), if_neg (by simp), if_neg (by decide), if_neg (by decide), if_neg (by decide), show sgz (61 :: 32 :: l) = 1 from rfl]
  rfl
theorem scn_blank (l : List UInt8) (p : Nat) (acc : List Tok) : scn (32 :: l) p acc = scn l (p + 1) acc := scn_skip (by simp) (stp_bl l) p acc
theorem scn_comma (l : List UInt8) (p : Nat) (acc : List Tok) : scn (44 :: 32 :: l) p acc = scn l (p + 2) (acc ++ [⟨5, [44], 0, p⟩]) := by
  rw [scn_tok (by simp) (stp_comma l)]; exact scn_blank l (p + 1) _
theorem scn_is (l : List UInt8) (p : Nat) (acc : List Tok) : scn (61 :: 32 :: l) p acc = scn l (p + 2) (acc ++ [⟨5, [61], 0, p⟩]) := by
  rw [scn_tok (by simp) (stp_is l)]; exact scn_blank l (p + 1) _
theorem scn_word {c : UInt8} {ds : List UInt8} {b : UInt8} {l : List UInt8} (k : Int) (hk : (if wordB (c :: ds) then (2 : Int) else 1) = k) (hb : b.toNat < 128) (hf : inNm b.toNat = false) (hc : letB c.toNat = true) (h45 : c ≠ 45) (hn : ¬ (c.toNat = 32 ∨ c.toNat = 9 ∨ c.toNat = 10 ∨ c.toNat = 13))
    (h : ∀ x ∈ c :: ds, x.toNat < 128 ∧ inNm x.toNat = true) (hl : (c :: ds).length ≤ 40) (p : Nat) (acc : List Tok) : scn (c :: ds ++ b :: l) p acc = scn (b :: l) (p + (c :: ds).length) (acc ++ [⟨k, c :: ds, 0, p⟩]) := by
  rw [scn_tok (by simp) (stp_word c ds b l hb hf hc h45 hn h hl), hk, List.drop_left]
theorem scn_num (c : UInt8) (b : UInt8) (l : List UInt8) (v : Int) (hv : W.parN [c] = v) (hb : b.toNat < 128) (hf : inNm b.toNat = false) (h1 : 48 ≤ c.toNat) (h2 : c.toNat ≤ 57) (he : W.parE [c] = 0) (p : Nat) (acc : List Tok) : scn (c :: b :: l) p acc = scn (b :: l) (p + 1) (acc ++ [⟨3, [c], v, p⟩]) := by
  rw [scn_tok (by simp) (stp_num c b l hb hf h1 h2 he), hv]; rfl
/-- The digits of a number below 100. -/
def dg (i : Nat) : List UInt8 := if i < 10 then [UInt8.ofNat (48 + i)] else [UInt8.ofNat (48 + i / 10), UInt8.ofNat (48 + i % 10)]
/-- Names with their numbers, a comma and a blank between. -/
def mnL (c : UInt8) : Nat → List UInt8
  | 0 => []
  | n + 1 => mnL c n ++ ((if 0 < n then [44, 32] else []) ++ c :: dg n)
/-- Their tokens. -/
def tkL (c : UInt8) (p : Nat) : Nat → List Tok
  | 0 => []
  | n + 1 => tkL c p n ++ ((if 0 < n then [⟨5, [44], 0, p + (mnL c n).length⟩] else []) ++ [⟨1, c :: dg n, 0, p + (mnL c n).length + (if 0 < n then 2 else 0)⟩])
theorem dg_fine : ∀ i ∈ List.range 50, (∀ x ∈ dg i, x.toNat < 128 ∧ inNm x.toNat = true) ∧ (dg i).length ≤ 2 ∧ wordB (97 :: dg i) = false ∧ wordB (98 :: dg i) = false ∧ kep (97 :: dg i) = false ∧ kep (98 :: dg i) = false := by decide +kernel
theorem scn_nm (c : UInt8) (hc : c = 97 ∨ c = 98) (i : Nat) (hi : i < 50) (b : UInt8) (hb : b = 44 ∨ b = 32) (l : List UInt8) (p : Nat) (acc : List Tok) :
    scn (c :: dg i ++ b :: l) p acc = scn (b :: l) (p + (c :: dg i).length) (acc ++ [⟨1, c :: dg i, 0, p⟩]) := by
  obtain ⟨h1, h2, h3, h4, _⟩ := dg_fine i (List.mem_range.2 hi)
  have hw : wordB (c :: dg i) = false := by rcases hc with rfl | rfl <;> assumption
  refine scn_word 1 (by rw [hw]; rfl) ?_ ?_ ?_ ?_ ?_ ?_ (by simp only [List.length_cons]; omega) p acc
  · rcases hb with rfl | rfl <;> decide
  · rcases hb with rfl | rfl <;> decide
  · rcases hc with rfl | rfl <;> decide
  · rcases hc with rfl | rfl <;> decide
  · rcases hc with rfl | rfl <;> decide
  · intro x hx
    rcases List.mem_cons.1 hx with rfl | hx
    · rcases hc with rfl | rfl <;> decide
    · exact h1 x hx
theorem scn_mn (c : UInt8) (hc : c = 97 ∨ c = 98) : ∀ (n : Nat), n ≤ 50 → ∀ (b : UInt8) (_ : b = 44 ∨ b = 32) (l : List UInt8) (p : Nat) (acc : List Tok),
    scn (mnL c n ++ b :: l) p acc = scn (b :: l) (p + (mnL c n).length) (acc ++ tkL c p n)
  | 0, _, b, _, l, p, acc => by simp [mnL, tkL]
  | n + 1, hn, b, hb, l, p, acc => by
    have s := fun q a => scn_nm c hc n (by omega) b hb l q a
    by_cases h0 : 0 < n
    · have ih := scn_mn c hc n (by omega) 44 (.inl rfl) (32 :: (c :: dg n ++ b :: l)) p acc
      rw [scn_comma, s] at ih
      simp only [mnL, tkL, if_pos h0, List.append_assoc, List.cons_append, List.nil_append, List.length_append, List.length_cons] at ih ⊢
      rw [ih]
      congr 1; omega
    · have e : n = 0 := by omega
      subst e
      have q := s p acc
      simp only [mnL, tkL, List.nil_append, List.length_nil, List.length_cons, Nat.lt_irrefl, if_false, Nat.add_zero, List.cons_append] at q ⊢
      exact q
end Go.Proofs.YteihndfjkelldaaGreat

/- The tokens and the tree of CheckLocals' text (no program in it). -/
namespace Go.Proofs.YteihndfjkelldaaGreat
open Go.RowKit

def kwL : List UInt8 := [108, 111, 99, 97, 108]
def kwF : List UInt8 := [102, 111, 114]
def kwD : List UInt8 := [100, 111]
def kwE : List UInt8 := [101, 110, 100]
/-- The text. -/
def txL (a b : Nat) : List UInt8 := kwL ++ 32 :: (mnL 97 a ++ 32 :: (kwF ++ 32 :: ([105] ++ 32 :: 61 :: 32 :: 49 :: 44 :: 32 :: 50 :: 32 :: (kwD ++ 32 :: (kwL ++ 32 :: (mnL 98 b ++ 32 :: kwE))))))
/-- The tokens from the loop on: it begins at q, its last names have B bytes. -/
def tk2 (q B b : Nat) : List Tok :=
  ⟨2, kwF, 0, q⟩ :: ⟨1, [105], 0, q + 4⟩ :: ⟨5, [61], 0, q + 6⟩ :: ⟨3, [49], 1, q + 8⟩ :: ⟨5, [44], 0, q + 9⟩ :: ⟨3, [50], 2, q + 11⟩ :: ⟨2, kwD, 0, q + 13⟩ :: ⟨2, kwL, 0, q + 16⟩ ::
    (tkL 98 (q + 22) b ++ [⟨2, kwE, 0, q + 23 + B⟩, ⟨6, [], 0, q + 26 + B⟩])
def tkW (a b : Nat) : List Tok := ⟨2, kwL, 0, 0⟩ :: (tkL 97 6 a ++ tk2 (7 + (mnL 97 a).length) (mnL 98 b).length b)
theorem scn_L (l : List UInt8) (p : Nat) (acc : List Tok) : scn (kwL ++ 32 :: l) p acc = scn l (p + 6) (acc ++ [⟨2, kwL, 0, p⟩]) := by
  have h := scn_word (c := 108) (ds := [111, 99, 97, 108]) (b := 32) (l := l) 2 (by decide) (by decide) (by decide) (by decide) (by decide) (by decide) (by decide) (by decide) p acc
  rw [scn_blank] at h
  exact h
theorem scn_F (l : List UInt8) (p : Nat) (acc : List Tok) : scn (kwF ++ 32 :: l) p acc = scn l (p + 4) (acc ++ [⟨2, kwF, 0, p⟩]) := by
  have h := scn_word (c := 102) (ds := [111, 114]) (b := 32) (l := l) 2 (by decide) (by decide) (by decide) (by decide) (by decide) (by decide) (by decide) (by decide) p acc
  rw [scn_blank] at h
  exact h
theorem scn_D (l : List UInt8) (p : Nat) (acc : List Tok) : scn (kwD ++ 32 :: l) p acc = scn l (p + 3) (acc ++ [⟨2, kwD, 0, p⟩]) := by
  have h := scn_word (c := 100) (ds := [111]) (b := 32) (l := l) 2 (by decide) (by decide) (by decide) (by decide) (by decide) (by decide) (by decide) (by decide) p acc
  rw [scn_blank] at h
  exact h
theorem scn_I (l : List UInt8) (p : Nat) (acc : List Tok) : scn ([105] ++ 32 :: l) p acc = scn l (p + 2) (acc ++ [⟨1, [105], 0, p⟩]) := by
  have h := scn_word (c := 105) (ds := []) (b := 32) (l := l) 1 (by decide) (by decide) (by decide) (by decide) (by decide) (by decide) (by decide) (by decide) p acc
  rw [scn_blank] at h
  exact h
theorem scn_E (p : Nat) (acc : List Tok) : scn kwE p acc = .ok (acc ++ [⟨2, kwE, 0, p⟩] ++ [⟨6, [], 0, p + 3⟩]) := by
  have h : stp kwE = .tok 2 kwE 0 3 := by rw [← stpF_eq]; kernel_rfl
  rw [scn_tok (by simp [kwE]) h, show kwE.drop 3 = [] from rfl, scn_nil]
theorem scn_1 (l : List UInt8) (p : Nat) (acc : List Tok) : scn (49 :: 44 :: l) p acc = scn (44 :: l) (p + 1) (acc ++ [⟨3, [49], 1, p⟩]) := scn_num 49 44 l 1 (by kernel_rfl) (by decide) (by decide) (by decide) (by decide) (by kernel_rfl) p acc
theorem scn_2 (l : List UInt8) (p : Nat) (acc : List Tok) : scn (50 :: 32 :: l) p acc = scn l (p + 2) (acc ++ [⟨3, [50], 2, p⟩]) := by
  rw [scn_num 50 32 l 2 (by kernel_rfl) (by decide) (by decide) (by decide) (by decide) (by kernel_rfl) p acc, scn_blank]
theorem scn_txL (a b : Nat) (ha : a ≤ 50) (hb : b ≤ 50) : scn (txL a b) 0 [] = .ok (tkW a b) := by
  unfold txL
  rw [scn_L, scn_mn 97 (.inl rfl) a ha 32 (.inr rfl), scn_blank, scn_F, scn_I, scn_is, scn_1, scn_comma, scn_2, scn_D, scn_L, scn_mn 98 (.inr rfl) b hb 32 (.inr rfl), scn_blank, scn_E]
  unfold tkW tk2
  simp only [List.nil_append, List.append_assoc, List.cons_append]
  have e1 : 0 + 6 + (mnL 97 a).length + 1 = 7 + (mnL 97 a).length := by omega
  have e2 : 7 + (mnL 97 a).length + 22 + (mnL 98 b).length + 1 = 7 + (mnL 97 a).length + 23 + (mnL 98 b).length := by omega
  have e3 : 7 + (mnL 97 a).length + 22 + (mnL 98 b).length + 1 + 3 = 7 + (mnL 97 a).length + 26 + (mnL 98 b).length := by omega
  simp only [e1, Nat.add_assoc, Nat.reduceAdd, Nat.zero_add] at e2 e3 ⊢
  rw [e2, e3]
theorem mnL_len (c : UInt8) : ∀ n, n ≤ 50 → (mnL c n).length ≤ 5 * n
  | 0, _ => by simp [mnL]
  | n + 1, h => by
    have i := mnL_len c n (by omega)
    have d := (dg_fine n (List.mem_range.2 (by omega))).2.1
    simp only [mnL, List.length_append, List.length_cons]
    split <;> simp <;> omega
theorem scT_txL (a b : Nat) (ha : a ≤ 50) (hb : b ≤ 50) : scT (txL a b) = (tkW a b, 0, 0) := by
  have l : (txL a b).length ≤ 20000 := by
    have h1 := mnL_len 97 a ha
    have h2 := mnL_len 98 b hb
    simp only [txL, kwL, kwF, kwD, kwE, List.length_append, List.length_cons, List.length_nil]
    omega
  unfold scT
  rw [if_neg (by omega), scn_txL a b ha hb]
/-- The names as a row of trees. -/
def fsL (c : UInt8) (p : Nat) : Nat → F
  | 0 => .nil
  | n + 1 => (fsL c p n).app (one 6 (c :: dg n) 0 ((p + (mnL c n).length + (if 0 < n then 2 else 0) : Nat) : Int) .nil)
theorem fsL_len (c : UInt8) (p : Nat) : ∀ n, (fsL c p n).len = n
  | 0 => rfl
  | n + 1 => by rw [fsL, F.len_app, fsL_len c p n]; rfl
theorem nam_bind (q : Int) (l : List Tok) (g : F → List Tok → PR) (K : F → List Tok → PR) : nam q l (fun f m => (g f m).bind K) = (nam q l g).bind K := by
  unfold nam; split <;> rfl
theorem pr_nms (c : UInt8) (p : Nat) : ∀ (n : Nat), 1 ≤ n → ∀ (N : Nat) (l : List Tok), nam 6 (tkL c p n ++ l) (fun f m => pr (N + n) (.nms f) m) = pr (N + 1) (.nms (fsL c p n)) l
  | 0, h, _, _ => by omega
  | 1, _, N, l => rfl
  | n + 2, _, N, l => by
    have ih := pr_nms c p (n + 1) (by omega) (N + 1) (⟨5, [44], 0, p + (mnL c (n + 1)).length⟩ :: ⟨1, c :: dg (n + 1), 0, p + (mnL c (n + 1)).length + 2⟩ :: l)
    have e1 : tkL c p (n + 2) ++ l = tkL c p (n + 1) ++ (⟨5, [44], 0, p + (mnL c (n + 1)).length⟩ :: ⟨1, c :: dg (n + 1), 0, p + (mnL c (n + 1)).length + 2⟩ :: l) := by
      rw [tkL, if_pos (by omega), if_pos (by omega)]
      simp only [List.append_assoc, List.cons_append, List.nil_append]
    have e2 : N + (n + 2) = N + 1 + (n + 1) := by omega
    rw [e1, e2, ih, pr_succ]
    rfl
theorem pr_loc (c : UInt8) (p q : Nat) (n : Nat) (hn : 1 ≤ n) (N : Nat) (l : List Tok) (h1 : hc l ≠ 15) (h2 : hc l ≠ 14) : pr (N + n + 1) .stat (⟨2, kwL, 0, q⟩ :: (tkL c p n ++ l)) = .ok (one 21 [] (n : Nat) (q : Int) (fsL c p n)) l := by
  rw [pr_succ]
  show locP (pr (N + n)) (⟨2, kwL, 0, q⟩ :: (tkL c p n ++ l)) = _
  unfold locP
  rw [nam_bind, List.tail_cons, pr_nms c p n hn, pr_succ]
  show (if hc l = 15 then _ else PR.ok (fsL c p n) l).bind _ = _
  rw [if_neg h1]
  show (if hc l = 14 then _ else _) = _
  rw [if_neg h2, fsL_len]
  rfl
end Go.Proofs.YteihndfjkelldaaGreat

/- The walk of many: so many names with commas between. -/
namespace Go.Proofs.YteihndfjkelldaaGreat
open Go.RowKit

theorem itoa_dg : ∀ i ∈ List.range 50, Lib.itoa (i : Nat) = dg i := by
  intro i hi
  have h := List.mem_range.1 hi
  unfold Lib.itoa dg
  rw [if_neg (by omega), Int.toNat_natCast, W.digs_unfold]
  split
  · rfl
  · rw [W.digs_unfold, if_pos (by omega)]; rfl
theorem fmt_any (i : Nat) (hi : i < 50) (w : World) : Calls Tryz.prog 5 #[.int .i64 (i : Nat)] w fun e w' => e = .returned (.string ⟨(dg i).toArray⟩) ∧ Below w.heap.size w w' := by
  have e : W.itoaS (i : Nat) = ⟨(dg i).toArray⟩ := by unfold W.itoaS; rw [itoa_dg i (List.mem_range.2 hi)]
  rw [← e]
  by_cases h : i = 0
  · subst h; exact W.rfmt_zero w
  · exact W.rfmt_pos i w (by omega) (by omega)
theorem ba_app (l m : List UInt8) : (⟨l.toArray⟩ : ByteArray) ++ (⟨m.toArray⟩ : ByteArray) = ⟨(l ++ m).toArray⟩ := by
  apply ByteArray.ext; simp
end Go.Proofs.YteihndfjkelldaaGreat

/- The walks of I and t2: are the constants 1 and 2? -/
namespace Go.Proofs.YteihndfjkelldaaGreat
open Go.RowKit
set_option maxRecDepth 20000 in
set_option maxHeartbeats 4000000 in
theorem I_any (n : Int) (w : World) : Calls Tryz.prog 7 #[.int .i64 n] w fun e w' => e = .returned (.agg #[.int .i64 2, .int .i64 n, .string ⟨#[]⟩]) ∧ Below w.heap.size w w' := by
  go_enter Tryz.func7, Tryz.ntmps7
  go_wp2
  refine bodyPost_ret (v := (.agg #[.int .i64 2, .int .i64 n, .string ⟨#[]⟩])) (by simp [results, Tryz.results7, go_sem]) rfl ?_
  exact ⟨rfl, (Below.refl _ w).alloc (Nat.le_refl _) _⟩
end Go.Proofs.YteihndfjkelldaaGreat

/- The tree of CheckLocals' text (no program in it). -/
namespace Go.Proofs.YteihndfjkelldaaGreat
open Go.RowKit

/-- The loop's tree: it begins at q. -/
def lpF (q b : Nat) : F :=
  one 26 [] 0 (q : Int) (.cons 6 [105] 0 ((q + 4 : Nat) : Int) .nil (.cons 4 [] 1 ((q + 8 : Nat) : Int) .nil (.cons 4 [] 2 ((q + 11 : Nat) : Int) .nil
    (one 20 [] 0 ((q + 16 : Nat) : Int) (one 21 [] (b : Nat) ((q + 16 : Nat) : Int) (fsL 98 (q + 22) b))))))
theorem nam_yes {q : Int} {l : List Tok} {k : F → List Tok → PR} (h : hc l = 51) : nam q l k = k (one q (ht l) 0 (ha l) .nil) l.tail := if_pos h
theorem need_yes {c : Nat} {l : List Tok} {k : List Tok → PR} (h : hc l = c) : need c l k = k l.tail := if_pos h
theorem bind_okL {f : F} {l : List Tok} {k : F → List Tok → PR} : (PR.ok f l).bind k = k f l := rfl
theorem pr_num (N : Nat) (v : Int) (t : List UInt8) (q : Nat) (l : List Tok) (h : bnd (hc l) = 0) : pr (N + 2) (.ex 0) (⟨3, t, v, q⟩ :: l) = .ok (one 4 [] v (q : Int) .nil) l := by
  rw [pr_succ]
  show (pr (N + 1) .opd (⟨3, t, v, q⟩ :: l)).bind (fun f l => pr (N + 1) (.exl 0 f) l) = _
  rw [pr_succ, show stp' (pr N) .opd (⟨3, t, v, q⟩ :: l) = .ok (one 4 [] v (q : Int) .nil) l from rfl]
  show pr (N + 1) (.exl 0 (one 4 [] v (q : Int) .nil)) l = _
  rw [pr_succ]
  show (if 0 < bnd (hc l) then _ else PR.ok (one 4 [] v (q : Int) .nil) l) = _
  rw [h]; rfl
theorem pr_blk (q B b : Nat) (hb : 1 ≤ b) (N : Nat) : pr (N + b + 3) (.blk false) (⟨2, kwL, 0, q⟩ :: (tkL 98 (q + 6) b ++ [⟨2, kwE, 0, B⟩, ⟨6, [], 0, B + 3⟩])) = .ok (one 20 [] 0 (q : Int) (one 21 [] (b : Nat) (q : Int) (fsL 98 (q + 6) b))) [⟨2, kwE, 0, B⟩, ⟨6, [], 0, B + 3⟩] := by
  have h := pr_loc 98 (q + 6) q b hb N [⟨2, kwE, 0, B⟩, ⟨6, [], 0, B + 3⟩] (show (4 : Nat) ≠ 15 by decide) (show (4 : Nat) ≠ 14 by decide)
  rw [pr_succ]
  show (pr (N + b + 2) (.bk false .nil) (⟨2, kwL, 0, q⟩ :: (tkL 98 (q + 6) b ++ [⟨2, kwE, 0, B⟩, ⟨6, [], 0, B + 3⟩]))).bind _ = _
  rw [pr_succ]
  show ((pr (N + b + 1) .stat (⟨2, kwL, 0, q⟩ :: (tkL 98 (q + 6) b ++ [⟨2, kwE, 0, B⟩, ⟨6, [], 0, B + 3⟩]))).bind fun f l => pr (N + b + 1) (.bk false (F.app .nil f)) l).bind _ = _
  rw [h]
  show (pr (N + b + 1) (.bk false _) _).bind _ = _
  rw [pr_succ]
  rfl
theorem pr_for (q B b : Nat) (hb : 1 ≤ b) (N : Nat) : pr (N + b + 4) .stat (tk2 q B b) = .ok (lpF q b) [⟨6, [], 0, q + 26 + B⟩] := by
  have h := pr_blk (q + 16) (q + 23 + B) b hb N
  have e : q + 23 + B + 3 = q + 26 + B := by omega
  have n1 := fun l h => pr_num (N + b + 1) 1 [49] (q + 8) l h
  have n2 := fun l h => pr_num (N + b + 1) 2 [50] (q + 11) l h
  rw [e] at h
  rw [pr_succ]
  show forP (pr (N + b + 3)) (tk2 q B b) = _
  unfold tk2 forP
  rw [nam_yes (by rfl), List.tail_cons, List.tail_cons, if_pos (by rfl), List.tail_cons]
  unfold numP
  rw [n1 _ (by rfl), bind_okL, need_yes (by rfl), List.tail_cons, n2 _ (by rfl), bind_okL, if_neg (by exact (show ¬ (7 : Nat) = 15 by decide))]
  unfold bodyP
  rw [need_yes (by rfl), List.tail_cons, h, bind_okL, need_yes (by rfl)]
  rfl
def trL (a b : Nat) : F := one 20 [] 0 0 (.cons 21 [] (a : Nat) 0 (fsL 97 6 a) (lpF (7 + (mnL 97 a).length) b))
theorem tkL_len (c : UInt8) (p : Nat) : ∀ n, n ≤ (tkL c p n).length
  | 0 => Nat.le_refl _
  | n + 1 => by have := tkL_len c p n; simp only [tkL, List.length_append, List.length_cons, List.length_nil]; omega
theorem prT_txL (a b : Nat) (ha : a ≤ 50) (hb : b ≤ 50) (ha1 : 1 ≤ a) (hb1 : 1 ≤ b) : prT (txL a b) = (trL a b, 0, 0) := by
  have hl : ∃ N, 8 * (tkW a b).length + 4 = N + a + b + 8 := by
    have h1 := tkL_len 97 6 a
    have h2 := tkL_len 98 (7 + (mnL 97 a).length + 22) b
    refine ⟨8 * (tkW a b).length + 4 - (a + b + 8), ?_⟩
    simp only [tkW, tk2, List.length_append, List.length_cons, List.length_nil]
    omega
  obtain ⟨N, hN⟩ := hl
  unfold prT
  rw [scT_txL a b ha hb]
  show outT (chk (tkW a b)) = _
  unfold chk
  rw [hN]
  have h1 := pr_loc 97 6 0 a ha1 (N + b + 5) (tk2 (7 + (mnL 97 a).length) (mnL 98 b).length b) (show (10 : Nat) ≠ 15 by decide) (show (10 : Nat) ≠ 14 by decide)
  have h2 := pr_for (7 + (mnL 97 a).length) (mnL 98 b).length b hb1 (N + a + 1)
  have e2 : N + a + 1 + b + 4 = N + a + b + 5 := by omega
  rw [e2] at h2
  have e1 : N + b + 5 + a + 1 = N + a + b + 6 := by omega
  rw [e1] at h1
  rw [pr_succ]
  show outT ((((pr (N + a + b + 7) (.bk true .nil) (tkW a b)).bind _).bind _)) = _
  rw [pr_succ]
  show outT (((((pr (N + a + b + 6) .stat (tkW a b)).bind fun f l => pr (N + a + b + 6) (.bk true (F.app .nil f)) l).bind _).bind _)) = _
  rw [show tkW a b = ⟨2, kwL, 0, 0⟩ :: (tkL 97 6 a ++ tk2 (7 + (mnL 97 a).length) (mnL 98 b).length b) from rfl, h1]
  show outT ((((pr (N + a + b + 6) (.bk true (F.app .nil (one 21 [] (a : Nat) ((0 : Nat) : Int) (fsL 97 6 a)))) (tk2 (7 + (mnL 97 a).length) (mnL 98 b).length b)).bind _).bind _)) = _
  rw [pr_succ]
  show outT (((((pr (N + a + b + 5) .stat (tk2 (7 + (mnL 97 a).length) (mnL 98 b).length b)).bind fun f l => pr (N + a + b + 5) (.bk true (F.app (F.app .nil (one 21 [] (a : Nat) ((0 : Nat) : Int) (fsL 97 6 a))) f)) l).bind _).bind _)) = _
  rw [h2, bind_okL, pr_succ]
  rfl
end Go.Proofs.YteihndfjkelldaaGreat

/- What Check tells of CheckLocals' text (no program in it). -/
namespace Go.Proofs.YteihndfjkelldaaGreat
open Go.RowKit

theorem F.app_nil : ∀ f : F, f.app .nil = f
  | .nil => rfl
  | .cons k t n p ks r => by simp only [F.app, F.app_nil r]
theorem F.take_self : ∀ (f : F), f.take f.len = f
  | .nil => rfl
  | .cons k t n p ks r => by simp only [F.len, F.take, F.take_self r]
theorem F.drop_self : ∀ (f : F), f.drop f.len = .nil
  | .nil => rfl
  | .cons k t n p ks r => by simp only [F.len, F.drop, F.drop_self r]
theorem brN_app : ∀ (f g : F) (s : Cs), brN (f.app g) s = brN g (brN f s)
  | .nil, _, _ => rfl
  | .cons _ _ _ _ _ r, g, _ => brN_app r g _
/-- The names' texts. -/
def nmL (c : UInt8) : Nat → List Tx
  | 0 => []
  | n + 1 => nmL c n ++ [c :: dg n]
theorem nmL_len (c : UInt8) : ∀ n, (nmL c n).length = n
  | 0 => rfl
  | n + 1 => by simp [nmL, nmL_len c n]
theorem brN_fs (c : UInt8) (hc : c = 97 ∨ c = 98) (p : Nat) : ∀ (n : Nat) (s : Cs), n ≤ 50 → brN (fsL c p n) s = { s with lo := s.lo ++ nmL c n }
  | 0, s, _ => by simp [fsL, brN, nmL]
  | n + 1, s, h => by
    obtain ⟨-, -, -, -, k1, k2⟩ := dg_fine n (List.mem_range.2 (by omega))
    have hk : kep (c :: dg n) = false := by rcases hc with rfl | rfl <;> assumption
    rw [fsL, brN_app, brN_fs c hc p n s (by omega)]
    simp only [one, brN, unk, hk, nmL, Bool.false_eq_true, if_false, List.append_assoc]
/-- The state within the chunk: so many slots, so many locals, these constants. -/
def sl (z : Int) (cs : List Vl) (lo : List Tx) (lp : Int) : Cs := ⟨[⟨[], 0, 0, z, cs⟩], [], 0, lo, lp, [], 0, 0⟩
theorem sl_bad (z : Int) (cs : List Vl) (lo : List Tx) (lp : Int) : (sl z cs lo lp).bad = false := rfl
theorem lim_no {p n m : Int} {s : Cs} (h : n ≤ m) : lim p n m s = s := by unfold lim; rw [if_neg (by omega)]
theorem slo_sl (z : Int) (cs : List Vl) (lo : List Tx) (lp : Int) (h : z ≤ lo.length) : slo (sl z cs lo lp) = sl lo.length cs lo lp := by
  show sl (max z (lo.length : Int)) cs lo lp = _
  rw [show max z (lo.length : Int) = lo.length by omega]
theorem bri_fs (c : UInt8) (hc : c = 97 ∨ c = 98) (p : Nat) (n : Nat) (hn : n ≤ 50) (q z : Int) (cs : List Vl) (lo : List Tx) (lp : Int) (hz : z ≤ lo.length) (h : lo.length + n ≤ 60) :
    bri q (fsL c p n) (sl z cs lo lp) = sl ((lo.length + n : Nat) : Int) cs (lo ++ nmL c n) lp := by
  have e := nmL_len c n
  unfold bri
  rw [brN_fs c hc p n _ hn]
  show slo (lim q (((lo ++ nmL c n).length : Nat) : Int) 60 (sl z cs (lo ++ nmL c n) lp)) = _
  rw [lim_no (by rw [List.length_append, e]; omega), slo_sl _ _ _ _ (by rw [List.length_append]; omega), List.length_append, e]
theorem bri_bad (c : UInt8) (hc : c = 97 ∨ c = 98) (p : Nat) (n : Nat) (hn : n ≤ 50) (q z : Int) (cs : List Vl) (lo : List Tx) (lp : Int) (h : 60 < lo.length + n) :
    (bri q (fsL c p n) (sl z cs lo lp)).bad = true ∧ (bri q (fsL c p n) (sl z cs lo lp)).cd = 6 ∧ (bri q (fsL c p n) (sl z cs lo lp)).ct = q := by
  have e := nmL_len c n
  unfold bri
  rw [brN_fs c hc p n _ hn]
  have : lim q (((lo ++ nmL c n).length : Nat) : Int) 60 (sl z cs (lo ++ nmL c n) lp) = { sl z cs (lo ++ nmL c n) lp with cd := 6, ct := q } := by
    unfold lim; rw [if_pos (by rw [List.length_append, e]; omega)]; rfl
  show (slo (lim q (((lo ++ nmL c n).length : Nat) : Int) 60 (sl z cs (lo ++ nmL c n) lp))).bad = true ∧ (slo (lim q (((lo ++ nmL c n).length : Nat) : Int) 60 (sl z cs (lo ++ nmL c n) lp))).cd = 6 ∧ (slo (lim q (((lo ++ nmL c n).length : Nat) : Int) 60 (sl z cs (lo ++ nmL c n) lp))).ct = q
  rw [this]
  exact ⟨rfl, rfl, rfl⟩
/-- A Local of names alone. -/
theorem ck_loc (N : Nat) (n : Nat) (hn : n ≤ 50) (c : UInt8) (p : Nat) (q z : Int) (cs : List Vl) (lo : List Tx) (lp : Int) : ck (N + 1) 21 [] (n : Nat) q (fsL c p n) (sl z cs lo lp) = bri q (fsL c p n) (sl z cs lo lp) := by
  have e := fsL_len c p n
  have t := F.take_self (fsL c p n)
  have d := F.drop_self (fsL c p n)
  rw [e] at t d
  show bri q ((fsL c p n).take ((n : Nat) : Int).toNat) (ckN (ck N) ((fsL c p n).drop ((n : Nat) : Int).toNat) (lim q (((fsL c p n).len : Int) - (n : Nat)) 50 (lim q (n : Nat) 50 (sl z cs lo lp)))) = _
  rw [Int.toNat_natCast, t, d, e, lim_no (n := (n : Int)) (by omega), lim_no (by omega)]
  rfl
end Go.Proofs.YteihndfjkelldaaGreat

/- What Check tells of CheckLocals' text: the whole (no program in it). -/
namespace Go.Proofs.YteihndfjkelldaaGreat
open Go.RowKit

theorem ck_20 (N : Nat) (t : Tx) (n p : Int) (ks : F) (z : Int) (cs : List Vl) (lo : List Tx) (lp : Int) : ck (N + 1) 20 t n p ks (sl z cs lo lp) = blkC (ck N) ks (sl z cs lo lp) := rfl
theorem ck_26 (N : Nat) (t : Tx) (n p : Int) (ks : F) (z : Int) (cs : List Vl) (lo : List Tx) (lp : Int) : ck (N + 1) 26 t n p ks (sl z cs lo lp) = lopC (ck N) p ks 1 (sl z cs lo lp) := rfl
theorem ck_1 (N : Nat) (p : Int) (z : Int) (lo : List Tx) (lp : Int) : ck (N + 1) 4 [] 1 p .nil (sl z [] lo lp) = sl z [(2, 1, [])] lo lp := rfl
theorem ck_2 (N : Nat) (p : Int) (z : Int) (lo : List Tx) (lp : Int) : ck (N + 1) 4 [] 2 p .nil (sl z [(2, 1, [])] lo lp) = sl z [(2, 1, []), (2, 2, [])] lo lp := rfl
def c12 : List Vl := [(2, 1, []), (2, 2, [])]
/-- The locals within the loop, but for its own. -/
def lo3 (a : Nat) : List Tx := nmL 97 a ++ [[], [], []] ++ [[105]]
theorem lo3_len (a : Nat) : (lo3 a).length = a + 4 := by simp [lo3, nmL_len]
/-- The loop's block behind its Local. -/
def stX (a b q : Nat) : Cs := bri ((q + 16 : Nat) : Int) (fsL 98 (q + 22) b) (sl ((a + 4 : Nat) : Int) c12 (lo3 a) 1)
theorem lopB_eq {nd : Ndc} {p : Int} {ks : F} {m : Nat} {s s3 : Cs} (h : bri p (ks.take m) { s with lo := s.lo ++ [[], [], []] } = s3) :
    lopB nd p ks m s = { ndG nd ks (ks.len - 1) { s3 with lp := s3.lp + 1 } with lp := (ndG nd ks (ks.len - 1) { s3 with lp := s3.lp + 1 }).lp - 1, lo := (ndG nd ks (ks.len - 1) { s3 with lp := s3.lp + 1 }).lo.take s.lo.length } := by subst h; rfl
theorem chF_one (k : Int) (t : Tx) (n p : Int) (ks : F) : chF (one k t n p ks) = if 100 < ks.hgt + 1 then (([], []), 6, p) else outC (ck (ks.siz + 1) k t n p ks (s0 p)) := rfl
theorem ck_lp (N a b q : Nat) (ha : a ≤ 50) (hb : b ≤ 50) : ∃ lo lp, ckN (ck (N + 3)) (lpF q b) (sl (a : Nat) [] (nmL 97 a) 0) = { stX a b q with lo := lo, lp := lp } := by
  refine ⟨(((stX a b q).lo.take (lo3 a).length).take (nmL 97 a).length), (stX a b q).lp - 1, ?_⟩
  have h3 : bri (q : Int) (one 6 [105] 0 ((q + 4 : Nat) : Int) .nil) (sl (a : Nat) c12 (nmL 97 a ++ [[], [], []]) 0) = sl ((a + 4 : Nat) : Int) c12 (lo3 a) 0 := by
    have e : brN (one 6 [105] 0 ((q + 4 : Nat) : Int) .nil) (sl (a : Nat) c12 (nmL 97 a ++ [[], [], []]) 0) = sl (a : Nat) c12 (lo3 a) 0 := rfl
    unfold bri
    rw [e]
    show slo (lim (q : Int) ((lo3 a).length : Int) 60 (sl (a : Nat) c12 (lo3 a) 0)) = _
    rw [lim_no (by rw [lo3_len]; omega), slo_sl _ _ _ _ (by rw [lo3_len]; omega), lo3_len]
  show ck (N + 2 + 1) 26 [] 0 (q : Int) _ (sl (a : Nat) [] (nmL 97 a) 0) = _
  rw [ck_26]
  unfold lopC
  rw [show ckN (ck (N + 2)) _ (sl (a : Nat) [] (nmL 97 a) 0) = sl (a : Nat) c12 (nmL 97 a) 0 from rfl]
  rw [lopB_eq (s3 := sl ((a + 4 : Nat) : Int) c12 (lo3 a) 0) (by exact h3)]
  have h5 : ck (N + 2) 20 [] 0 ((q + 16 : Nat) : Int) (one 21 [] (b : Nat) ((q + 16 : Nat) : Int) (fsL 98 (q + 22) b)) (sl ((a + 4 : Nat) : Int) c12 (lo3 a) 1) = { stX a b q with lo := (stX a b q).lo.take (lo3 a).length } := by
    rw [ck_20]
    unfold blkC
    rw [show ckN (ck (N + 1)) (one 21 [] (b : Nat) ((q + 16 : Nat) : Int) (fsL 98 (q + 22) b)) (sl ((a + 4 : Nat) : Int) c12 (lo3 a) 1) = ck (N + 1) 21 [] (b : Nat) ((q + 16 : Nat) : Int) (fsL 98 (q + 22) b) (sl ((a + 4 : Nat) : Int) c12 (lo3 a) 1) from rfl, ck_loc N b hb]
    rfl
  show ({ ck (N + 2) 20 [] 0 ((q + 16 : Nat) : Int) (one 21 [] (b : Nat) ((q + 16 : Nat) : Int) (fsL 98 (q + 22) b)) (sl ((a + 4 : Nat) : Int) c12 (lo3 a) 1) with lp := (ck (N + 2) 20 [] 0 ((q + 16 : Nat) : Int) (one 21 [] (b : Nat) ((q + 16 : Nat) : Int) (fsL 98 (q + 22) b)) (sl ((a + 4 : Nat) : Int) c12 (lo3 a) 1)).lp - 1, lo := (ck (N + 2) 20 [] 0 ((q + 16 : Nat) : Int) (one 21 [] (b : Nat) ((q + 16 : Nat) : Int) (fsL 98 (q + 22) b)) (sl ((a + 4 : Nat) : Int) c12 (lo3 a) 1)).lo.take (nmL 97 a).length } : Cs) = _
  rw [h5]
theorem hgt_app : ∀ f g : F, (f.app g).hgt = max f.hgt g.hgt
  | .nil, g => by simp [F.app, F.hgt]
  | .cons k t n p ks r, g => by simp only [F.app, F.hgt, hgt_app r g]; omega
theorem fsL_hgt (c : UInt8) (p : Nat) : ∀ n, (fsL c p n).hgt ≤ 1
  | 0 => by simp [fsL, F.hgt]
  | n + 1 => by have := fsL_hgt c p n; simp only [fsL, hgt_app, one, F.hgt]; omega
theorem chT_txL (a b : Nat) (ha : a ≤ 50) (hb : b ≤ 50) (ha1 : 1 ≤ a) (hb1 : 1 ≤ b) :
    chT (txL a b) = if a + 4 + b ≤ 60 then (([⟨[], 0, 0, ((a + 4 + b : Nat) : Int), c12⟩], []), 0, 0) else (([], []), 6, ((23 + (mnL 97 a).length : Nat) : Int)) := by
  unfold chT
  rw [prT_txL a b ha hb ha1 hb1]
  show chF (trL a b) = _
  unfold trL
  rw [chF_one, if_neg (by have := fsL_hgt 97 6 a; have := fsL_hgt 98 (7 + (mnL 97 a).length + 22) b; simp only [F.hgt, lpF, one]; omega)]
  obtain ⟨N, hN⟩ : ∃ N, (F.cons 21 [] (a : Nat) 0 (fsL 97 6 a) (lpF (7 + (mnL 97 a).length) b)).siz = N + 3 := ⟨(F.cons 21 [] (a : Nat) 0 (fsL 97 6 a) (lpF (7 + (mnL 97 a).length) b)).siz - 3, by simp only [F.siz, lpF, one]; omega⟩
  rw [hN]
  obtain ⟨lo, lp, hl⟩ := ck_lp N a b (7 + (mnL 97 a).length) ha hb
  have h1 : ck (N + 3 + 1) 20 [] 0 0 (F.cons 21 [] (a : Nat) 0 (fsL 97 6 a) (lpF (7 + (mnL 97 a).length) b)) (s0 0) = { stX a b (7 + (mnL 97 a).length) with lo := [], lp := lp } := by
    show blkC (ck (N + 3)) (F.cons 21 [] (a : Nat) 0 (fsL 97 6 a) (lpF (7 + (mnL 97 a).length) b)) (sl 0 [] [] 0) = _
    unfold blkC
    rw [show ckN (ck (N + 3)) (F.cons 21 [] (a : Nat) 0 (fsL 97 6 a) (lpF (7 + (mnL 97 a).length) b)) (sl 0 [] [] 0) = ckN (ck (N + 3)) (lpF (7 + (mnL 97 a).length) b) (ck (N + 2 + 1) 21 [] (a : Nat) 0 (fsL 97 6 a) (sl 0 [] [] 0)) from rfl,
      ck_loc (N + 2) a ha, bri_fs 97 (.inl rfl) 6 a ha 0 0 [] [] 0 (by simp) (by simp; omega), show sl ((([] : List Tx).length + a : Nat) : Int) [] ([] ++ nmL 97 a) 0 = sl (a : Nat) [] (nmL 97 a) 0 by simp, hl]
    rfl
  rw [h1]
  have e := lo3_len a
  by_cases h : a + 4 + b ≤ 60
  · rw [if_pos h]
    unfold stX
    rw [bri_fs 98 (.inr rfl) _ b hb _ _ _ _ _ (by rw [e]; omega) (by rw [e]; omega), e]
    rfl
  · rw [if_neg h]
    obtain ⟨x1, x2, x3⟩ := bri_bad 98 (.inr rfl) (7 + (mnL 97 a).length + 22) b hb ((7 + (mnL 97 a).length + 16 : Nat) : Int) ((a + 4 : Nat) : Int) c12 (lo3 a) 1 (by rw [e]; omega)
    unfold outC
    rw [if_pos (by exact x1)]
    show (([], []), (stX a b (7 + (mnL 97 a).length)).cd, (stX a b (7 + (mnL 97 a).length)).ct) = _
    unfold stX
    rw [x2, x3, show 7 + (mnL 97 a).length + 16 = 23 + (mnL 97 a).length by omega]
end Go.Proofs.YteihndfjkelldaaGreat
