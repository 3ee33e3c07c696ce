/- A text's beginning is scanned alike, whatever stands behind the blank or newline behind it (no program in it). -/
import Derived.Test.YtgjeiepcbenejaaCg19
import Derived.Test.YtgjeiepcbenejaaCg11
namespace Go.Proofs.Ytgjeiepcbenejaa
open Go.RowKit

theorem dN1 (n b0 c1 c2 c3 : Nat) (h : c1 < 128) : Lib.decodeN n b0 c1 c2 c3 = Lib.decodeN 1 b0 0 0 0 := by
  have h1 : ¬ c1 / 64 = 2 := by omega
  unfold Lib.decodeN
  simp [h1]
theorem dN2 (n b0 b1 c2 c3 : Nat) (hn : 2 ≤ n) (h : c2 < 128) : Lib.decodeN n b0 b1 c2 c3 = Lib.decodeN 2 b0 b1 0 0 := by
  have h1 : ¬ c2 / 64 = 2 := by omega
  have h2 : 1 < n := by omega
  unfold Lib.decodeN
  simp [h1, h2]
theorem dN3 (n b0 b1 b2 c3 : Nat) (hn : 3 ≤ n) (h : c3 < 128) : Lib.decodeN n b0 b1 b2 c3 = Lib.decodeN 3 b0 b1 b2 0 := by
  have h1 : ¬ c3 / 64 = 2 := by omega
  have h2 : 1 < n := by omega
  have h3 : 2 < n := by omega
  unfold Lib.decodeN
  simp [h1, h2, h3]
theorem dN4 (n m b0 b1 b2 b3 : Nat) (hn : 4 ≤ n) (hm : 4 ≤ m) : Lib.decodeN n b0 b1 b2 b3 = Lib.decodeN m b0 b1 b2 b3 := by
  have h1 : 1 < n := by omega
  have h2 : 2 < n := by omega
  have h3 : 3 < n := by omega
  have k1 : 1 < m := by omega
  have k2 : 2 < m := by omega
  have k3 : 3 < m := by omega
  unfold Lib.decodeN
  simp only [h1, h2, h3, k1, k2, k3, true_and]

/-- A rune is decoded alike, whatever stands behind the ASCII byte behind the text. -/
theorem dec_app (l : List UInt8) (hl : l ≠ []) (b : UInt8) (t : List UInt8) (hb : b.toNat < 128) : (rnL (l ++ b :: t), wdL (l ++ b :: t)) = (rnL l, wdL l) := by
  rw [dec_list, dec_list]
  match l, hl with
  | [a], _ =>
    show Lib.decodeN _ a.toNat b.toNat _ _ = Lib.decodeN 1 a.toNat 0 0 0
    exact dN1 _ _ _ _ _ hb
  | [a, c], _ =>
    show Lib.decodeN _ a.toNat c.toNat b.toNat _ = Lib.decodeN 2 a.toNat c.toNat 0 0
    exact dN2 _ _ _ _ _ (by simp) hb
  | [a, c, d], _ =>
    show Lib.decodeN _ a.toNat c.toNat d.toNat b.toNat = Lib.decodeN 3 a.toNat c.toNat d.toNat 0
    exact dN3 _ _ _ _ _ (by simp) hb
  | a :: c :: d :: e :: r, _ =>
    show Lib.decodeN _ a.toNat c.toNat d.toNat e.toNat = Lib.decodeN _ a.toNat c.toNat d.toNat e.toNat
    exact dN4 _ _ _ _ _ _ (by simp) (by simp)
theorem rnL_app (l : List UInt8) (hl : l ≠ []) (b : UInt8) (t : List UInt8) (hb : b.toNat < 128) : rnL (l ++ b :: t) = rnL l := congrArg Prod.fst (dec_app l hl b t hb)
theorem wdL_app (l : List UInt8) (hl : l ≠ []) (b : UInt8) (t : List UInt8) (hb : b.toNat < 128) : wdL (l ++ b :: t) = wdL l := congrArg Prod.snd (dec_app l hl b t hb)

theorem spn_app (f : Nat → Bool) (l : List UInt8) (b : UInt8) (t : List UInt8) (hb : b.toNat < 128) (hf : f b.toNat = false) : spn f (l ++ b :: t) = spn f l := by
  by_cases hl : l = []
  · subst hl
    rw [spn_nil, List.nil_append, spn_no f _ (by simp) (by rw [(asc b t hb).1]; exact hf)]
  · have hne : l ++ b :: t ≠ [] := by simp
    cases h : f (rnL l)
    · rw [spn_no f l hl h, spn_no f _ hne (by rw [rnL_app l hl b t hb]; exact h)]
    · have hw := wdL_le l hl
      have hp := wdL_pos l
      have hlp := List.length_pos_iff.2 hl
      rw [spn_yes f l hl h, spn_yes f _ hne (by rw [rnL_app l hl b t hb]; exact h), wdL_app l hl b t hb, List.drop_append_of_le_length hw, spn_app f (l.drop (wdL l)) b t hb hf]
termination_by l.length
decreasing_by rw [List.length_drop]; omega

/-- A run of bytes of one kind at a list's head, at most m, is alike whatever stands behind a byte of another kind. -/
theorem run_app (f : UInt8 → Bool) (b : UInt8) (t : List UInt8) (hf : f b = false) : ∀ (m : Nat) (u : List UInt8), ((u ++ b :: t).take m).takeWhile f = (u.take m).takeWhile f
  | 0, u => by simp
  | m + 1, [] => by simp [hf]
  | m + 1, c :: u => by
    simp only [List.cons_append, List.take_succ_cons, List.takeWhile_cons]
    rw [run_app f b t hf m u]
theorem run_le (f : UInt8 → Bool) : ∀ (m : Nat) (u : List UInt8), ((u.take m).takeWhile f).length ≤ u.length
  | 0, u => by simp
  | m + 1, [] => by simp
  | m + 1, c :: u => by
    simp only [List.take_succ_cons, List.takeWhile_cons]
    split
    · simp only [List.length_cons]; have := run_le f m u; omega
    · simp

theorem hxs_app (b : UInt8) (t : List UInt8) (hb : b.toNat = 32 ∨ b.toNat = 10) (m : Nat) (u : List UInt8) : hxs m (u ++ b :: t) = hxs m u :=
  run_app _ b t (by rcases hb with h | h <;> rw [h] <;> decide) m u
theorem dgs_app (b : UInt8) (t : List UInt8) (hb : b.toNat = 32 ∨ b.toNat = 10) (m : Nat) (u : List UInt8) : dgs m (u ++ b :: t) = dgs m u :=
  run_app _ b t (by rcases hb with h | h <;> rw [h] <;> decide) m u
theorem headD_app (b : UInt8) (t : List UInt8) (hb : b.toNat = 32 ∨ b.toNat = 10) (k : UInt8) (hk : 33 ≤ k.toNat) (u : List UInt8) : ((u ++ b :: t).headD 0 = k) ↔ (u.headD 0 = k) := by
  cases u with
  | nil =>
    simp only [List.nil_append, List.headD_cons, List.headD_nil]
    constructor
    · intro e; subst e; omega
    · intro e; subst e; exact absurd hk (by decide)
  | cons a u => simp

theorem escX_app (b : UInt8) (t : List UInt8) (hb : b.toNat = 32 ∨ b.toNat = 10) (u : List UInt8) : escX (u ++ b :: t) = escX u := by
  unfold escX; rw [hxs_app b t hb]
theorem escD_app (b : UInt8) (t : List UInt8) (hb : b.toNat = 32 ∨ b.toNat = 10) (u : List UInt8) : escD (u ++ b :: t) = escD u := by
  unfold escD; rw [dgs_app b t hb]

end Go.Proofs.Ytgjeiepcbenejaa

/- A text's beginning is scanned alike, whatever stands behind the blank or newline behind it: escapes, strings, signs, steps (no program in it). -/
namespace Go.Proofs.Ytgjeiepcbenejaa
open Go.RowKit

theorem escU_app (b : UInt8) (t : List UInt8) (hb : b.toNat = 32 ∨ b.toNat = 10) (u : List UInt8) : escU (u ++ b :: t) = escU u := by
  have h0 := headD_app b t hb 123 (by decide) u
  by_cases hu : u.headD 0 = 123
  · obtain ⟨a, u', rfl⟩ : ∃ a u', u = a :: u' := by
      cases u with
      | nil => exact absurd hu (by decide)
      | cons a u' => exact ⟨a, u', rfl⟩
    have e1 : ((a :: u') ++ b :: t).drop 1 = u' ++ b :: t := rfl
    have e2 : (a :: u').drop 1 = u' := rfl
    have hle : (hxs 8 u').length ≤ u'.length := run_le _ 8 u'
    have e3 : ((a :: u') ++ b :: t).drop (1 + (hxs 8 u').length) = (a :: u').drop (1 + (hxs 8 u').length) ++ b :: t := List.drop_append_of_le_length (by simp; omega)
    have h3 := headD_app b t hb 125 (by decide) ((a :: u').drop (1 + (hxs 8 u').length))
    unfold escU
    rw [e1, e2, hxs_app b t hb, e3]
    simp only [h0, h3]
  · unfold escU
    rw [if_neg (fun h => hu (h0.1 h.1)), if_neg (fun h => hu h.1)]
theorem esc_app (b : UInt8) (t : List UInt8) (hb : b.toNat = 32 ∨ b.toNat = 10) (u : List UInt8) (hu : u ≠ []) : esc (u ++ b :: t) = esc u := by
  match u, hu with
  | c :: u, _ =>
    show esc (c :: (u ++ b :: t)) = _
    simp only [esc]
    rw [escX_app b t hb, escU_app b t hb]
    have := escD_app b t hb (c :: u)
    simp only [List.cons_append] at this
    rw [this]
theorem esc_len (u : List UInt8) : (esc u).2 ≤ u.length ∨ (esc u).2 = 0 := by
  by_cases h : (esc u).2 = 0
  · exact .inr h
  · exact .inl (esc_take u).1

theorem qt_app (q b : UInt8) (t : List UInt8) (hb : b.toNat = 32 ∨ b.toNat = 10) (l : List UInt8) (i : Nat) (acc v : List UInt8) (n : Nat) (h : qt q l i acc = .ok v n) : qt q (l ++ b :: t) i acc = .ok v n := by
  match l with
  | [] => rw [qt_nil] at h; cases h
  | c :: u =>
    rw [qt] at h
    show qt q (c :: (u ++ b :: t)) i acc = _
    rw [qt]
    split at h
    · cases h
    · rename_i h10
      rw [if_neg h10]
      split at h
      · rename_i hq; rw [if_pos hq]; exact h
      · rename_i hq
        rw [if_neg hq]
        split at h
        · rename_i h92
          rw [if_pos h92]
          split at h
          · cases h
          · rename_i hu
            rw [if_neg (by simp), esc_app b t hb u hu]
            split at h
            · cases h
            · rename_i h0
              rw [if_neg h0]
              have hle : (esc u).2 ≤ u.length := by rcases esc_len u with h | h; exact h; exact absurd h h0
              rw [List.drop_append_of_le_length hle]
              exact qt_app q b t hb (u.drop (esc u).2) _ _ v n h
        · rename_i h92
          rw [if_neg h92]
          exact qt_app q b t hb u _ _ v n h
termination_by l.length
decreasing_by all_goals (simp; try omega)

theorem sgz_app (b : UInt8) (t : List UInt8) (hb : b.toNat = 32 ∨ b.toNat = 10) (l : List UInt8) (hl : l ≠ []) : sgz (l ++ b :: t) = sgz l := by
  have hb' : b = 32 ∨ b = 10 := hb.imp (fun h => UInt8.toNat_inj.1 h) (fun h => UInt8.toNat_inj.1 h)
  match l, hl with
  | [c], _ =>
    have h1 : sgz (c :: b :: t) = if sgn1.contains c then 1 else 0 := by
      show (if sgn2.contains [c, b] then 2 else if sgn1.contains c then 1 else 0) = _
      rw [if_neg]
      rcases hb' with rfl | rfl <;> simp [sgn2]
    have h2 : sgz [c] = if sgn1.contains c then 1 else 0 := by
      show (if sgn2.contains [c] then 2 else if sgn1.contains c then 1 else 0) = _
      rw [if_neg]
      simp [sgn2]
    exact h1.trans h2.symm
  | c :: d :: u, _ => rfl
theorem pre_app (b : UInt8) (t : List UInt8) (hb : b.toNat = 32 ∨ b.toNat = 10) (l : List UInt8) (hl : l ≠ []) : Lib.hasPrefix (l ++ b :: t) [45, 45] = Lib.hasPrefix l [45, 45] := by
  have hb' : b = 32 ∨ b = 10 := hb.imp (fun h => UInt8.toNat_inj.1 h) (fun h => UInt8.toNat_inj.1 h)
  match l, hl with
  | [c], _ => rcases hb' with rfl | rfl <;> simp [Lib.hasPrefix, List.isPrefixOf]
  | c :: d :: u, _ => simp [Lib.hasPrefix, List.isPrefixOf]

theorem nl_app (b : UInt8) (t : List UInt8) : ∀ (l : List UInt8), (∃ x ∈ l, x.toNat = 10) → ((l ++ b :: t).takeWhile fun c => decide (c.toNat ≠ 10)).length = (l.takeWhile fun c => decide (c.toNat ≠ 10)).length
  | [], h => by obtain ⟨x, hx, _⟩ := h; cases hx
  | c :: l, h => by
    by_cases hc : c.toNat = 10
    · simp [hc]
    · obtain ⟨x, hx, h10⟩ := h
      have hx' : x ∈ l := by
        rcases List.mem_cons.1 hx with rfl | h
        · exact absurd h10 hc
        · exact h
      have ih := nl_app b t l ⟨x, hx', h10⟩
      simp only [List.cons_append, List.takeWhile_cons]
      simp only [ne_eq, hc, not_false_eq_true, decide_true, if_true, List.length_cons]
      exact congrArg (· + 1) ih

theorem inNm_blank (b : UInt8) (hb : b.toNat = 32 ∨ b.toNat = 10) : inNm b.toNat = false := by
  rcases hb with h | h <;> rw [h] <;> decide

/-- One step is alike. -/
theorem stp_app (b : UInt8) (t : List UInt8) (hb : b.toNat = 32 ∨ b.toNat = 10) (l : List UInt8) (hl : l ≠ []) (hc : Lib.hasPrefix l [45, 45] = true → ∃ x ∈ l, x.toNat = 10) (hg : ∀ c o, stp l ≠ .bad c o) : stp (l ++ b :: t) = stp l := by
  have hb1 : b.toNat < 128 := by omega
  have hsp := spn_app inNm l b t hb1 (inNm_blank b hb)
  have htk : (l ++ b :: t).take (spn inNm l) = l.take (spn inNm l) := List.take_append_of_le_length (spn_le _ _)
  have hstk : (l ++ b :: t).take (sgz l) = l.take (sgz l) := List.take_append_of_le_length (sgz_le l).2
  have hhd : (l ++ b :: t).headD 0 = l.headD 0 := by
    cases l with
    | nil => exact absurd rfl hl
    | cons a u => rfl
  have hdr : (l ++ b :: t).drop 1 = l.drop 1 ++ b :: t := List.drop_append_of_le_length (List.length_pos_iff.2 hl)
  have hrn := rnL_app l hl b t hb1
  have hpre := pre_app b t hb l hl
  have hsg := sgz_app b t hb l hl
  by_cases hblk : rnL l = 32 ∨ rnL l = 9 ∨ rnL l = 10 ∨ rnL l = 13
  · rw [stp_blank l _ rfl hblk, stp_blank _ _ hrn hblk]
  · cases hp : Lib.hasPrefix l [45, 45]
    · rw [hp] at hpre
      cases hle : letB (rnL l)
      · cases hdi : digB (rnL l)
        · by_cases hq : rnL l = 39 ∨ rnL l = 34
          · have e1 := stp_quote l _ rfl hblk hp hle hdi hq
            have e2 := stp_quote _ _ hrn hblk hpre hle hdi hq
            rw [hhd, hdr] at e2
            cases hqt : qt (l.headD 0) (l.drop 1) 1 [] with
            | ok v n =>
              rw [qt_app _ b t hb _ _ _ v n hqt] at e2
              rw [hqt] at e1
              rw [e1, e2]
            | bad c o =>
              rw [hqt] at e1
              exact absurd e1 (hg c o)
          · rw [stp_sign l _ rfl hblk hp hle hdi hq, stp_sign _ _ hrn hblk hpre hle hdi hq, hsg, hstk]
        · rw [stp_number l _ rfl hblk hp hle hdi, stp_number _ _ hrn hblk hpre hle hdi, hsp, htk]
      · rw [stp_name l _ rfl hblk hp hle, stp_name _ _ hrn hblk hpre hle, hsp, htk]
    · rw [hp] at hpre
      rw [stp_comment l _ rfl hblk hp, stp_comment _ _ hrn hblk hpre, spn_nl, spn_nl, nl_app b t l (hc hp)]

end Go.Proofs.Ytgjeiepcbenejaa

/- Two texts with a gap between are scanned as each by itself (no program in it). -/
namespace Go.Proofs.Ytgjeiepcbenejaa
open Go.RowKit

/-- No comment is open at the end. -/
def NC (l : List UInt8) : Prop := ∀ p, Lib.hasPrefix (l.drop p) [45, 45] = true → ∃ x ∈ l.drop p, x.toNat = 10
theorem NC.drop {l : List UInt8} (h : NC l) (n : Nat) : NC (l.drop n) := fun p hp => by
  rw [List.drop_drop] at hp ⊢; exact h _ hp

theorem scn_app (b : UInt8) (t : List UInt8) (hb : b.toNat = 32 ∨ b.toNat = 10) : ∀ (m : Nat) (l : List UInt8) (p : Nat) (acc ts : List Tok), l.length ≤ m → NC l → scn l p acc = .ok ts →
    ∃ body, ts = acc ++ body ++ [⟨6, [], 0, p + l.length⟩] ∧ scn (l ++ b :: t) p acc = scn (b :: t) (p + l.length) (acc ++ body)
  | m, [], p, acc, ts, _, _, h => by
    rw [scn_nil] at h
    cases h
    exact ⟨[], by simp, by simp⟩
  | 0, c :: u, p, acc, ts, hm, _, _ => by simp at hm
  | m + 1, c :: u, p, acc, ts, hm, hN, h => by
    have hne : c :: u ≠ [] := by simp
    have hne' : c :: u ++ b :: t ≠ [] := by simp
    have hpos := stp_pos (c :: u) hne
    have hap := stp_app b t hb (c :: u) hne (fun hp => hN 0 hp)
    cases hs : stp (c :: u) with
    | skip n =>
      obtain ⟨h1, h2⟩ := hpos.1 n hs
      rw [scn_skip hne hs] at h
      have hs' := (hap (fun _ _ e => by rw [hs] at e; cases e)).trans hs
      obtain ⟨body, e1, e2⟩ := scn_app b t hb m ((c :: u).drop n) (p + n) acc ts (by rw [List.length_drop]; omega) (hN.drop n) h
      have el : p + n + ((c :: u).drop n).length = p + (c :: u).length := by rw [List.length_drop]; omega
      rw [el] at e1 e2
      exact ⟨body, e1, by rw [scn_skip hne' hs', List.drop_append_of_le_length h2]; exact e2⟩
    | tok k x v n =>
      obtain ⟨h1, h2⟩ := hpos.2 k x v n hs
      rw [scn_tok hne hs] at h
      have hs' := (hap (fun _ _ e => by rw [hs] at e; cases e)).trans hs
      obtain ⟨body, e1, e2⟩ := scn_app b t hb m ((c :: u).drop n) (p + n) (acc ++ [⟨k, x, v, p⟩]) ts (by rw [List.length_drop]; omega) (hN.drop n) h
      have el : p + n + ((c :: u).drop n).length = p + (c :: u).length := by rw [List.length_drop]; omega
      rw [el] at e1 e2
      refine ⟨⟨k, x, v, p⟩ :: body, by rw [e1]; simp, ?_⟩
      rw [scn_tok hne' hs', List.drop_append_of_le_length h2, e2]; simp
    | bad cc o =>
      rw [scn_bad hne hs] at h
      cases h

/-- A token further on. -/
def sh (d : Nat) (t : Tok) : Tok := ⟨t.k, t.t, t.v, t.p + d⟩
theorem scn_shift (d : Nat) (A : List Tok) : ∀ (m : Nat) (l : List UInt8) (p : Nat) (acc : List Tok), l.length ≤ m →
    scn l (p + d) (A ++ acc.map (sh d)) = match scn l p acc with | .ok ts => .ok (A ++ ts.map (sh d)) | .bad c q => .bad c (q + d)
  | m, [], p, acc, _ => by rw [scn_nil, scn_nil]; simp [sh]
  | 0, c :: u, p, acc, hm => by simp at hm
  | m + 1, c :: u, p, acc, hm => by
    have hne : c :: u ≠ [] := by simp
    have hpos := stp_pos (c :: u) hne
    cases hs : stp (c :: u) with
    | skip n =>
      obtain ⟨h1, h2⟩ := hpos.1 n hs
      rw [scn_skip hne hs, scn_skip hne hs]
      have ih := scn_shift d A m ((c :: u).drop n) (p + n) acc (by rw [List.length_drop]; omega)
      rw [show p + d + n = p + n + d by omega]
      exact ih
    | tok k x v n =>
      obtain ⟨h1, h2⟩ := hpos.2 k x v n hs
      rw [scn_tok hne hs, scn_tok hne hs]
      have ih := scn_shift d A m ((c :: u).drop n) (p + n) (acc ++ [⟨k, x, v, p⟩]) (by rw [List.length_drop]; omega)
      rw [show p + d + n = p + n + d by omega]
      rw [← ih]
      simp [sh]
    | bad cc o =>
      rw [scn_bad hne hs, scn_bad hne hs]
      simp only
      rw [show p + d + o = p + o + d by omega]

theorem gap_blank (c : UInt8) (l : List UInt8) (p : Nat) (acc : List Tok) (h : c.toNat = 32 ∨ c.toNat = 9 ∨ c.toNat = 10 ∨ c.toNat = 13) : scn (c :: l) p acc = scn l (p + 1) acc := by
  rw [scn_skip (by simp) (stp_blank _ c.toNat (asc c l (by omega)).1 h)]; rfl
theorem gap_comment (m l : List UInt8) (p : Nat) (acc : List Tok) (hm : ∀ x ∈ m, x.toNat ≠ 10) : scn (45 :: 45 :: (m ++ 10 :: l)) p acc = scn l (p + (m.length + 3)) acc := by
  have hr := (asc 45 (45 :: (m ++ 10 :: l)) (by decide)).1
  have hp : Lib.hasPrefix (45 :: 45 :: (m ++ 10 :: l)) [45, 45] = true := by simp [Lib.hasPrefix, List.isPrefixOf]
  have hw : ((45 :: 45 :: (m ++ 10 :: l)).takeWhile fun c : UInt8 => decide (c.toNat ≠ 10)).length = m.length + 2 := by
    have e : 45 :: 45 :: (m ++ 10 :: l) = (45 :: 45 :: m) ++ 10 :: l := rfl
    rw [e, List.takeWhile_append_of_pos (by
      intro x hx
      rcases List.mem_cons.1 hx with rfl | hx
      · decide
      · rcases List.mem_cons.1 hx with rfl | hx
        · decide
        · simpa using hm x hx)]
    simp
  have hs := stp_comment _ _ hr (by decide) hp
  rw [spn_nl, hw] at hs
  rw [scn_skip (by simp) hs]
  have hd : (45 :: 45 :: (m ++ 10 :: l)).drop (m.length + 2) = 10 :: l := by simp
  rw [hd, gap_blank 10 l _ _ (by decide)]
  rfl

/-- The four gaps. -/
def gap : Nat → List UInt8
  | 1 => [10, 9, 13, 32]
  | 2 => [32, 45, 45, 255, 32, 39, 97, 10]
  | 3 => [10, 45, 45, 10, 45, 45, 120, 10]
  | _ => [32]
theorem gap_pass (k : Nat) (l : List UInt8) (p : Nat) (acc : List Tok) : scn (gap k ++ l) p acc = scn l (p + (gap k).length) acc := by
  have h0 : ∀ l p, scn (32 :: l) p acc = scn l (p + 1) acc := fun l p => gap_blank 32 l p acc (by decide)
  match k with
  | 1 =>
    show scn (10 :: 9 :: 13 :: 32 :: l) p acc = _
    rw [gap_blank _ _ _ _ (by decide), gap_blank _ _ _ _ (by decide), gap_blank _ _ _ _ (by decide), gap_blank _ _ _ _ (by decide)]
    rfl
  | 2 =>
    show scn (32 :: 45 :: 45 :: ([255, 32, 39, 97] ++ 10 :: l)) p acc = _
    rw [gap_blank _ _ _ _ (by decide), gap_comment _ _ _ _ (by decide)]
    rfl
  | 3 =>
    show scn (10 :: 45 :: 45 :: ([] ++ 10 :: 45 :: 45 :: ([120] ++ 10 :: l))) p acc = _
    rw [gap_blank _ _ _ _ (by decide), gap_comment _ _ _ _ (by simp), gap_comment _ _ _ _ (by decide)]
    rfl
  | 0 => exact h0 l p
  | k + 4 => exact h0 l p
theorem gap_head (k : Nat) : ∃ b t, gap k = b :: t ∧ (b.toNat = 32 ∨ b.toNat = 10) := by
  match k with
  | 1 => exact ⟨_, _, rfl, .inr rfl⟩
  | 2 => exact ⟨_, _, rfl, .inl rfl⟩
  | 3 => exact ⟨_, _, rfl, .inr rfl⟩
  | 0 => exact ⟨_, _, rfl, .inl rfl⟩
  | k + 4 => exact ⟨_, _, rfl, .inl rfl⟩

/-- A text, a gap and a text. -/
theorem scn_gap (k : Nat) (a b : List UInt8) (ts : List Tok) (hN : NC a) (h : scn a 0 [] = .ok ts) :
    ∃ body, ts = body ++ [⟨6, [], 0, a.length⟩] ∧ scn (a ++ gap k ++ b) 0 [] = match scn b 0 [] with | .ok us => .ok (body ++ us.map (sh (a.length + (gap k).length))) | .bad c q => .bad c (q + (a.length + (gap k).length)) := by
  obtain ⟨g, t, hg, hgb⟩ := gap_head k
  obtain ⟨body, e1, e2⟩ := scn_app g (t ++ b) hgb a.length a 0 [] ts (Nat.le_refl _) hN h
  simp only [List.nil_append, Nat.zero_add] at e1 e2
  refine ⟨body, e1, ?_⟩
  have e3 : a ++ gap k ++ b = a ++ g :: (t ++ b) := by rw [hg]; simp
  have e4 : g :: (t ++ b) = gap k ++ b := by rw [hg]; rfl
  rw [e3, e2, e4, gap_pass]
  have := scn_shift (a.length + (gap k).length) body b.length b 0 [] (Nat.le_refl _)
  simpa using this

end Go.Proofs.Ytgjeiepcbenejaa

/- The walk of the law's comment: where it answers false, no comment is open at the text's end. -/
namespace Go.Proofs.Ytgjeiepcbenejaa
open Go.RowKit

theorem u45 (c : UInt8) (h : c.toNat = 45) : c = 45 := UInt8.toNat_inj.1 h
theorem pr_no (c : UInt8) (t : List UInt8) (h : c.toNat ≠ 45) : Lib.hasPrefix (c :: t) [45, 45] = false := by
  have hc : ¬ (45 : UInt8) = c := fun e => h (by rw [← e]; rfl)
  cases t <;> simp [Lib.hasPrefix, List.isPrefixOf, hc]
theorem pr_nil (c : UInt8) : Lib.hasPrefix [c] [45, 45] = false := by simp [Lib.hasPrefix, List.isPrefixOf]
theorem pr_two (c d : UInt8) (t : List UInt8) (h : d.toNat ≠ 45) : Lib.hasPrefix (c :: d :: t) [45, 45] = false := by
  have hd : ¬ (45 : UInt8) = d := fun e => h (by rw [← e]; rfl)
  simp [Lib.hasPrefix, List.isPrefixOf, hd]

/-- From q on, no two signs of minus side by side. -/
def PP (s : ByteArray) (q : Nat) : Prop := ∀ p, (h : p + 1 < s.size) → q ≤ p + 1 → ¬ (s[p].toNat = 45 ∧ s[p + 1].toNat = 45)
theorem nc_of (s : ByteArray) (q : Nat) (hP : PP s q) (hq : q = 0 ∨ ∃ i, ∃ h : i < s.size, q = i + 1 ∧ s[i].toNat = 10) : NC s.data.toList := fun p hp => by
  have hlen : s.data.toList.length = s.size := Array.length_toList
  by_cases h1 : p + 1 < s.size
  · have hget : ∀ j (hj : j < s.size), s.data.toList[j]? = some s[j] := fun j hj => by
      rw [List.getElem?_eq_getElem (by omega)]; rfl
    have e0 : s.data.toList.drop p = s[p] :: s[p + 1] :: s.data.toList.drop (p + 2) := by
      rw [List.drop_eq_getElem_cons (by omega), List.drop_eq_getElem_cons (by omega)]; rfl
    rw [e0] at hp
    have hpp : s[p].toNat = 45 ∧ s[p + 1].toNat = 45 := by
      by_cases h45 : s[p].toNat = 45
      · refine ⟨h45, ?_⟩
        by_cases h46 : s[p + 1].toNat = 45
        · exact h46
        · rw [pr_two _ _ _ h46] at hp; cases hp
      · rw [pr_no _ _ h45] at hp; cases hp
    rcases hq with rfl | ⟨i, hi, rfl, h10⟩
    · exact absurd hpp (hP p h1 (by omega))
    · by_cases hle : i + 1 ≤ p + 1
      · exact absurd hpp (hP p h1 hle)
      · refine ⟨s[i], ?_, h10⟩
        have := hget i hi
        rw [List.mem_iff_getElem?]
        exact ⟨i - p, by rw [List.getElem?_drop, show p + (i - p) = i by omega]; exact this⟩
  · by_cases h2 : p < s.size
    · have e0 : s.data.toList.drop p = [s[p]] := by
        rw [List.drop_eq_getElem_cons (by omega), List.drop_eq_nil_of_le (by omega)]; rfl
      rw [e0, pr_nil] at hp; cases hp
    · rw [List.drop_eq_nil_of_le (by omega)] at hp
      exact absurd hp (by decide)

set_option maxRecDepth 20000 in
set_option maxHeartbeats 4000000 in
theorem comment_any (s : ByteArray) (w : World) (hs : s.size ≤ 9000) : Calls Try.prog 15 #[.string s] w fun e w' => ∃ r, e = .returned (.bool r) ∧ w' = w ∧ (r = false → NC s.data.toList) := by
  go_enter Try.func15, Try.ntmps15
  go_wp2
  go_loopg [3] (s.size + 1) (fun gf v3 wx => ∃ q : Nat, q ≤ s.size ∧ v3 = .int .i64 ((q : Int) - 1) ∧ Hid (PP s q) ∧ wx = w ∧ q < gf)
  case atStart => exact ⟨s.size, Nat.le_refl _, by go_num, fun p h hq => by omega, rfl, by omega⟩
  case round =>
    obtain ⟨q, hqs, rfl, hP, rfl, hfu⟩ := hrel
    match q, hqs, hP, hfu with
    | 0, hqs, hP, hfu =>
      have HN : Hid (NC s.data.toList) := nc_of s 0 hP.out (.inl rfl)
      clear hP
      by_cases h0 : 0 < s.size
      · have hx0 : (0 : Int) ≤ (s.size : Int) - 1 := by omega
        have hx1 : (s.size : Int) - 1 < s.size := by omega
        go_wp2
        all_goals (go_ret; exact ⟨_, rfl, rfl, fun _ => HN.out⟩)
      · go_wp2
        go_ret
        exact ⟨_, rfl, rfl, fun _ => HN.out⟩
    | i + 1, hqs, hP, hfu =>
      have e : (((i + 1 : Nat)) : Int) - 1 = i := by omega
      rw [e]
      clear e
      obtain ⟨g', rfl⟩ : ∃ g', gk = g' + 1 := ⟨gk - 1, by omega⟩
      have hi : i < s.size := by omega
      obtain ⟨cn, hcn⟩ : ∃ cn, s[i].toNat = cn := ⟨_, rfl⟩
      by_cases h10 : cn = 10
      · have HN : Hid (NC s.data.toList) := nc_of s (i + 1) hP.out (.inr ⟨i, hi, rfl, by rw [hcn, h10]⟩)
        have b10 : ((cn : Int) != 10) = false := by simp; omega
        clear hP h10
        have hx0 : (0 : Int) ≤ (s.size : Int) - 1 := by omega
        have hx1 : (s.size : Int) - 1 < s.size := by omega
        go_wp2
        all_goals (go_ret; exact ⟨_, rfl, rfl, fun _ => HN.out⟩)
      · have b10 : ((cn : Int) != 10) = true := by simp; omega
        by_cases h45 : cn = 45
        · have b45 : ((cn : Int) == 45) = true := by simp; omega
          match i, hi, hcn, hP, hqs, hfu with
          | 0, hi, hcn, hP, hqs, hfu =>
            have HN : Hid (PP s 0) := fun p h hq => hP.out p h (by omega)
            clear h45 h10
            go_wp2
            go_roundg g'
            case measure => omega
            case rel => exact ⟨0, by omega, by go_num, HN, rfl, by omega⟩
          | j + 1, hi, hcn, hP, hqs, hfu =>
            obtain ⟨dn, hdn⟩ : ∃ dn, s[j].toNat = dn := ⟨_, rfl⟩
            by_cases hd : dn = 45
            · have bd : ((dn : Int) == 45) = true := by simp; omega
              clear h45 h10 hd hP
              go_wp2
              go_ret
              exact ⟨true, rfl, rfl, fun h => by cases h⟩
            · have bd : ((dn : Int) == 45) = false := by rw [beq_eq_false_iff_ne]; omega
              have HN : Hid (PP s (j + 1)) := fun p h hq => by
                by_cases hpj : p = j
                · subst hpj; rw [hdn]; exact fun h => hd h.1
                · exact hP.out p h (by omega)
              clear h45 h10 hd hP
              go_wp2
              go_roundg g'
              case measure => omega
              case rel => exact ⟨j + 1, by omega, by go_num, HN, rfl, by omega⟩
        · have b45 : ((cn : Int) == 45) = false := by rw [beq_eq_false_iff_ne]; omega
          have HN : Hid (PP s i) := fun p h hq => by
            by_cases hpj : p + 1 = i
            · subst hpj; rw [hcn]; exact fun h => h45 h.2
            · exact hP.out p h (by omega)
          clear h45 h10 hP
          go_wp2
          go_roundg g'
          case measure => omega
          case rel => exact ⟨i, by omega, by go_num, HN, rfl, by omega⟩

end Go.Proofs.Ytgjeiepcbenejaa

/- Two texts with a gap between, as scT says it (no program in it). -/
namespace Go.Proofs.Ytgjeiepcbenejaa
open Go.RowKit

theorem gap_len (k : Nat) : (gap k).length ≤ 8 := by
  match k with
  | 1 => decide
  | 2 => decide
  | 3 => decide
  | 0 => decide
  | k + 4 => show 1 ≤ 8; omega
theorem scT_gap (k : Nat) (a b : List UInt8) (ha : a.length ≤ 9000) (hb : b.length ≤ 9000) (hN : NC a) (h0 : (scT a).2.1 = 0) :
    ∃ body, (scT a).1 = body ++ [⟨6, [], 0, a.length⟩] ∧
      ((scT b).2.1 = 0 → scT (a ++ gap k ++ b) = (body ++ (scT b).1.map (sh (a.length + (gap k).length)), 0, 0)) ∧
      ((scT b).2.1 ≠ 0 → scT (a ++ gap k ++ b) = ([], (scT b).2.1, (scT b).2.2 + a.length + (gap k).length)) := by
  have hg := gap_len k
  have hl : ¬ 20000 < (a ++ gap k ++ b).length := by simp only [List.length_append]; omega
  have e : ∀ l : List UInt8, ¬ 20000 < l.length → scT l = match scn l 0 [] with | .ok ts => (ts, 0, 0) | .bad c p => ([], c, (p : Int)) := fun l h => by
    unfold scT; rw [if_neg h]
    all_goals (cases scn l 0 [] <;> rfl)
  have ea := e a (by omega)
  have eb := e b (by omega)
  have ez := e _ hl
  cases hs : scn a 0 [] with
  | bad c p =>
    rw [hs] at ea
    rw [ea] at h0
    exact absurd h0 (scn_badc a.length a 0 [] (Nat.le_refl _) c p hs).1
  | ok ts =>
    rw [hs] at ea
    obtain ⟨body, h1, h2⟩ := scn_gap k a b ts hN hs
    refine ⟨body, by rw [ea]; exact h1, fun hz => ?_, fun hz => ?_⟩
    · cases ht : scn b 0 [] with
      | bad c p =>
        rw [ht] at eb
        rw [eb] at hz
        exact absurd hz (scn_badc b.length b 0 [] (Nat.le_refl _) c p ht).1
      | ok us =>
        rw [ht] at h2 eb
        simp only at h2 eb
        rw [ez, h2, eb]
    · cases ht : scn b 0 [] with
      | ok us =>
        rw [ht] at eb
        rw [eb] at hz
        exact absurd rfl hz
      | bad c p =>
        rw [ht] at h2 eb
        simp only at h2 eb
        rw [ez, h2, eb]
        simp only [Prod.mk.injEq, true_and]
        omega
theorem scT_ne (b : List UInt8) (h0 : (scT b).2.1 = 0) : (scT b).1 ≠ [] := by
  by_cases hb : 20000 < b.length
  · have : scT b = ([], 14, -1) := by unfold scT; rw [if_pos hb]
    rw [this] at h0; exact absurd h0 (by decide)
  · cases hs : scn b 0 [] with
    | bad c p =>
      have e : scT b = ([], c, (p : Int)) := by unfold scT; rw [if_neg hb, hs]
      rw [e] at h0
      exact absurd h0 (scn_badc b.length b 0 [] (Nat.le_refl _) c p hs).1
    | ok ts =>
      have e : scT b = (ts, 0, 0) := by unfold scT; rw [if_neg hb, hs]
      rw [e]
      obtain ⟨body, h1, h2⟩ := scn_GT b b.length 0 [] ts (by omega) (by omega) (by simpa using hs)
      intro hn
      have hts : ts = [] := hn
      rw [h1] at hts
      simp at hts
      exact (h2 0 (Nat.le_refl _)).ne hts

end Go.Proofs.Ytgjeiepcbenejaa
