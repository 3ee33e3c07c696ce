/- Plain facts (no program in it): how a text's tokens stand in it; where a fault stands. -/
import Derived.Test.YtgjeiepcbenejabCg08
import Derived.Test.YtgjeiepcbenejabCg05
import Derived.Test.YtgjeiepcbenejabCg04
import Derived.Lib.MapLaws
namespace Go.Proofs.Ytgjeiepcbenejab
open Go.RowKit

/-- A fault's number is none of nought, and it stands in the text. -/
theorem qt_badc (q : UInt8) : ∀ (m : Nat) (l : List UInt8) (i : Nat) (acc : List UInt8), l.length ≤ m → ∀ c o, qt q l i acc = .bad c o → c ≠ 0 ∧ o < i + l.length + 1
  | 0, l, i, acc, hm, c, o, h => by
    have : l = [] := List.eq_nil_of_length_eq_zero (by omega)
    subst this; rw [qt_nil] at h; cases h; exact ⟨by omega, by omega⟩
  | m + 1, [], i, acc, _, c, o, h => by rw [qt_nil] at h; cases h; exact ⟨by omega, by omega⟩
  | m + 1, x :: t, i, acc, hm, c, o, h => by
    simp only [List.length_cons] at hm ⊢
    rw [qt] at h
    split at h
    · cases h; exact ⟨by omega, by omega⟩
    · split at h
      · split at h
        · cases h; exact ⟨by omega, by omega⟩
        · cases h
      · split at h
        · split at h
          · cases h; exact ⟨by omega, by omega⟩
          · split at h
            · cases h; exact ⟨by omega, by omega⟩
            · have h2 := (esc_take t).1
              have := qt_badc q m _ _ _ (by rw [List.length_drop]; omega) c o h
              rw [List.length_drop] at this
              exact ⟨this.1, by omega⟩
        · have := qt_badc q m t _ _ (by omega) c o h
          exact ⟨this.1, by omega⟩

/-- In a string a fault stands at the opening quote or at a backslash. -/
theorem qt_bado (q : UInt8) : ∀ (m : Nat) (l : List UInt8) (i : Nat) (acc : List UInt8), l.length ≤ m → ∀ c o, qt q l i acc = .bad c o → o = 0 ∨ o < i + l.length
  | 0, l, i, acc, hm, c, o, h => by
    have : l = [] := List.eq_nil_of_length_eq_zero (by omega)
    subst this; rw [qt_nil] at h; cases h; exact .inl rfl
  | m + 1, [], i, acc, _, c, o, h => by rw [qt_nil] at h; cases h; exact .inl rfl
  | m + 1, x :: t, i, acc, hm, c, o, h => by
    simp only [List.length_cons] at hm ⊢
    rw [qt] at h
    split at h
    · cases h; exact .inl rfl
    · split at h
      · split at h
        · cases h; exact .inl rfl
        · cases h
      · split at h
        · split at h
          · cases h; exact .inl rfl
          · split at h
            · cases h; right; omega
            · have h2 := (esc_take t).1
              have := qt_bado q m _ _ _ (by rw [List.length_drop]; omega) c o h
              rw [List.length_drop] at this
              omega
        · have := qt_bado q m t _ _ (by omega) c o h
          omega

theorem stp_badc (l : List UInt8) (hl : l ≠ []) (c : Int) (o : Nat) (h : stp l = .bad c o) : c ≠ 0 ∧ o < l.length := by
  have hlen := List.length_pos_iff.2 hl
  unfold stp at h
  split at h
  · cases h
  · split at h
    · cases h
    · split at h
      · split at h
        · cases h; exact ⟨by omega, hlen⟩
        · cases h
      · split at h
        · split at h
          · rename_i hz
            cases h; exact ⟨hz, hlen⟩
          · cases h
        · split at h
          · split at h
            · cases h
            · rename_i hq
              cases h
              have h1 := qt_badc _ _ _ _ _ (Nat.le_refl _) _ _ hq
              have h2 := qt_bado _ _ _ _ _ (Nat.le_refl _) _ _ hq
              rw [List.length_drop] at h2
              exact ⟨h1.1, by omega⟩
          · split at h
            · cases h; exact ⟨by omega, hlen⟩
            · cases h

theorem scn_badc : ∀ (m : Nat) (l : List UInt8) (p : Nat) (acc : List Tok), l.length ≤ m → ∀ c q, scn l p acc = .bad c q → c ≠ 0 ∧ q < p + l.length
  | 0, l, p, acc, hm, c, q, h => by
    have : l = [] := List.eq_nil_of_length_eq_zero (by omega)
    subst this; rw [scn_nil] at h; cases h
  | m + 1, [], p, acc, _, c, q, h => by rw [scn_nil] at h; cases h
  | m + 1, x :: u, p, acc, hm, c, q, h => by
    have hp := stp_pos (x :: u) (by simp)
    cases hs : stp (x :: u) with
    | skip n =>
      rw [scn_skip (by simp) hs] at h
      obtain ⟨h1, h2⟩ := hp.1 n hs
      have := scn_badc m _ _ _ (by rw [List.length_drop]; omega) c q h
      rw [List.length_drop] at this
      exact ⟨this.1, by omega⟩
    | tok k t v n =>
      rw [scn_tok (by simp) hs] at h
      obtain ⟨h1, h2⟩ := hp.2 k t v n hs
      have := scn_badc m _ _ _ (by rw [List.length_drop]; omega) c q h
      rw [List.length_drop] at this
      exact ⟨this.1, by omega⟩
    | bad d o =>
      rw [scn_bad (by simp) hs] at h
      cases h
      have := stp_badc (x :: u) (by simp) c o hs
      exact ⟨this.1, by omega⟩

/-- How a token stands in its text, behind byte a. -/
structure OT (l : List UInt8) (a : Nat) (t : Tok) : Prop where
  lo : a ≤ t.p
  hi : t.p < l.length
  kd : t.k ≠ 6
  tx : t.k ≠ 4 → t.t ≠ [] ∧ t.p + t.t.length ≤ l.length ∧ (l.drop t.p).take t.t.length = t.t
  nm : t.k = 1 → letB (rnL t.t) = true ∧ wordB t.t = false
def nxt (t : Tok) : Nat := if t.k = 4 then t.p + 1 else t.p + t.t.length
def GT (l : List UInt8) : Nat → List Tok → Prop
  | _, [] => False
  | a, t :: r => match r with
    | [] => t.k = 6 ∧ t.t = [] ∧ t.p = l.length ∧ a ≤ l.length
    | _ :: _ => OT l a t ∧ GT l (nxt t) r
theorem GT.ne {l : List UInt8} {a : Nat} {r : List Tok} (h : GT l a r) : r ≠ [] := fun e => by subst e; exact h

theorem rnL_take (l : List UInt8) (n : Nat) (h0 : l ≠ []) (h1 : wdL l ≤ n) (hv : ¬ (rnL l = 65533 ∧ wdL l = 1)) : rnL (l.take n) = rnL l := by
  have hle := wdL_le l h0
  have hpos := wdL_pos l
  have := decode_local ⟨l.toArray⟩ ⟨(l.take n).toArray⟩ 0 0 (by unfold okR; exact hv) (by rw [sz_list, List.length_take]; show 0 + wdL l ≤ _; omega) (fun i hi => by
    rw [get_list, get_list]
    simp only [Nat.zero_add]
    have hi' : i < wdL l := hi
    rw [List.getD_eq_getElem?_getD, List.getD_eq_getElem?_getD, List.getElem?_take_of_lt (by omega)])
  exact this.2

theorem stp_tok (l : List UInt8) (hl : l ≠ []) (k : Int) (t : List UInt8) (v : Int) (n : Nat) (h : stp l = .tok k t v n) :
    k ≠ 6 ∧ (k ≠ 4 → t = l.take n) ∧ (k = 1 → letB (rnL t) = true ∧ wordB t = false) ∧ (1 ≤ k ∧ k ≤ 5) := by
  unfold stp at h
  split at h
  · cases h
  · split at h
    · cases h
    · split at h
      · rename_i hlt
        split at h
        · cases h
        · cases h
          refine ⟨by split <;> omega, fun _ => rfl, fun hk => ?_, by split <;> omega⟩
          have hw : wordB (l.take (spn inNm l)) = false := by
            cases hw : wordB (l.take (spn inNm l))
            · rfl
            · rw [hw] at hk; simp at hk
          have hf : inNm (rnL l) = true := by unfold inNm; rw [hlt]; rfl
          refine ⟨?_, hw⟩
          rw [rnL_take l _ hl (by rw [spn_yes inNm l hl hf]; omega) (fun hc => by
            have := hc.1
            rw [this] at hlt
            exact absurd hlt (by decide))]
          exact hlt
      · split at h
        · split at h
          · cases h
          · cases h; exact ⟨by omega, fun _ => rfl, fun hk => absurd hk (by omega), by omega⟩
        · split at h
          · split at h
            · cases h; exact ⟨by omega, fun hk => absurd rfl hk, fun hk => absurd hk (by omega), by omega⟩
            · cases h
          · split at h
            · cases h
            · cases h; exact ⟨by omega, fun _ => rfl, fun hk => absurd hk (by omega), by omega⟩

theorem scn_GT (l : List UInt8) : ∀ (m p : Nat) (acc : List Tok) (ts : List Tok), l.length - p ≤ m → p ≤ l.length → scn (l.drop p) p acc = .ok ts → ∃ body, ts = acc ++ body ∧ ∀ a, a ≤ p → GT l a body
  | m, p, acc, ts, hm, hp, h => by
    by_cases hlt : p < l.length
    · have hne : l.drop p ≠ [] := fun e => by have := congrArg List.length e; simp at this; omega
      have hpos := stp_pos (l.drop p) hne
      rw [List.length_drop] at hpos
      cases m with
      | zero => omega
      | succ m =>
        cases hs : stp (l.drop p) with
        | skip n =>
          rw [scn_skip hne hs, List.drop_drop] at h
          obtain ⟨h1, h2⟩ := hpos.1 n hs
          obtain ⟨body, e1, e2⟩ := scn_GT l m (p + n) acc ts (by omega) (by omega) h
          exact ⟨body, e1, fun a ha => e2 a (by omega)⟩
        | tok k t v n =>
          rw [scn_tok hne hs, List.drop_drop] at h
          obtain ⟨h1, h2⟩ := hpos.2 k t v n hs
          obtain ⟨body, e1, e2⟩ := scn_GT l m (p + n) _ ts (by omega) (by omega) h
          obtain ⟨k1, k2, k3, k4⟩ := stp_tok (l.drop p) hne k t v n hs
          have hot : ∀ a, a ≤ p → OT l a ⟨k, t, v, p⟩ := fun a ha => {
            lo := ha, hi := hlt, kd := k1
            tx := fun hk => by
              have ht := k2 hk
              have hl : t.length = n := by rw [ht, List.length_take, List.length_drop]; omega
              refine ⟨fun e => ?_, ?_, ?_⟩
              · have e' : t = [] := e
                rw [e'] at hl; simp at hl; omega
              · show p + t.length ≤ _; omega
              · show (l.drop p).take t.length = t; rw [hl, ← ht]
            nm := k3 }
          have hnx : nxt ⟨k, t, v, p⟩ ≤ p + n := by
            unfold nxt
            by_cases hk : k = 4
            · rw [if_pos hk]; show p + 1 ≤ _; omega
            · rw [if_neg hk]
              show p + t.length ≤ _
              rw [k2 hk, List.length_take]; omega
          refine ⟨⟨k, t, v, p⟩ :: body, by rw [e1]; simp, fun a ha => ?_⟩
          have hb := e2 (nxt ⟨k, t, v, p⟩) hnx
          cases body with
          | nil => exact absurd rfl hb.ne
          | cons y z => exact ⟨hot a ha, hb⟩
        | bad d o => rw [scn_bad hne hs] at h; cases h
    · have e : l.drop p = [] := List.drop_of_length_le (by omega)
      rw [e, scn_nil] at h
      cases h
      exact ⟨_, rfl, fun a ha => ⟨rfl, rfl, by show p = _; omega, by omega⟩⟩

/-- What Scan tells, in these words. -/
theorem scT_bad (l : List UInt8) (h : (scT l).2.1 ≠ 0) : (scT l).1 = [] ∧ -1 ≤ (scT l).2.2 ∧ (scT l).2.2 < max (l.length : Int) 1 ∧ ((scT l).2.2 = -1 ↔ 20000 < l.length) := by
  unfold scT at h ⊢
  split
  · rename_i hb
    exact ⟨rfl, by simp, by simp only; omega, by simp [hb]⟩
  · rename_i hb
    rw [if_neg hb] at h
    cases hs : scn l 0 [] with
    | ok ts => rw [hs] at h; simp at h
    | bad c q =>
      have := scn_badc _ l 0 [] (Nat.le_refl _) c q hs
      exact ⟨rfl, by simp only; omega, by simp only; omega, by simp only; omega⟩
theorem scT_ok (l : List UInt8) (h : (scT l).2.1 = 0) : GT l 0 (scT l).1 ∧ ¬ 20000 < l.length ∧ (scT l).2.2 = 0 := by
  unfold scT at h ⊢
  split
  · rename_i hb
    rw [if_pos hb] at h; simp at h
  · rename_i hb
    rw [if_neg hb] at h
    cases hs : scn l 0 [] with
    | ok ts =>
      obtain ⟨body, e1, e2⟩ := scn_GT l _ 0 [] ts (Nat.le_refl _) (Nat.zero_le _) hs
      rw [List.nil_append] at e1
      subst e1
      exact ⟨e2 0 (Nat.le_refl _), hb, rfl⟩
    | bad c q =>
      rw [hs] at h
      have := scn_badc _ l 0 [] (Nat.le_refl _) c q hs
      exact absurd h this.1

end Go.Proofs.Ytgjeiepcbenejab

/- A text's beginning is scanned alike, whatever stands behind the blank or newline behind it: escapes, strings, signs, steps (no program in it). -/
namespace Go.Proofs.Ytgjeiepcbenejab
open Go.RowKit

theorem escU_app (b : UInt8) (t : List UInt8) (hb : b.toNat = 32 ∨ b.toNat = 10) (u : List UInt8) : escU (u ++ b :: t) = escU u := by
  have h0 := headD_app b t hb 123 (by decide) u
  by_cases hu : u.headD 0 = 123
  · obtain ⟨a, u', rfl⟩ : ∃ a u', u = a :: u' := by
      cases u with
      | nil => exact absurd hu (by decide)
      | cons a u' => exact ⟨a, u', rfl⟩
    have e1 : ((a :: u') ++ b :: t).drop 1 = u' ++ b :: t := rfl
    have e2 : (a :: u').drop 1 = u' := rfl
    have hle : (hxs 8 u').length ≤ u'.length := run_le _ 8 u'
    have e3 : ((a :: u') ++ b :: t).drop (1 + (hxs 8 u').length) = (a :: u').drop (1 + (hxs 8 u').length) ++ b :: t := List.drop_append_of_le_length (by simp; omega)
    have h3 := headD_app b t hb 125 (by decide) ((a :: u').drop (1 + (hxs 8 u').length))
    unfold escU
    rw [e1, e2, hxs_app b t hb, e3]
    simp only [h0, h3]
  · unfold escU
    rw [if_neg (fun h => hu (h0.1 h.1)), if_neg (fun h => hu h.1)]
theorem esc_app (b : UInt8) (t : List UInt8) (hb : b.toNat = 32 ∨ b.toNat = 10) (u : List UInt8) (hu : u ≠ []) : esc (u ++ b :: t) = esc u := by
  match u, hu with
  | c :: u, _ =>
    show esc (c :: (u ++ b :: t)) = _
    simp only [esc]
    rw [escX_app b t hb, escU_app b t hb]
    have := escD_app b t hb (c :: u)
    simp only [List.cons_append] at this
    rw [this]
theorem esc_len (u : List UInt8) : (esc u).2 ≤ u.length ∨ (esc u).2 = 0 := by
  by_cases h : (esc u).2 = 0
  · exact .inr h
  · exact .inl (esc_take u).1

theorem qt_app (q b : UInt8) (t : List UInt8) (hb : b.toNat = 32 ∨ b.toNat = 10) (l : List UInt8) (i : Nat) (acc v : List UInt8) (n : Nat) (h : qt q l i acc = .ok v n) : qt q (l ++ b :: t) i acc = .ok v n := by
  match l with
  | [] => rw [qt_nil] at h; cases h
  | c :: u =>
    rw [qt] at h
    show qt q (c :: (u ++ b :: t)) i acc = _
    rw [qt]
    split at h
    · cases h
    · rename_i h10
      rw [if_neg h10]
      split at h
      · rename_i hq; rw [if_pos hq]; exact h
      · rename_i hq
        rw [if_neg hq]
        split at h
        · rename_i h92
          rw [if_pos h92]
          split at h
          · cases h
          · rename_i hu
            rw [if_neg (by simp), esc_app b t hb u hu]
            split at h
            · cases h
            · rename_i h0
              rw [if_neg h0]
              have hle : (esc u).2 ≤ u.length := by rcases esc_len u with h | h; exact h; exact absurd h h0
              rw [List.drop_append_of_le_length hle]
              exact qt_app q b t hb (u.drop (esc u).2) _ _ v n h
        · rename_i h92
          rw [if_neg h92]
          exact qt_app q b t hb u _ _ v n h
termination_by l.length
decreasing_by all_goals (simp; try omega)

theorem sgz_app (b : UInt8) (t : List UInt8) (hb : b.toNat = 32 ∨ b.toNat = 10) (l : List UInt8) (hl : l ≠ []) : sgz (l ++ b :: t) = sgz l := by
  have hb' : b = 32 ∨ b = 10 := hb.imp (fun h => UInt8.toNat_inj.1 h) (fun h => UInt8.toNat_inj.1 h)
  match l, hl with
  | [c], _ =>
    have h1 : sgz (c :: b :: t) = if sgn1.contains c then 1 else 0 := by
      show (if sgn2.contains [c, b] then 2 else if sgn1.contains c then 1 else 0) = _
      rw [if_neg]
      rcases hb' with rfl | rfl <;> simp [sgn2]
    have h2 : sgz [c] = if sgn1.contains c then 1 else 0 := by
      show (if sgn2.contains [c] then 2 else if sgn1.contains c then 1 else 0) = _
      rw [if_neg]
      simp [sgn2]
    exact h1.trans h2.symm
  | c :: d :: u, _ => rfl
theorem pre_app (b : UInt8) (t : List UInt8) (hb : b.toNat = 32 ∨ b.toNat = 10) (l : List UInt8) (hl : l ≠ []) : Lib.hasPrefix (l ++ b :: t) [45, 45] = Lib.hasPrefix l [45, 45] := by
  have hb' : b = 32 ∨ b = 10 := hb.imp (fun h => UInt8.toNat_inj.1 h) (fun h => UInt8.toNat_inj.1 h)
  match l, hl with
  | [c], _ => rcases hb' with rfl | rfl <;> simp [Lib.hasPrefix, List.isPrefixOf]
  | c :: d :: u, _ => simp [Lib.hasPrefix, List.isPrefixOf]

theorem nl_app (b : UInt8) (t : List UInt8) : ∀ (l : List UInt8), (∃ x ∈ l, x.toNat = 10) → ((l ++ b :: t).takeWhile fun c => decide (c.toNat ≠ 10)).length = (l.takeWhile fun c => decide (c.toNat ≠ 10)).length
  | [], h => by obtain ⟨x, hx, _⟩ := h; cases hx
  | c :: l, h => by
    by_cases hc : c.toNat = 10
    · simp [hc]
    · obtain ⟨x, hx, h10⟩ := h
      have hx' : x ∈ l := by
        rcases List.mem_cons.1 hx with rfl | h
        · exact absurd h10 hc
        · exact h
      have ih := nl_app b t l ⟨x, hx', h10⟩
      simp only [List.cons_append, List.takeWhile_cons]
      simp only [ne_eq, hc, not_false_eq_true, decide_true, if_true, List.length_cons]
      exact congrArg (· + 1) ih

theorem inNm_blank (b : UInt8) (hb : b.toNat = 32 ∨ b.toNat = 10) : inNm b.toNat = false := by
  rcases hb with h | h <;> rw [h] <;> decide

/-- One step is alike. -/
theorem stp_app (b : UInt8) (t : List UInt8) (hb : b.toNat = 32 ∨ b.toNat = 10) (l : List UInt8) (hl : l ≠ []) (hc : Lib.hasPrefix l [45, 45] = true → ∃ x ∈ l, x.toNat = 10) (hg : ∀ c o, stp l ≠ .bad c o) : stp (l ++ b :: t) = stp l := by
  have hb1 : b.toNat < 128 := by omega
  have hsp := spn_app inNm l b t hb1 (inNm_blank b hb)
  have htk : (l ++ b :: t).take (spn inNm l) = l.take (spn inNm l) := List.take_append_of_le_length (spn_le _ _)
  have hstk : (l ++ b :: t).take (sgz l) = l.take (sgz l) := List.take_append_of_le_length (sgz_le l).2
  have hhd : (l ++ b :: t).headD 0 = l.headD 0 := by
    cases l with
    | nil => exact absurd rfl hl
    | cons a u => rfl
  have hdr : (l ++ b :: t).drop 1 = l.drop 1 ++ b :: t := List.drop_append_of_le_length (List.length_pos_iff.2 hl)
  have hrn := rnL_app l hl b t hb1
  have hpre := pre_app b t hb l hl
  have hsg := sgz_app b t hb l hl
  by_cases hblk : rnL l = 32 ∨ rnL l = 9 ∨ rnL l = 10 ∨ rnL l = 13
  · rw [stp_blank l _ rfl hblk, stp_blank _ _ hrn hblk]
  · cases hp : Lib.hasPrefix l [45, 45]
    · rw [hp] at hpre
      cases hle : letB (rnL l)
      · cases hdi : digB (rnL l)
        · by_cases hq : rnL l = 39 ∨ rnL l = 34
          · have e1 := stp_quote l _ rfl hblk hp hle hdi hq
            have e2 := stp_quote _ _ hrn hblk hpre hle hdi hq
            rw [hhd, hdr] at e2
            cases hqt : qt (l.headD 0) (l.drop 1) 1 [] with
            | ok v n =>
              rw [qt_app _ b t hb _ _ _ v n hqt] at e2
              rw [hqt] at e1
              rw [e1, e2]
            | bad c o =>
              rw [hqt] at e1
              exact absurd e1 (hg c o)
          · rw [stp_sign l _ rfl hblk hp hle hdi hq, stp_sign _ _ hrn hblk hpre hle hdi hq, hsg, hstk]
        · rw [stp_number l _ rfl hblk hp hle hdi, stp_number _ _ hrn hblk hpre hle hdi, hsp, htk]
      · rw [stp_name l _ rfl hblk hp hle, stp_name _ _ hrn hblk hpre hle, hsp, htk]
    · rw [hp] at hpre
      rw [stp_comment l _ rfl hblk hp, stp_comment _ _ hrn hblk hpre, spn_nl, spn_nl, nl_app b t l (hc hp)]

end Go.Proofs.Ytgjeiepcbenejab

/- Quote as a plain function of the bytes (no program in it): what it puts for a rune, for a text; that its scan is the text again. -/
namespace Go.Proofs.Ytgjeiepcbenejab
open Go.RowKit

/-- A hexadecimal digit. -/
def hxd (n : Nat) : UInt8 := if n < 10 then UInt8.ofNat (48 + n) else UInt8.ofNat (87 + n)
/-- What stands for the rune at a list's head. -/
def qr (l : List UInt8) : List UInt8 :=
  if (l.headD 0).toNat = 92 ∨ (l.headD 0).toNat = 34 then [92, l.headD 0]
  else if (l.headD 0).toNat = 10 then [92, 110]
  else if (l.headD 0).toNat = 13 then [92, 114]
  else if (l.headD 0).toNat < 32 ∨ (l.headD 0).toNat = 127 then [92, UInt8.ofNat (48 + (l.headD 0).toNat / 100), UInt8.ofNat (48 + (l.headD 0).toNat / 10 % 10), UInt8.ofNat (48 + (l.headD 0).toNat % 10)]
  else if rnL l = 65533 ∧ wdL l = 1 then [92, 120, hxd ((l.headD 0).toNat / 16), hxd ((l.headD 0).toNat % 16)]
  else l.take (wdL l)
def quo : List UInt8 → List UInt8
  | [] => []
  | c :: t => qr (c :: t) ++ quo (t.drop (wdL (c :: t) - 1))
termination_by l => l.length
decreasing_by simp; omega
/-- Quote. -/
def quoQ (l : List UInt8) : List UInt8 := 34 :: (quo l ++ [34])

theorem qr1 (c : UInt8) (t : List UInt8) (h1 : c.toNat = 92 ∨ c.toNat = 34) : qr (c :: t) = [92, c] := if_pos h1
theorem qr2 (c : UInt8) (t : List UInt8) (h1 : ¬ (c.toNat = 92 ∨ c.toNat = 34)) (h2 : c.toNat = 10) : qr (c :: t) = [92, 110] := (if_neg h1).trans (if_pos h2)
theorem qr3 (c : UInt8) (t : List UInt8) (h1 : ¬ (c.toNat = 92 ∨ c.toNat = 34)) (h2 : ¬ c.toNat = 10) (h3 : c.toNat = 13) : qr (c :: t) = [92, 114] := (if_neg h1).trans ((if_neg h2).trans (if_pos h3))
theorem qr4 (c : UInt8) (t : List UInt8) (h1 : ¬ (c.toNat = 92 ∨ c.toNat = 34)) (h2 : ¬ c.toNat = 10) (h3 : ¬ c.toNat = 13) (h4 : c.toNat < 32 ∨ c.toNat = 127) :
    qr (c :: t) = [92, UInt8.ofNat (48 + c.toNat / 100), UInt8.ofNat (48 + c.toNat / 10 % 10), UInt8.ofNat (48 + c.toNat % 10)] := (if_neg h1).trans ((if_neg h2).trans ((if_neg h3).trans (if_pos h4)))
theorem qr5 (c : UInt8) (t : List UInt8) (h1 : ¬ (c.toNat = 92 ∨ c.toNat = 34)) (h2 : ¬ c.toNat = 10) (h3 : ¬ c.toNat = 13) (h4 : ¬ (c.toNat < 32 ∨ c.toNat = 127)) (h5 : rnL (c :: t) = 65533 ∧ wdL (c :: t) = 1) :
    qr (c :: t) = [92, 120, hxd (c.toNat / 16), hxd (c.toNat % 16)] := (if_neg h1).trans ((if_neg h2).trans ((if_neg h3).trans ((if_neg h4).trans (if_pos h5))))
theorem qr6 (c : UInt8) (t : List UInt8) (h1 : ¬ (c.toNat = 92 ∨ c.toNat = 34)) (h2 : ¬ c.toNat = 10) (h3 : ¬ c.toNat = 13) (h4 : ¬ (c.toNat < 32 ∨ c.toNat = 127)) (h5 : ¬ (rnL (c :: t) = 65533 ∧ wdL (c :: t) = 1)) :
    qr (c :: t) = (c :: t).take (wdL (c :: t)) := (if_neg h1).trans ((if_neg h2).trans ((if_neg h3).trans ((if_neg h4).trans (if_neg h5))))

theorem quo_nil : quo [] = [] := by rw [quo]
theorem quo_step (l : List UInt8) (h : l ≠ []) : quo l = qr l ++ quo (l.drop (wdL l)) := by
  match l, h with
  | c :: t, _ => rw [quo, drop_wd c t _ (wdL_pos _)]
theorem qr_len (l : List UInt8) : (qr l).length ≤ 4 * wdL l := by
  have h := wdL_pos l
  unfold qr
  repeat' split
  all_goals simp only [List.length_cons, List.length_nil, List.length_take]
  all_goals omega
theorem quo_len (l : List UInt8) : (quo l).length ≤ 4 * l.length := by
  by_cases h : l = []
  · subst h; rw [quo_nil]; simp
  · rw [quo_step l h, List.length_append]
    have h1 := qr_len l
    have h2 := wdL_le l h
    have h3 := quo_len (l.drop (wdL l))
    rw [List.length_drop] at h3
    omega
termination_by l.length
decreasing_by
  have := List.length_pos_iff.2 h; have := wdL_pos l
  rw [List.length_drop]; omega

theorem hxd_val (n : Nat) (h : n < 16) : W.dgB (hxd n).toNat = true ∧ W.dgV (hxd n).toNat = n := by
  have : n = 0 ∨ n = 1 ∨ n = 2 ∨ n = 3 ∨ n = 4 ∨ n = 5 ∨ n = 6 ∨ n = 7 ∨ n = 8 ∨ n = 9 ∨ n = 10 ∨ n = 11 ∨ n = 12 ∨ n = 13 ∨ n = 14 ∨ n = 15 := by omega
  rcases this with rfl | rfl | rfl | rfl | rfl | rfl | rfl | rfl | rfl | rfl | rfl | rfl | rfl | rfl | rfl | rfl <;> decide

/-- The bytes of a rune as they stand are passed over. -/
theorem take_plain (c : UInt8) (t : List UInt8) (h1 : ¬ (c.toNat = 92 ∨ c.toNat = 34)) (h2 : ¬ c.toNat = 10) : ∀ x ∈ (c :: t).take (wdL (c :: t)), x.toNat ≠ 10 ∧ x ≠ 34 ∧ x.toNat ≠ 92 := by
  have fin : ∀ x : UInt8, 128 ≤ x.toNat → x.toNat ≠ 10 ∧ x ≠ 34 ∧ x.toNat ≠ 92 := fun x hx => ⟨by omega, fun e => by rw [e] at hx; exact absurd hx (by decide), by omega⟩
  rcases Nat.lt_or_ge c.toNat 128 with h | h
  · intro x hx
    rw [(asc c t h).2] at hx
    simp at hx
    subst hx
    exact ⟨h2, fun e => h1 (.inr (by rw [e]; rfl)), fun e => h1 (.inl e)⟩
  · exact fun x hx => fin x (hi_bytes c t h x hx)

theorem esc_dec (n : Nat) (h : n < 256) (u : List UInt8) : esc (UInt8.ofNat (48 + n / 100) :: UInt8.ofNat (48 + n / 10 % 10) :: UInt8.ofNat (48 + n % 10) :: u) = ([UInt8.ofNat n], 3) := by
  have k : ∀ m, m < 10 → (UInt8.ofNat (48 + m)).toNat = 48 + m := fun m hm => by simp; omega
  have k0 := k (n / 100) (by omega)
  have k1 := k (n / 10 % 10) (by omega)
  have k2 := k (n % 10) (by omega)
  have hd : dgs 3 (UInt8.ofNat (48 + n / 100) :: UInt8.ofNat (48 + n / 10 % 10) :: UInt8.ofNat (48 + n % 10) :: u) = [UInt8.ofNat (48 + n / 100), UInt8.ofNat (48 + n / 10 % 10), UInt8.ofNat (48 + n % 10)] := by
    unfold dgs
    simp only [List.take_succ_cons, List.take_zero]
    rw [List.takeWhile_cons, k0, if_pos (by rw [decide_eq_true_eq]; omega), List.takeWhile_cons, k1, if_pos (by rw [decide_eq_true_eq]; omega), List.takeWhile_cons, k2, if_pos (by rw [decide_eq_true_eq]; omega)]
    rfl
  have hv : W.dv [UInt8.ofNat (48 + n / 100), UInt8.ofNat (48 + n / 10 % 10), UInt8.ofNat (48 + n % 10)] = n := by
    have e : ([UInt8.ofNat (48 + n / 100), UInt8.ofNat (48 + n / 10 % 10), UInt8.ofNat (48 + n % 10)] : List UInt8) = (([] ++ [UInt8.ofNat (48 + n / 100)]) ++ [UInt8.ofNat (48 + n / 10 % 10)]) ++ [UInt8.ofNat (48 + n % 10)] := rfl
    rw [e, W.dv_snoc, W.dv_snoc, W.dv_snoc]
    rw [(W.dec_val _ (by rw [k0]; omega)).2, (W.dec_val _ (by rw [k1]; omega)).2, (W.dec_val _ (by rw [k2]; omega)).2, k0, k1, k2]
    have : W.dv ([] : List UInt8) = 0 := rfl
    rw [this]
    omega
  simp only [esc]
  rw [k0, if_neg (by omega), if_neg (by omega), if_neg (by omega), if_neg (by omega), if_neg (by omega), if_neg (by omega)]
  unfold escD
  rw [hd, hv, if_neg (by rintro (h1 | h1); exact absurd h1 (by simp); omega)]
  rfl
theorem esc_hex (n : Nat) (h : n < 256) (u : List UInt8) : esc (120 :: hxd (n / 16) :: hxd (n % 16) :: u) = ([UInt8.ofNat n], 3) := by
  obtain ⟨a1, a2⟩ := hxd_val (n / 16) (by omega)
  obtain ⟨b1, b2⟩ := hxd_val (n % 16) (by omega)
  have ha : W.allHex [hxd (n / 16), hxd (n % 16)] = true := by
    simp only [W.allHex, List.all_cons, List.all_nil, Bool.and_true, Bool.and_eq_true]
    exact ⟨a1, b1⟩
  have hv : W.hv [hxd (n / 16), hxd (n % 16)] = n := by
    have e : ([hxd (n / 16), hxd (n % 16)] : List UInt8) = ([] ++ [hxd (n / 16)]) ++ [hxd (n % 16)] := rfl
    rw [e, W.hv_snoc, W.hv_snoc, a2, b2]
    have : W.hv ([] : List UInt8) = 0 := rfl
    rw [this]
    omega
  have e120 : (120 : UInt8).toNat = 120 := rfl
  simp only [esc]
  rw [e120, if_neg (by omega), if_neg (by omega), if_neg (by omega), if_neg (by omega), if_pos rfl]
  unfold escX
  rw [if_pos ((hxs_two _ _ _).2 ha), hxs_two_eq _ _ _ ha, hv]
  rfl

/-- What is quoted is read again. -/
theorem qt_qr (l : List UInt8) (h : l ≠ []) (u : List UInt8) (i : Nat) (acc : List UInt8) : qt 34 (qr l ++ u) i acc = qt 34 u (i + (qr l).length) (acc ++ l.take (wdL l)) := by
  match l, h with
  | c :: t, _ =>
    have one : c.toNat < 128 → (c :: t).take (wdL (c :: t)) = [c] := fun hc => by rw [(asc c t hc).2]; rfl
    have e92 : (92 : UInt8).toNat = 92 := rfl
    have q92 : (34 : UInt8).toNat ≠ 92 := by decide
    have cN : UInt8.ofNat c.toNat = c := by simp
    by_cases h1 : c.toNat = 92 ∨ c.toNat = 34
    · have he : esc (c :: u) = ([c], 1) := by
        simp only [esc]
        rw [if_neg (by omega), if_neg (by omega), if_neg (by omega), if_pos (by omega)]
      rw [qr1 c t h1, one (by omega)]
      simp only [List.cons_append, List.nil_append]
      rw [qt_esc 34 92 _ _ _ e92 q92, if_neg (by simp), he, if_neg (by simp)]
      simp only [List.drop_succ_cons, List.drop_zero, List.length_cons, List.length_nil]
    by_cases h2 : c.toNat = 10
    · have he : esc (110 :: u) = ([10], 1) := by rfl
      have hc : c = 10 := (toN c 10 (by omega)).1 h2
      rw [qr2 c t h1 h2, one (by omega)]
      simp only [List.cons_append, List.nil_append]
      rw [qt_esc 34 92 _ _ _ e92 q92, if_neg (by simp), he, if_neg (by simp), hc]
      simp only [List.drop_succ_cons, List.drop_zero, List.length_cons, List.length_nil]
    by_cases h3 : c.toNat = 13
    · have he : esc (114 :: u) = ([13], 1) := by rfl
      have hc : c = 13 := (toN c 13 (by omega)).1 h3
      rw [qr3 c t h1 h2 h3, one (by omega)]
      simp only [List.cons_append, List.nil_append]
      rw [qt_esc 34 92 _ _ _ e92 q92, if_neg (by simp), he, if_neg (by simp), hc]
      simp only [List.drop_succ_cons, List.drop_zero, List.length_cons, List.length_nil]
    by_cases h4 : c.toNat < 32 ∨ c.toNat = 127
    · have he := esc_dec c.toNat (by omega) u
      rw [qr4 c t h1 h2 h3 h4, one (by omega)]
      simp only [List.cons_append, List.nil_append]
      rw [qt_esc 34 92 _ _ _ e92 q92, if_neg (by simp), he, if_neg (by simp), cN]
      simp only [List.drop_succ_cons, List.drop_zero, List.length_cons, List.length_nil]
    by_cases h5 : rnL (c :: t) = 65533 ∧ wdL (c :: t) = 1
    · have he := esc_hex c.toNat (by exact c.toNat_lt) u
      have e1 : (c :: t).take (wdL (c :: t)) = [c] := by rw [h5.2]; rfl
      rw [qr5 c t h1 h2 h3 h4 h5, e1]
      simp only [List.cons_append, List.nil_append]
      rw [qt_esc 34 92 _ _ _ e92 q92, if_neg (by simp), he, if_neg (by simp), cN]
      simp only [List.drop_succ_cons, List.drop_zero, List.length_cons, List.length_nil]
    rw [qr6 c t h1 h2 h3 h4 h5]
    have hw := wdL_le (c :: t) (by simp)
    have hl : ((c :: t).take (wdL (c :: t))).length = wdL (c :: t) := by rw [List.length_take]; omega
    have hp := take_plain c t h1 h2
    generalize (c :: t).take (wdL (c :: t)) = x at hl hp
    have e1 : (x ++ u).take (wdL (c :: t)) = x := List.take_left' hl
    have e2 : (x ++ u).drop (wdL (c :: t)) = u := List.drop_left' hl
    rw [qt_pass 34 (wdL (c :: t)) (x ++ u) i acc (by rw [List.length_append, hl]; omega) (by rw [e1]; exact hp), e1, e2, hl]
theorem qt_quo (l : List UInt8) (u : List UInt8) (i : Nat) (acc : List UInt8) : qt 34 (quo l ++ u) i acc = qt 34 u (i + (quo l).length) (acc ++ l) := by
  by_cases h : l = []
  · subst h; rw [quo_nil]; simp
  · have ih := qt_quo (l.drop (wdL l)) u (i + (qr l).length) (acc ++ l.take (wdL l))
    rw [quo_step l h, List.append_assoc, qt_qr l h, ih, List.append_assoc, List.take_append_drop, List.length_append]
    congr 1
    omega
termination_by l.length
decreasing_by
  have := List.length_pos_iff.2 h; have := wdL_pos l
  rw [List.length_drop]; omega
/-- A quoted text is one string token. -/
theorem stp_quo (l u : List UInt8) (h : l.length ≤ 10000) : stp (quoQ l ++ u) = .tok 4 l 0 (quoQ l).length := by
  have e : quoQ l ++ u = 34 :: (quo l ++ 34 :: u) := by simp [quoQ]
  have hr := (asc 34 (quo l ++ 34 :: u) (by decide)).1
  have hq : qt 34 (quo l ++ 34 :: u) 1 [] = .ok l ((quo l).length + 2) := by
    rw [qt_quo, List.nil_append, qt_end 34 34 u _ _ rfl (by decide), if_neg (by omega)]
    congr 1
    omega
  have e34 : (34 : UInt8).toNat = 34 := rfl
  rw [e]
  unfold stp
  rw [hr, e34, if_neg (by omega), if_neg (by simp [Lib.hasPrefix, List.isPrefixOf]), if_neg (by decide), if_neg (by decide), if_pos (by omega)]
  simp only [List.headD_cons, List.drop_succ_cons, List.drop_zero]
  rw [hq]
  simp [quoQ]

/-- A rune's bytes, encoded anew. -/
theorem enc_rnL (l : List UInt8) (hne : l ≠ []) (hv : ¬ (rnL l = 65533 ∧ wdL l = 1)) : Utf8.encode (rnL l : Int) = ⟨(l.take (wdL l)).toArray⟩ := by
  have hd := dec_list l
  have h := Lib.encode_decode l hne hv
  have h1 : Lib.encodeRune (rnL l : Int) = l.take (wdL l) := h
  have hs : rnL l ≤ 1114111 ∧ (rnL l < 55296 ∨ 57343 < rnL l) := by
    refine ⟨rnL_le l, ?_⟩
    have hs := Lib.decodeN_shape l.length (l.getD 0 0).toNat (l.getD 1 0).toNat (l.getD 2 0).toNat (l.getD 3 0).toNat
    rw [← hd] at hs
    simp only [Prod.mk.injEq] at hs
    omega
  have hb : encB (rnL l : Int) = true := by rw [encB_iff]; omega
  rw [enc_bytes _ hb, ← h1]
  congr 2
  rw [Int.toNat_natCast]
  generalize rnL l = r at hs
  have hz : Lib.encodeRuneZ (r : Int) = (encL r).map fun n : Nat => (n : Int) := by
    unfold Lib.encodeRuneZ encL
    repeat' split
    all_goals first | omega | (simp only [List.map_cons, List.map_nil, List.cons.injEq, and_true]; done) | (simp only [List.map_cons, List.map_nil, List.cons.injEq, and_true]; omega)
  unfold Lib.encodeRune
  rw [hz, List.map_map]
  congr 1

end Go.Proofs.Ytgjeiepcbenejab

/- Tokens written one behind the other, scanned again (no program in it). -/
namespace Go.Proofs.Ytgjeiepcbenejab
open Go.RowKit

theorem wdL_take (l : List UInt8) (n : Nat) (h0 : l ≠ []) (h1 : wdL l ≤ n) (hv : ¬ (rnL l = 65533 ∧ wdL l = 1)) : wdL (l.take n) = wdL l := by
  have hle := wdL_le l h0
  have hpos := wdL_pos l
  have := decode_local ⟨l.toArray⟩ ⟨(l.take n).toArray⟩ 0 0 (by unfold okR; exact hv) (by rw [sz_list, List.length_take]; show 0 + wdL l ≤ _; omega) (fun i hi => by
    rw [get_list, get_list]
    simp only [Nat.zero_add]
    have hi' : i < wdL l := hi
    rw [List.getD_eq_getElem?_getD, List.getD_eq_getElem?_getD, List.getElem?_take_of_lt (by omega)])
  exact this.1

/-- A span's own bytes are a span of the same length. -/
theorem spn_take (f : Nat → Bool) (hf : f 65533 = false) (l : List UInt8) : spn f (l.take (spn f l)) = spn f l := by
  by_cases h : l = []
  · subst h; simp [spn_nil]
  · cases hc : f (rnL l)
    · rw [spn_no f l h hc]; simp [spn_nil]
    · have hv : ¬ (rnL l = 65533 ∧ wdL l = 1) := fun e => by rw [e.1, hf] at hc; cases hc
      have ih := spn_take f hf (l.drop (wdL l))
      have hp := wdL_pos l
      have hle := wdL_le l h
      rw [spn_yes f l h hc]
      generalize spn f (l.drop (wdL l)) = m at ih
      have hne : l.take (wdL l + m) ≠ [] := fun e => by
        have := congrArg List.length e
        rw [List.length_take, List.length_nil] at this
        omega
      rw [spn_yes f _ hne (by rw [rnL_take l _ h (by omega) hv]; exact hc), wdL_take l _ h (by omega) hv]
      have e : (l.take (wdL l + m)).drop (wdL l) = (l.drop (wdL l)).take m := by rw [List.drop_take]; congr 1; omega
      rw [e, ih]
termination_by l.length
decreasing_by
  have := List.length_pos_iff.2 h; have := wdL_pos l
  rw [List.length_drop]; omega

theorem pre_rn (l : List UInt8) (h : Lib.hasPrefix l [45, 45] = true) : rnL l = 45 := by
  match l, h with
  | [], h => simp [Lib.hasPrefix, List.isPrefixOf] at h
  | c :: t, h =>
    have hc : (45 : UInt8) = c := by
      simp [Lib.hasPrefix, List.isPrefixOf] at h
      exact h.1
    subst hc
    exact (asc 45 t (by decide)).1
theorem sgz_head (c : UInt8) (u : List UInt8) (h : ¬ sgz (c :: u) = 0) : c.toNat < 128 := by
  unfold sgz at h
  split at h
  · rename_i h2
    have : (c :: u).take 2 ∈ sgn2 := by simpa using h2
    cases u with
    | nil => simp [sgn2] at this
    | cons d u =>
      simp only [sgn2, List.take_succ_cons, List.take_zero, List.mem_cons, List.cons.injEq, List.not_mem_nil, or_false, and_true] at this
      rcases this with e | e | e | e | e | e <;> (rw [e.1]; decide)
  · split at h
    · rename_i h2
      have : c ∈ sgn1 := by simpa using h2
      simp only [sgn1, List.mem_cons, List.not_mem_nil, or_false] at this
      rcases this with e | e | e | e | e | e | e | e | e | e | e | e | e | e | e | e | e <;> (rw [e]; decide)
    · exact absurd rfl h
theorem sgz_take (l : List UInt8) (h : ¬ sgz l = 0) : sgz (l.take (sgz l)) = sgz l := by
  by_cases h2 : sgn2.contains (l.take 2) = true
  · have e : sgz l = 2 := by unfold sgz; rw [if_pos h2]
    rw [e]
    unfold sgz
    rw [List.take_take, Nat.min_self, if_pos h2]
  · by_cases h1 : sgn1.contains (l.headD 0) = true
    · have e : sgz l = 1 := by unfold sgz; rw [if_neg h2, if_pos h1]
      rw [e]
      match l, h1 with
      | [], h1 => simp [sgn1] at h1
      | c :: u, h1 =>
        simp only [List.take_succ_cons, List.take_zero]
        unfold sgz
        rw [if_neg (by simp [sgn2])]
        exact if_pos h1
    · exact absurd (by unfold sgz; rw [if_neg h2, if_neg h1]) h

/-- A token's own bytes (but for a string's) are that token. -/
theorem stp_take (l : List UInt8) (hl : l ≠ []) (k : Int) (t : List UInt8) (v : Int) (n : Nat) (h : stp l = .tok k t v n) (hk : k ≠ 4) : stp (l.take n) = .tok k t v n ∧ l.take n ≠ [] ∧ t = l.take n ∧ n = t.length := by
  have hpos := (stp_pos l hl).2 k t v n h
  have hne : l.take n ≠ [] := fun e => by
    have := congrArg List.length e
    rw [List.length_take, List.length_nil] at this
    omega
  have htk := (stp_tok l hl k t v n h).2.1 hk
  have hlen : n = t.length := by rw [htk, List.length_take]; omega
  refine ⟨?_, hne, htk, hlen⟩
  unfold stp at h
  split at h
  · cases h
  rename_i c1
  split at h
  · cases h
  rename_i c2
  split at h
  · rename_i c3
    split at h
    · cases h
    rename_i c4
    have hf : inNm (rnL l) = true := by unfold inNm; rw [c3]; rfl
    have hv : ¬ (rnL l = 65533 ∧ wdL l = 1) := fun hc => by
      have := hc.1
      rw [this] at c3
      exact absurd c3 (by decide)
    have hn : n = spn inNm l := by cases h; rfl
    have hr : rnL (l.take n) = rnL l := rnL_take l _ hl (by rw [hn, spn_yes inNm l hl hf]; omega) hv
    have hsp : spn inNm (l.take n) = n := by rw [hn]; exact spn_take inNm (by decide) l
    unfold stp
    rw [hr, if_neg c1, if_neg (fun e => by
      have := pre_rn _ e
      rw [hr] at this
      rw [this] at c3; exact absurd c3 (by decide)), if_pos c3, hsp, if_neg (by rw [hn]; exact c4), List.take_take, Nat.min_self]
    rw [← hn] at h
    exact h
  rename_i c3
  split at h
  · rename_i c4
    split at h
    · cases h
    rename_i c5
    have hf : inNm (rnL l) = true := by unfold inNm; rw [c4]; simp
    have hv : ¬ (rnL l = 65533 ∧ wdL l = 1) := fun hc => by
      have := hc.1
      rw [this] at c4
      exact absurd c4 (by decide)
    have hn : n = spn inNm l := by cases h; rfl
    have hr : rnL (l.take n) = rnL l := rnL_take l _ hl (by rw [hn, spn_yes inNm l hl hf]; omega) hv
    have hsp : spn inNm (l.take n) = n := by rw [hn]; exact spn_take inNm (by decide) l
    unfold stp
    rw [hr, if_neg c1, if_neg (fun e => by
      have := pre_rn _ e
      rw [hr] at this
      rw [this] at c4; exact absurd c4 (by decide)), if_neg c3, if_pos c4, hsp, List.take_take, Nat.min_self, if_neg (by rw [hn]; exact c5)]
    rw [← hn] at h
    exact h
  rename_i c4
  split at h
  · split at h
    · cases h; exact absurd rfl hk
    · cases h
  rename_i c5
  split at h
  · cases h
  rename_i c6
  have hn : n = sgz l := by cases h; rfl
  have hr : rnL (l.take n) = rnL l := by
    match l, hl with
    | c :: u, _ =>
      have hc := sgz_head c u c6
      obtain ⟨m, rfl⟩ : ∃ m, n = m + 1 := ⟨n - 1, by omega⟩
      rw [List.take_succ_cons, (asc c _ hc).1, (asc c _ hc).1]
  have hz : sgz (l.take n) = n := by rw [hn]; exact sgz_take l c6
  unfold stp
  rw [hr, if_neg c1, if_neg (fun e => c2 (by
    match l, hl with
    | c :: u, _ =>
      have h2 : n ≤ 2 := by rw [hn]; exact (sgz_le _).1
      match u with
      | [] =>
        have e' : Lib.hasPrefix ((c :: []).take n) [45, 45] = true := e
        have : n = 1 := by simp at hpos; omega
        rw [this] at e'
        simp [Lib.hasPrefix, List.isPrefixOf] at e'
      | d :: u =>
        have : n = 1 ∨ n = 2 := by omega
        rcases this with rfl | rfl
        · simp [Lib.hasPrefix, List.isPrefixOf] at e
        · simp only [List.take_succ_cons, List.take_zero] at e
          simp [Lib.hasPrefix, List.isPrefixOf] at e ⊢
          exact e)), if_neg c3, if_neg c4, if_neg c5, hz, if_neg (by omega), List.take_take, Nat.min_self]
  rw [← hn] at h
  exact h

theorem qt_max (q : UInt8) (l : List UInt8) (i : Nat) (acc : List UInt8) : ∀ v n, qt q l i acc = .ok v n → v.length ≤ 10000 := by
  match l with
  | [] => intro v n h; rw [qt] at h; cases h
  | c :: t =>
    intro v n h
    rw [qt] at h
    split at h
    · cases h
    · split at h
      · split at h
        · cases h
        · cases h; omega
      · split at h
        · split at h
          · cases h
          · split at h
            · cases h
            · exact qt_max q (t.drop (esc t).2) _ _ v n h
        · exact qt_max q t _ _ v n h
termination_by l.length
decreasing_by all_goals (simp; try omega)

/-- How a token is written; the whole, each with a blank behind it. -/
def rp (t : Tok) : List UInt8 := if t.k = 4 then quoQ t.t else t.t
def pln (ts : List Tok) : List UInt8 := ts.flatMap fun t => rp t ++ [32]

theorem stp_rp (l : List UInt8) (hl : l ≠ []) (k : Int) (t : List UInt8) (v : Int) (n p : Nat) (h : stp l = .tok k t v n) (u : List UInt8) : stp (rp ⟨k, t, v, p⟩ ++ 32 :: u) = .tok k t v (rp ⟨k, t, v, p⟩).length ∧ rp ⟨k, t, v, p⟩ ≠ [] := by
  by_cases hk : k = 4
  · subst hk
    have ht : t.length ≤ 10000 ∧ v = 0 := by
      unfold stp at h
      split at h
      · cases h
      split at h
      · cases h
      split at h
      · split at h
        · cases h
        · injection h with h1; split at h1 <;> omega
      split at h
      · split at h
        · cases h
        · injection h with h1; omega
      split at h
      · split at h
        · rename_i he
          cases h
          exact ⟨qt_max _ _ _ _ _ _ he, rfl⟩
        · cases h
      · split at h
        · cases h
        · injection h with h1; omega
    have e : rp ⟨4, t, v, p⟩ = quoQ t := if_pos rfl
    rw [e, stp_quo t (32 :: u) ht.1, ht.2]
    exact ⟨rfl, by simp [quoQ]⟩
  · have e : rp ⟨k, t, v, p⟩ = t := if_neg hk
    obtain ⟨h1, h2, h3, h4⟩ := stp_take l hl k t v n h hk
    rw [e]
    rw [← h3] at h1 h2
    rw [stp_app 32 u (.inl rfl) t h2 (fun hp => by
      exfalso
      unfold stp at h1
      have hr := pre_rn t hp
      rw [hr] at h1
      rw [if_neg (by omega), if_pos hp] at h1
      cases h1) (fun c o hb => by rw [h1] at hb; cases hb), h1, h4]
    exact ⟨rfl, h2⟩

/-- The same but for the places. -/
def kTV (t : Tok) : Int × List UInt8 × Int := (t.k, t.t, t.v)

/-- A list of tokens as a scan makes them. -/
inductive Made : List Tok → Prop
  | last (p : Nat) : Made [⟨6, [], 0, p⟩]
  | more (l : List UInt8) (hl : l ≠ []) (hb : l.length ≤ 20000) (k : Int) (t : List UInt8) (v : Int) (n p : Nat) (h : stp l = .tok k t v n) (r : List Tok) (hr : Made r) : Made (⟨k, t, v, p⟩ :: r)

theorem scn_made : ∀ (m : Nat) (l : List UInt8) (p : Nat) (acc ts : List Tok), l.length ≤ m → l.length ≤ 20000 → scn l p acc = .ok ts → ∃ r, ts = acc ++ r ∧ Made r := by
  intro m
  induction m with
  | zero =>
    intro l p acc ts hl hb h
    cases l with
    | nil => rw [scn] at h; cases h; exact ⟨_, rfl, .last p⟩
    | cons c u => simp at hl
  | succ m ih =>
    intro l p acc ts hl hb h
    cases l with
    | nil => rw [scn] at h; cases h; exact ⟨_, rfl, .last p⟩
    | cons c u =>
      rw [scn] at h
      split at h
      · exact ih _ _ _ _ (by rw [List.length_drop]; simp at hl; omega) (by rw [List.length_drop]; simp at hb; omega) h
      · rename_i k t v n he
        obtain ⟨r, h1, h2⟩ := ih _ _ _ _ (by rw [List.length_drop]; simp at hl; omega) (by rw [List.length_drop]; simp at hb; omega) h
        refine ⟨⟨k, t, v, p⟩ :: r, by rw [h1]; simp, .more (c :: u) (by simp) hb k t v n p he r h2⟩
      · cases h

theorem scn_blank (u : List UInt8) (p : Nat) (acc : List Tok) : scn (32 :: u) p acc = scn u (p + 1) acc := by
  have hs : stp (32 :: u) = .skip 1 := by
    unfold stp
    rw [(asc 32 u (by decide)).1, if_pos (.inl rfl)]
  rw [scn, hs]
  simp

/-- Written out, they are scanned again. -/
theorem scn_pln (r : List Tok) (h : Made r) : ∀ (p : Nat) (acc : List Tok), ∃ r', scn (pln r) p acc = .ok (acc ++ r') ∧ r'.map kTV = r.map kTV := by
  induction h with
  | last q =>
    intro p acc
    refine ⟨[⟨6, [], 0, p + 1⟩], ?_, rfl⟩
    have e : pln [⟨6, [], 0, q⟩] = [32] := by simp [pln, rp]
    rw [e, scn_blank, scn]
  | more l hl hb k t v n q h r hr ih =>
    intro p acc
    obtain ⟨h1, h2⟩ := stp_rp l hl k t v n q h (pln r)
    have e : pln (⟨k, t, v, q⟩ :: r) = rp ⟨k, t, v, q⟩ ++ 32 :: pln r := by simp [pln]
    rw [e]
    obtain ⟨c, x, hx⟩ : ∃ c x, rp ⟨k, t, v, q⟩ = c :: x := by
      cases hh : rp ⟨k, t, v, q⟩ with
      | nil => exact absurd hh h2
      | cons c x => exact ⟨c, x, rfl⟩
    rw [hx] at h1 ⊢
    obtain ⟨r', i1, i2⟩ := ih (p + (c :: x).length + 1) (acc ++ [⟨k, t, v, p⟩])
    refine ⟨⟨k, t, v, p⟩ :: r', ?_, by rw [List.map_cons, List.map_cons, i2]; rfl⟩
    rw [List.cons_append] at h1 ⊢
    rw [scn, h1]
    simp only
    have e2 : List.drop ((c :: x).length - 1) (x ++ 32 :: pln r) = 32 :: pln r := List.drop_left' (by simp)
    rw [e2, scn_blank, i1]
    simp

theorem stp_str (l : List UInt8) (t : List UInt8) (v : Int) (n : Nat) (h : stp l = .tok 4 t v n) : t.length ≤ 10000 := by
  unfold stp at h
  split at h
  · cases h
  split at h
  · cases h
  split at h
  · split at h
    · cases h
    · injection h with h1; split at h1 <;> omega
  split at h
  · split at h
    · cases h
    · injection h with h1; omega
  split at h
  · split at h
    · rename_i he
      cases h
      exact qt_max _ _ _ _ _ _ he
    · cases h
  · split at h
    · cases h
    · injection h with h1; omega
theorem Made.bound {r : List Tok} (h : Made r) : r ≠ [] ∧ ∀ t ∈ r, (rp t).length ≤ 40002 ∧ t.t.length ≤ 20000 := by
  induction h with
  | last q =>
    refine ⟨by simp, fun t ht => ?_⟩
    simp at ht; subst ht
    simp [rp]
  | more l hl hb k t v n q h r hr ih =>
    refine ⟨by simp, fun x hx => ?_⟩
    rcases List.mem_cons.1 hx with rfl | hx
    · by_cases hk : k = 4
      · subst hk
        have h1 := stp_str l t v n h
        have h2 := quo_len t
        have e : rp ⟨4, t, v, q⟩ = quoQ t := if_pos rfl
        rw [e]
        refine ⟨?_, by simp only; omega⟩
        simp only [quoQ, List.length_cons, List.length_append, List.length_nil]; omega
      · have e : rp ⟨k, t, v, q⟩ = t := if_neg hk
        have h3 := (stp_take l hl k t v n h hk).2.2.1
        have h4 : t.length ≤ l.length := by rw [h3, List.length_take]; omega
        rw [e]
        exact ⟨by omega, by simp only; omega⟩
    · exact ih.2 x hx
theorem scn_count : ∀ (m : Nat) (l : List UInt8) (p : Nat) (acc ts : List Tok), l.length ≤ m → scn l p acc = .ok ts → ts.length ≤ acc.length + l.length + 1 := by
  intro m
  induction m with
  | zero =>
    intro l p acc ts hl h
    cases l with
    | nil => rw [scn] at h; cases h; simp
    | cons c u => simp at hl
  | succ m ih =>
    intro l p acc ts hl h
    cases l with
    | nil => rw [scn] at h; cases h; simp
    | cons c u =>
      rw [scn] at h
      split at h
      · have := ih _ _ _ _ (by rw [List.length_drop]; simp at hl; omega) h
        rw [List.length_drop] at this
        simp only [List.length_cons]; omega
      · have := ih _ _ _ _ (by rw [List.length_drop]; simp at hl; omega) h
        rw [List.length_drop, List.length_append] at this
        simp only [List.length_cons, List.length_nil] at this ⊢; omega
      · cases h
theorem scT_made (l : List UInt8) (h : (scT l).2.1 = 0) : Made (scT l).1 ∧ (scT l).1.length ≤ 20001 ∧ (scT l).2.2 = 0 := by
  have hb := (scT_ok l h).2.1
  have hz := (scT_ok l h).2.2
  unfold scT at h hz ⊢
  rw [if_neg hb] at h hz ⊢
  cases hs : scn l 0 [] with
  | bad c p =>
    rw [hs] at h
    exact absurd h (scn_badc _ l 0 [] (Nat.le_refl _) c p hs).1
  | ok ts =>
    obtain ⟨r, h1, h2⟩ := scn_made l.length l 0 [] ts (Nat.le_refl _) (by omega) hs
    have h3 := scn_count l.length l 0 [] ts (Nat.le_refl _) hs
    simp at h1 h3
    subst h1
    exact ⟨h2, by simp only; omega, rfl⟩
/-- What is written out is scanned to the same tokens but for places. -/
theorem scT_pln (r : List Tok) (h : Made r) (hb : (pln r).length ≤ 20000) : (scT (pln r)).2 = (0, 0) ∧ (scT (pln r)).1.map kTV = r.map kTV := by
  obtain ⟨r', h1, h2⟩ := scn_pln r h 0 []
  unfold scT
  rw [if_neg (by omega), h1]
  simp only [List.nil_append]
  exact ⟨trivial, h2⟩

end Go.Proofs.Ytgjeiepcbenejab
