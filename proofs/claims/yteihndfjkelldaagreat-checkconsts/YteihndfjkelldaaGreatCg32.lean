/- Lines of assignments of numbers, scanned (no program in it; for CheckConsts). -/
import Derived.Test.YteihndfjkelldaaGreatCg31
import Derived.Test.YteihndfjkelldaaGreatCg30
namespace Go.Proofs.YteihndfjkelldaaGreat
open Go.RowKit

theorem stp_numL (c : UInt8) (ds : List UInt8) (b : UInt8) (l : List UInt8) (hb : b.toNat < 128) (hf : inNm b.toNat = false) (h : ∀ x ∈ c :: ds, 48 ≤ x.toNat ∧ x.toNat ≤ 57) (he : W.parE (c :: ds) = 0) : stp (c :: ds ++ b :: l) = .tok 3 (c :: ds) (W.parN (c :: ds)) (c :: ds).length := by
  have hc := h c (by simp)
  have a := (asc c (ds ++ b :: l) (by omega)).1
  have e := spn_run inNm b l hb hf (c :: ds) fun x hx => by have := h x hx; exact ⟨by omega, by simp [inNm, digB]; omega⟩
  have h45 : c ≠ 45 := by rintro rfl; simp at hc
  have hl : letB (c.toNat : Int) = false := by simp [letB]; omega
  unfold stp
  rw [e, show rnL (c :: ds ++ b :: l) = c.toNat from a, if_neg (by omega), show Lib.hasPrefix (c :: ds ++ b :: l) [45, 45] = false from pre45 c _ h45, if_neg (by simp), if_neg (by simp [hl]), if_pos (by simp [digB]; omega), List.take_left, if_neg (by simpa using he)]
/-- The digits of a number below 1000. -/
def d3 (i : Nat) : List UInt8 := if i < 100 then dg i else UInt8.ofNat (48 + i / 100) :: [UInt8.ofNat (48 + i / 10 % 10), UInt8.ofNat (48 + i % 10)]
theorem d3_fine : ∀ i ∈ List.range 300, (∀ x ∈ d3 i, 48 ≤ x.toNat ∧ x.toNat ≤ 57) ∧ (d3 i).length ≤ 3 ∧ d3 i ≠ [] ∧ W.parE (d3 i) = 0 ∧ W.parN (d3 i) = i := by decide +kernel
theorem scn_d3 (i : Nat) (hi : i < 300) (b : UInt8) (hb : b = 10 ∨ b = 32) (l : List UInt8) (p : Nat) (acc : List Tok) : scn (d3 i ++ b :: l) p acc = scn (b :: l) (p + (d3 i).length) (acc ++ [⟨3, d3 i, (i : Nat), p⟩]) := by
  obtain ⟨h1, h2, h3, h4, h5⟩ := d3_fine i (List.mem_range.2 hi)
  obtain ⟨c, ds, hd⟩ : ∃ c ds, d3 i = c :: ds := by
    cases hq : d3 i with
    | nil => exact absurd hq h3
    | cons c ds => exact ⟨c, ds, rfl⟩
  rw [hd] at h1 h4 h5 ⊢
  have hs := stp_numL c ds b l (by rcases hb with rfl | rfl <;> decide) (by rcases hb with rfl | rfl <;> decide) h1 h4
  rw [scn_tok (by simp) hs, h5, List.drop_left]
/-- One assignment, then a blank or a line's end. -/
def asL (i : Nat) (b : UInt8) : List UInt8 := 120 :: 32 :: 61 :: 32 :: (d3 i ++ [b])
def asT (i p : Nat) : List Tok := [⟨1, [120], 0, p⟩, ⟨5, [61], 0, p + 2⟩, ⟨3, d3 i, (i : Nat), p + 4⟩]
theorem scn_nl (l : List UInt8) (p : Nat) (acc : List Tok) : scn (10 :: l) p acc = scn l (p + 1) acc := by
  have a := (asc 10 l (by decide)).1
  have h : stp (10 :: l) = .skip 1 := by unfold stp; rw [if_pos (by rw [a]; simp)]
  exact scn_skip (by simp) h p acc
theorem scn_as (i : Nat) (hi : i < 300) (b : UInt8) (hb : b = 10 ∨ b = 32) (l : List UInt8) (p : Nat) (acc : List Tok) : scn (asL i b ++ l) p acc = scn l (p + (d3 i).length + 5) (acc ++ asT i p) := by
  have h := scn_word (c := 120) (ds := []) (b := 32) (l := 61 :: 32 :: (d3 i ++ b :: l)) 1 (by decide) (by decide) (by decide) (by decide) (by decide) (by decide) (by decide) (by decide) p acc
  simp only [List.cons_append, List.nil_append, List.length_cons, List.length_nil] at h
  have e : asL i b ++ l = 120 :: 32 :: 61 :: 32 :: (d3 i ++ b :: l) := by simp [asL]
  rw [e, h, scn_blank, scn_is, scn_d3 i hi b hb]
  have e2 : ∀ q a, scn (b :: l) q a = scn l (q + 1) a := fun q a => by rcases hb with rfl | rfl; exact scn_nl l q a; exact scn_blank l q a
  rw [e2]
  simp only [asT, List.append_assoc, List.cons_append, List.nil_append]
  congr 1; omega
end Go.Proofs.YteihndfjkelldaaGreat

/- The tokens and the tree of CheckConsts' text (no program in it). -/
namespace Go.Proofs.YteihndfjkelldaaGreat
open Go.RowKit

/-- The text: so many lines. -/
def cnL : Nat → List UInt8
  | 0 => []
  | n + 1 => cnL n ++ (asL n 32 ++ asL n 10)
/-- Where the second assignment of a line begins. -/
def cp2 (i p : Nat) : Nat := p + (d3 i).length + 5
def cnT : Nat → List Tok
  | 0 => []
  | n + 1 => cnT n ++ (asT n (cnL n).length ++ asT n (cp2 n (cnL n).length))
theorem asL_len (i : Nat) (b : UInt8) : (asL i b).length = (d3 i).length + 5 := by simp [asL]
theorem scn_cn : ∀ (n : Nat), n ≤ 300 → ∀ (l : List UInt8), scn (cnL n ++ l) 0 [] = scn l (cnL n).length (cnT n)
  | 0, _, l => by simp [cnL, cnT]
  | n + 1, h, l => by
    have ih := scn_cn n (by omega) (asL n 32 ++ (asL n 10 ++ l))
    rw [scn_as n (by omega) 32 (.inr rfl), scn_as n (by omega) 10 (.inl rfl)] at ih
    simp only [cnL, cnT, cp2, List.append_assoc, List.length_append, asL_len] at ih ⊢
    rw [ih]
    congr 1; omega
theorem cnL_len : ∀ n, n ≤ 300 → (cnL n).length ≤ 16 * n
  | 0, _ => by simp [cnL]
  | n + 1, h => by
    have i := cnL_len n (by omega)
    have d := (d3_fine n (List.mem_range.2 (by omega))).2.1
    simp only [cnL, List.length_append, asL_len]; omega
theorem scT_cn (n : Nat) (h : n ≤ 300) : scT (cnL n) = (cnT n ++ [⟨6, [], 0, (cnL n).length⟩], 0, 0) := by
  have l := cnL_len n h
  have s := scn_cn n h []
  rw [List.append_nil, scn_nil] at s
  unfold scT
  rw [if_neg (by omega), s]
/-- An assignment's tree. -/
def asF (i p : Nat) : F := one 22 [] 1 (p : Int) (.cons 6 [120] 0 (p : Int) .nil (one 4 [] (i : Nat) ((p + 4 : Nat) : Int) .nil))
theorem suf_eq (rec : J → List Tok → PR) (l : List Tok) : stp' rec .suf l = (stemP rec l).bind fun f l => rec (.sufl f) l := rfl
theorem blk_eq (rec : J → List Tok → PR) (l : List Tok) : stp' rec (.blk true) l = (rec (.bk true .nil) l).bind fun f l1 => .ok (one 20 [] 0 (ha l) f) l1 := rfl
theorem bk_end (N : Nat) (f : F) (q : Nat) : pr (N + 1) (.bk true f) [⟨6, [], 0, q⟩] = .ok f [⟨6, [], 0, q⟩] := rfl
theorem pr_as (i p N : Nat) (l : List Tok) (h : hc l = 51 ∨ hc l = 56) : pr (N + 4) .stat (asT i p ++ l) = .ok (asF i p) l := by
  have hb : bnd (hc l) = 0 := by rcases h with h | h <;> rw [h] <;> rfl
  have n1 := pr_num N (i : Nat) (d3 i) (p + 4) l hb
  have h15 : hc l ≠ 15 := by rcases h with h | h <;> rw [h] <;> decide
  rw [pr_succ]
  show asgP (pr (N + 3)) (⟨1, [120], 0, p⟩ :: ⟨5, [61], 0, p + 2⟩ :: ⟨3, d3 i, (i : Nat), p + 4⟩ :: l) = _
  unfold asgP
  have s1 : pr (N + 3) .suf (⟨1, [120], 0, p⟩ :: ⟨5, [61], 0, p + 2⟩ :: ⟨3, d3 i, (i : Nat), p + 4⟩ :: l) = .ok (one 6 [120] 0 (p : Int) .nil) (⟨5, [61], 0, p + 2⟩ :: ⟨3, d3 i, (i : Nat), p + 4⟩ :: l) := by
    rw [pr_succ, suf_eq]
    unfold stemP
    rw [if_neg (by exact (show ¬ (51 : Nat) = 17 by decide)), nam_yes (by rfl), bind_okL, pr_succ]
    rfl
  rw [s1, bind_okL, if_pos (.inl (by rfl))]
  unfold tgt
  rw [if_pos (.inl (by rfl)), show pr (N + 3) (.asg (one 6 [120] 0 (p : Int) .nil)) (⟨5, [61], 0, p + 2⟩ :: ⟨3, d3 i, (i : Nat), p + 4⟩ :: l) = .ok (one 6 [120] 0 (p : Int) .nil) (⟨5, [61], 0, p + 2⟩ :: ⟨3, d3 i, (i : Nat), p + 4⟩ :: l) from rfl, bind_okL, need_yes (by rfl), List.tail_cons]
  have s2 : pr (N + 3) (.lst (one 6 [120] 0 (p : Int) .nil)) (⟨3, d3 i, (i : Nat), p + 4⟩ :: l) = .ok ((one 6 [120] 0 (p : Int) .nil).app (one 4 [] (i : Nat) ((p + 4 : Nat) : Int) .nil)) l := by
    rw [pr_succ]
    show (pr (N + 2) (.ex 0) (⟨3, d3 i, (i : Nat), p + 4⟩ :: l)).bind _ = _
    rw [n1, bind_okL, if_neg h15]
  rw [s2, bind_okL]
  rfl
theorem pr_bk1 (i p N : Nat) (f : F) (l : List Tok) (h : hc l = 51 ∨ hc l = 56) : pr (N + 5) (.bk true f) (asT i p ++ l) = pr (N + 4) (.bk true (f.app (asF i p))) l := by
  rw [pr_succ]
  show (pr (N + 4) .stat (asT i p ++ l)).bind _ = _
  rw [pr_as i p N l h, bind_okL]
/-- The lines' trees. -/
def cnF : Nat → F
  | 0 => .nil
  | n + 1 => ((cnF n).app (asF n (cnL n).length)).app (asF n (cp2 n (cnL n).length))
theorem pr_cn : ∀ (n N : Nat) (l : List Tok), (hc l = 51 ∨ hc l = 56) → pr (N + 2 * n + 4) (.bk true .nil) (cnT n ++ l) = pr (N + 4) (.bk true (cnF n)) l
  | 0, N, l, _ => rfl
  | n + 1, N, l, h => by
    have ih := pr_cn n (N + 2) (asT n (cnL n).length ++ (asT n (cp2 n (cnL n).length) ++ l)) (.inl rfl)
    rw [show N + 2 * (n + 1) + 4 = N + 2 + 2 * n + 4 by omega]
    simp only [cnT, List.append_assoc]
    rw [ih]
    have e1 := pr_bk1 n (cnL n).length (N + 1) (cnF n) (asT n (cp2 n (cnL n).length) ++ l) (.inl rfl)
    have e2 := pr_bk1 n (cp2 n (cnL n).length) N ((cnF n).app (asF n (cnL n).length)) l h
    rw [show N + 2 + 4 = N + 1 + 5 by omega, e1, show N + 1 + 4 = N + 5 by omega, e2]
    rfl
theorem cnT_len : ∀ n, (cnT n).length = 6 * n
  | 0 => rfl
  | n + 1 => by have := cnT_len n; simp only [cnT, asT, List.length_append, List.length_cons, List.length_nil]; omega
theorem ha_cn : ∀ (n : Nat) (q : Nat), (n = 0 → q = 0) → ha (cnT n ++ [⟨6, [], 0, q⟩]) = 0
  | 0, q, h => by rw [h rfl]; rfl
  | 1, q, _ => rfl
  | n + 2, q, _ => by
    have ih := ha_cn (n + 1) q (by simp)
    have e : ∀ (a b : List Tok), a ≠ [] → ha (a ++ b) = ha a := fun a b h => by cases a with
      | nil => exact absurd rfl h
      | cons x a => rfl
    have hn : cnT (n + 1) ≠ [] := fun h => by have := cnT_len (n + 1); rw [h] at this; simp at this
    rw [e _ _ hn] at ih
    rw [show cnT (n + 2) = cnT (n + 1) ++ (asT (n + 1) (cnL (n + 1)).length ++ asT (n + 1) (cp2 (n + 1) (cnL (n + 1)).length)) from rfl, List.append_assoc, e _ _ hn, ih]
theorem prT_cn (n : Nat) (h : n ≤ 300) : prT (cnL n) = (one 20 [] 0 0 (cnF n), 0, 0) := by
  unfold prT
  rw [scT_cn n h, if_neg (by simp)]
  simp only
  unfold chk
  have hl : 8 * (cnT n ++ [(⟨6, [], 0, (cnL n).length⟩ : Tok)]).length + 4 = (46 * n + 7) + 2 * n + 4 + 1 := by rw [List.length_append, cnT_len]; simp only [List.length_cons, List.length_nil]; omega
  rw [hl, pr_succ, blk_eq, pr_cn n (46 * n + 7) _ (.inr rfl), ha_cn n _ (fun e => by subst e; rfl), bk_end, bind_okL, bind_okL, if_pos (by rfl)]
  rfl
end Go.Proofs.YteihndfjkelldaaGreat

/- What Check tells of CheckConsts' text (no program in it). -/
namespace Go.Proofs.YteihndfjkelldaaGreat
open Go.RowKit

theorem ckN_app (nd : Ndc) : ∀ (f g : F) (s : Cs), ckN nd (f.app g) s = ckN nd g (ckN nd f s)
  | .nil, _, _ => rfl
  | .cons _ _ _ _ _ r, g, _ => ckN_app nd r g _
theorem ck_bad : ∀ (N : Nat) (k : Int) (t : Tx) (n p : Int) (ks : F) (s : Cs), s.bad = true → ck N k t n p ks s = s
  | 0, _, _, _, _, _, _, _ => rfl
  | N + 1, k, t, n, p, ks, s, h => by show ckS (ck N) k t n p ks s = s; unfold ckS; rw [if_pos h]
theorem ckN_bad (N : Nat) : ∀ (f : F) (s : Cs), s.bad = true → ckN (ck N) f s = s
  | .nil, _, _ => rfl
  | .cons k t n p ks r, s, h => by show ckN (ck N) r (ck N k t n p ks s) = s; rw [ck_bad N k t n p ks s h]; exact ckN_bad N r s h
/-- The state within the chunk: these globals, these constants. -/
def sg (gl : List Tx) (cs : List Vl) : Cs := ⟨[⟨[], 0, 0, 0, cs⟩], gl, 0, [], 0, [], 0, 0⟩
def csN : Nat → List Vl
  | 0 => []
  | n + 1 => csN n ++ [((2, (n : Int), []) : Vl)]
theorem csN_len : ∀ n, (csN n).length = n
  | 0 => rfl
  | n + 1 => by simp [csN, csN_len n]
theorem csN_mem : ∀ (n : Nat) (v : Vl), v ∈ csN n ↔ ∃ i : Nat, i < n ∧ v = (2, (i : Int), [])
  | 0, v => by simp [csN]
  | n + 1, v => by
    rw [csN, List.mem_append, csN_mem n v]
    constructor
    · rintro (⟨i, h, rfl⟩ | h)
      · exact ⟨i, by omega, rfl⟩
      · exact ⟨n, by omega, by simpa using h⟩
    · rintro ⟨i, h, rfl⟩
      by_cases hi : i < n
      · exact .inl ⟨i, hi, rfl⟩
      · have : i = n := by omega
        subst this; right; simp
theorem csN_no (n : Nat) : (csN n).contains ((2, (n : Int), []) : Vl) = false := by
  rw [← Bool.not_eq_true, List.contains_iff_mem, csN_mem]
  rintro ⟨i, h, e⟩
  simp only [Prod.mk.injEq, true_and, and_true] at e
  omega
theorem csN_yes (n : Nat) : (csN (n + 1)).contains ((2, (n : Int), []) : Vl) = true := by
  rw [List.contains_iff_mem, csN_mem]
  exact ⟨n, by omega, rfl⟩
theorem csN_get : ∀ (n i : Nat), i < n → (csN n)[i]? = some (2, (i : Int), [])
  | 0, i, h => by omega
  | n + 1, i, h => by
    rw [csN]
    by_cases hi : i < n
    · rw [List.getElem?_append_left (by rw [csN_len]; exact hi)]; exact csN_get n i hi
    · have : i = n := by omega
      subst this
      rw [List.getElem?_append_right (by rw [csN_len]; omega), csN_len]; simp
theorem ck_as (N i p : Nat) (gl : List Tx) (cs : List Vl) (hg : gl = [] ∨ gl = [[120]]) : ckN (ck (N + 2)) (asF i p) (sg gl cs) = conF ⟨[], 0, 0, 0, cs⟩ (2, (i : Nat), []) ((p + 4 : Nat) : Int) (sg [[120]] cs) := by
  rcases hg with rfl | rfl <;> rfl
theorem ck_new (N i p : Nat) (gl : List Tx) (hg : gl = [] ∨ gl = [[120]]) (hi : i < 250) : ckN (ck (N + 2)) (asF i p) (sg gl (csN i)) = sg [[120]] (csN (i + 1)) := by
  rw [ck_as N i p gl _ hg]
  unfold conF
  rw [show (Fn.cs ⟨[], 0, 0, 0, csN i⟩) = csN i from rfl, if_neg (by rw [csN_no]; simp), lim_no (by rw [csN_len]; omega)]
  rfl
theorem ck_old (N i p : Nat) : ckN (ck (N + 2)) (asF i p) (sg [[120]] (csN (i + 1))) = sg [[120]] (csN (i + 1)) := by
  rw [ck_as N i p _ _ (.inr rfl)]
  unfold conF
  rw [show (Fn.cs ⟨[], 0, 0, 0, csN (i + 1)⟩) = csN (i + 1) from rfl, if_pos (csN_yes i)]
def glN (n : Nat) : List Tx := if n = 0 then [] else [[120]]
theorem glN_or (n : Nat) : glN n = [] ∨ glN n = [[120]] := by unfold glN; split; exact .inl rfl; exact .inr rfl
theorem ck_cn (N : Nat) : ∀ n, n ≤ 250 → ckN (ck (N + 2)) (cnF n) (sg [] []) = sg (glN n) (csN n)
  | 0, _ => rfl
  | n + 1, h => by
    rw [cnF, ckN_app, ckN_app, ck_cn N n (by omega), ck_new N n _ _ (glN_or n) (by omega), ck_old]
    rfl
theorem ck_full (N : Nat) : ∀ n, 250 < n → ∃ s, ckN (ck (N + 2)) (cnF n) (sg [] []) = s ∧ s.bad = true ∧ s.cd = 6 ∧ 0 < s.ct
  | 0, h => by omega
  | n + 1, h => by
    by_cases hn : n = 250
    · subst hn
      rw [cnF, ckN_app, ckN_app, ck_cn N 250 (by omega), ck_as N 250 _ _ _ (glN_or 250)]
      have e : ∀ q : Nat, conF ⟨[], 0, 0, 0, csN 250⟩ (2, ((250 : Nat) : Int), []) ((q + 4 : Nat) : Int) (sg [[120]] (csN 250)) = { sg [[120]] (csN 251) with cd := 6, ct := ((q + 4 : Nat) : Int) } := fun q => by
        unfold conF
        rw [show (Fn.cs ⟨[], 0, 0, 0, csN 250⟩) = csN 250 from rfl, if_neg (by rw [csN_no]; simp)]
        unfold lim
        rw [if_pos (by rw [csN_len]; omega)]
        rfl
      rw [e, ckN_bad _ _ _ rfl]
      exact ⟨_, rfl, rfl, rfl, by show (0 : Int) < (((cnL 250).length + 4 : Nat) : Int); omega⟩
    · obtain ⟨s, h1, h2, h3, h4⟩ := ck_full N n (by omega)
      refine ⟨s, ?_, h2, h3, h4⟩
      rw [cnF, ckN_app, ckN_app, h1, ckN_bad _ _ _ h2, ckN_bad _ _ _ h2]
theorem cnF_hgt : ∀ n, (cnF n).hgt ≤ 2
  | 0 => by simp [cnF, F.hgt]
  | n + 1 => by have := cnF_hgt n; simp only [cnF, hgt_app, asF, one, F.hgt]; omega
theorem siz_app : ∀ f g : F, (f.app g).siz = f.siz + g.siz
  | .nil, g => by simp [F.app, F.siz]
  | .cons k t n p ks r, g => by simp only [F.app, F.siz, siz_app r g]; omega
theorem cnF_siz (n : Nat) (h : n ≠ 0) : 2 ≤ (cnF n).siz := by
  cases n with
  | zero => exact absurd rfl h
  | succ n => simp only [cnF, siz_app, asF, one, F.siz]; omega
theorem chT_cn (n : Nat) (h : n ≤ 300) : chT (cnL n) = outC (blkC (ck (cnF n).siz) (cnF n) (sg [] [])) := by
  unfold chT
  rw [prT_cn n h]
  show chF (one 20 [] 0 0 (cnF n)) = _
  rw [chF_one, if_neg (by have := cnF_hgt n; omega)]
  rfl
theorem chT_le (n : Nat) (h : n ≤ 250) : chT (cnL n) = (([⟨[], 0, 0, 0, csN n⟩], glN n), 0, 0) := by
  rw [chT_cn n (by omega)]
  by_cases h0 : n = 0
  · subst h0; rfl
  · obtain ⟨N, hN⟩ : ∃ N, (cnF n).siz = N + 2 := ⟨(cnF n).siz - 2, by have := cnF_siz n h0; omega⟩
    rw [hN]
    unfold blkC
    rw [ck_cn N n h]
    rfl
theorem chT_gt (n : Nat) (h : 250 < n) (h2 : n ≤ 300) : ∃ ct : Int, 0 < ct ∧ chT (cnL n) = (([], []), 6, ct) := by
  rw [chT_cn n h2]
  obtain ⟨N, hN⟩ : ∃ N, (cnF n).siz = N + 2 := ⟨(cnF n).siz - 2, by have := cnF_siz n (by omega); omega⟩
  rw [hN]
  obtain ⟨s, h1, h3, h4, h5⟩ := ck_full N n h
  refine ⟨s.ct, h5, ?_⟩
  unfold blkC
  rw [h1]
  unfold outC
  rw [if_pos (by exact h3)]
  show (([], []), s.cd, s.ct) = _
  rw [h4]
end Go.Proofs.YteihndfjkelldaaGreat

/- The walk of CheckConsts. -/
namespace Go.Proofs.YteihndfjkelldaaGreat
open Go.RowKit
theorem itoa_d3 (i : Nat) (h : i < 300) : Lib.itoa (i : Nat) = d3 i := by
  unfold Lib.itoa d3 dg
  rw [if_neg (by omega), Int.toNat_natCast, W.digs_unfold]
  by_cases h1 : i < 10
  · rw [if_pos h1, if_pos (by omega), if_pos h1]
  · rw [if_neg h1, W.digs_unfold]
    by_cases h2 : i < 100
    · rw [if_pos (by omega), if_pos h2, if_neg h1]; rfl
    · rw [if_neg (by omega), W.digs_unfold, if_pos (by omega), if_neg h2, Nat.div_div_eq_div_mul]; rfl
theorem fmt3_any (i : Nat) (hi : i < 300) (w : World) : Calls Tryz.prog 5 #[.int .i64 (i : Nat)] w fun e w' => e = .returned (.string ⟨(d3 i).toArray⟩) ∧ Below w.heap.size w w' := by
  have e : W.itoaS (i : Nat) = ⟨(d3 i).toArray⟩ := by unfold W.itoaS; rw [itoa_d3 i hi]
  rw [← e]
  by_cases h : i = 0
  · subst h; exact W.rfmt_zero w
  · exact W.rfmt_pos i w (by omega) (by omega)
theorem three (a : Int) : ∃ A : Nat, wrap64 ((IntKind.u64.wrap a).tmod 300) = A ∧ A < 300 := by
  have h0 : 0 ≤ IntKind.u64.wrap a := by rw [IntKind.wrap_u64]; omega
  have h1 := Int.tmod_nonneg 300 h0
  have h2 := Int.tmod_lt_of_pos (IntKind.u64.wrap a) (show (0 : Int) < 300 by omega)
  generalize (IntKind.u64.wrap a).tmod 300 = t at h1 h2
  refine ⟨t.toNat, ?_, by omega⟩
  unfold wrap64; omega
theorem neqV (n : Int) (W : World) : (binOp .neq 38 (.agg #[.int .i64 2, .int .i64 n, .string ⟨#[]⟩]) (.agg #[.int .i64 2, .int .i64 n, .string ⟨#[]⟩])).run Tryz.prog W = .ok (.bool false) W := by
  rw [run_neq_struct, run_equalIn_agg W _ _ _ _ under54 stood54]
  simp [go_sem]
set_option maxRecDepth 20000 in
set_option maxHeartbeats 8000000 in
theorem consts_walk (a : Int) (W : World) : Calls Tryz.prog 3 #[.int .i64 a] W fun e w' => e = .returned (.bool true) ∧ Below W.heap.size W w' := by
  have FX := fixedc_any W
  obtain ⟨A, eA, hA⟩ := three a
  go_enter Tryz.func3, Tryz.ntmps3
  go_wp2_with fail
  refine FX.mono ?_
  rintro e w1 ⟨rfl, hB1⟩
  have HB1 : Hid (Below W.heap.size W w1) := hB1
  clear FX hB1
  go_wp2_with fail
  rw [eA]
  go_wp2
  go_loopw [3, 4] (fun sv iv wx => ∃ (i : Nat) (S : ByteArray), iv = .int .i64 (i : Nat) ∧ sv = .string S ∧ i ≤ A ∧ Hid (S = ⟨(cnL i).toArray⟩ ∧ Below W.heap.size W wx)) (fun _ iv _ => A - (intOf iv).toNat)
  case atStart => exact ⟨0, ⟨#[]⟩, rfl, rfl, by omega, rfl, HB1.out⟩
  case round =>
    clear HB1
    obtain ⟨i, S, rfl, rfl, hi, HR⟩ := hrel
    have hSz : S.size ≤ 4800 := by rw [HR.out.1]; have := cnL_len i (by omega); simp only [ByteArray.size, List.size_toArray]; omega
    by_cases hlt : i < A
    · have h1 : (i : Int) < (A : Int) := by omega
      have wi : IntKind.i64.wrap ((i : Int) + 1) = (i : Int) + 1 := by rw [IntKind.wrap_i64]; omega
      have hms : A - (i + 1) < A - i := by omega
      have C := fun V => fmt3_any i (by omega) V
      obtain ⟨D, hD⟩ : ∃ D : ByteArray, (⟨(d3 i).toArray⟩ : ByteArray) = D := ⟨_, rfl⟩
      have hDs : D.size ≤ 3 := by rw [← hD]; exact (d3_fine i (List.mem_range.2 (by omega))).2.1
      rw [hD] at C
      have HD : Hid ((⟨(d3 i).toArray⟩ : ByteArray) = D) := hD
      clear hD
      go_wp2_with fail
      refine (C _).mono ?_
      rintro e w2 ⟨rfl, hb2⟩
      have HB2 : Hid (S = ⟨(cnL i).toArray⟩ ∧ Below W.heap.size W w2) := ⟨HR.out.1, HR.out.2.trans (hb2.mono HR.out.2.size)⟩
      clear HR hb2
      go_wp2_with fail
      refine (C _).mono ?_
      rintro e w3 ⟨rfl, hb3⟩
      have HN : Hid (S ++ (⟨#[120, 32, 61, 32]⟩ ++ D ++ ⟨#[32, 120, 32, 61, 32]⟩ ++ D ++ ⟨#[10]⟩) = ⟨(cnL (i + 1)).toArray⟩ ∧ Below W.heap.size W w3) := ⟨by
        rw [← HD.out, HB2.out.1, show (⟨#[120, 32, 61, 32]⟩ : ByteArray) = ⟨([120, 32, 61, 32] : List UInt8).toArray⟩ from rfl, show (⟨#[32, 120, 32, 61, 32]⟩ : ByteArray) = ⟨([32, 120, 32, 61, 32] : List UInt8).toArray⟩ from rfl, show (⟨#[10]⟩ : ByteArray) = ⟨([10] : List UInt8).toArray⟩ from rfl, ba_app, ba_app, ba_app, ba_app, ba_app, cnL, asL, asL]
        simp only [List.append_assoc, List.cons_append, List.nil_append], HB2.out.2.trans (hb3.mono HB2.out.2.size)⟩
      clear HB2 hb3 C
      go_wp2
      go_roundw
      case rel => exact ⟨i + 1, _, by go_num, rfl, by omega, HN⟩
      case measure => first | omega | (simp only [intOf]; omega) | (simp; omega)
    · have h1 : ¬ (i : Int) < (A : Int) := by omega
      have e0 : i = A := by omega
      subst e0
      have hS : S.data.toList = cnL i := by rw [HR.out.1]
      have C3 := Check_any S wr (by omega)
      rw [hS] at C3
      have HB3 : Hid (Below W.heap.size W wr) := HR.out.2
      clear HR hS eA
      by_cases hc : i ≤ 250
      · have n250 : ¬ (250 : Int) < (i : Int) := by omega
        rw [chT_le i hc] at C3
        unfold ChP at C3
        simp only [] at C3
        go_wp2_with fail
        refine C3.mono ?_
        rintro e w4 ⟨vF, vG, rfl, hRp, hB4⟩
        obtain ⟨⟨vs, hF, hvs, hcs⟩, hG⟩ := hRp
        obtain ⟨v0, rfl⟩ : ∃ v0, vs = [v0] := by
          match vs, hvs with
          | [v0], _ => exact ⟨v0, rfl⟩
        have hV := hcs 0 _ v0 rfl rfl
        obtain ⟨gF, cF, rfl, lF, cc⟩ := own_one hF (by simp)
        have hrow : ∃ g, 0 < i → g < w4.heap.size ∧ (∃ c, v0 = .slice (some ⟨g, 0, none⟩) i c) ∧ ∀ j u, (vcl (csN i))[j]? = some u → w4.cell? ⟨g, j, none⟩ = some u := by
          by_cases h0 : 0 < i
          · obtain ⟨g, c, e1, e2, e3⟩ := own_one hV (by show 0 < (csN i).length; rw [csN_len]; exact h0)
            exact ⟨g, fun _ => ⟨e2, ⟨c, by rw [e1]; show Value.slice _ (csN i).length _ = _; rw [csN_len]⟩, e3⟩⟩
          · exact ⟨0, fun h => absurd h h0⟩
        have hi1 : (csN i).length = i := csN_len i
        have hi2 : (Fn.cs ⟨[], 0, 0, 0, csN i⟩).length = i := csN_len i
        rw [hi2] at hV
        obtain ⟨aV, cV, rfl⟩ := slice_shape hV
        obtain ⟨aG, cG, rfl⟩ := slice_shape hG
        simp only [List.length_cons, List.length_nil, Nat.zero_add] at hF ⊢
        obtain ⟨W5, hW5⟩ : ∃ W5, (w4.alloc (.cells #[.slice (some ⟨gF, 0, none⟩) 1 cF, .slice aG (glN i).length cG] 28)).alloc (.cells #[.int .i64 0, .int .i64 0] 31) = W5 := ⟨_, rfl⟩
        have k := b2 w4 (.cells #[.slice (some ⟨gF, 0, none⟩) 1 cF, .slice aG (glN i).length cG] 28) (.cells #[.int .i64 0, .int .i64 0] 31)
        have d3 := (k.cell (p := ⟨gF, 3, none⟩) lF).trans (cc 3 _ rfl)
        have d4 := (k.cell (p := ⟨gF, 4, none⟩) lF).trans (cc 4 _ rfl)
        have q3 : W5.cell? ⟨gF, 4, none⟩ = some (.slice aV i cV) := by rw [← hW5]; exact d4
        rw [hW5] at k
        have dr : W5.cell? ⟨w4.heap.size, 0, none⟩ = some (.slice (some ⟨gF, 0, none⟩) 1 cF) := by rw [← hW5]; exact ((Bx.new w4 28 #[.slice (some ⟨gF, 0, none⟩) 1 cF, .slice aG (glN i).length cG]).alloc (.cells #[.int .i64 0, .int .i64 0] 31)).c 0 _ rfl
        have lr : w4.heap.size < W5.heap.size := by rw [← hW5]; simp; omega
        have lF5 : gF < W5.heap.size := Nat.lt_of_lt_of_le lF k.size
        have HB4 : Hid (Below W.heap.size W W5) := bthen (bthen HB3.out HB3.out.size hB4) (bthen HB3.out HB3.out.size hB4).size k
        have HRow : Hid (∃ g, 0 < i → g < W5.heap.size ∧ (∃ c, Value.slice aV i cV = .slice (some ⟨g, 0, none⟩) i c) ∧ ∀ j u, (vcl (csN i))[j]? = some u → W5.cell? ⟨g, j, none⟩ = some u) := by
          obtain ⟨g, hg⟩ := hrow
          exact ⟨g, fun h => ⟨Nat.lt_of_lt_of_le (hg h).1 k.size, (hg h).2.1, fun j u hu => (k.cell (p := ⟨g, j, none⟩) (hg h).1).trans ((hg h).2.2 j u hu)⟩⟩
        have HR5 : Hid (W5.cell? ⟨gF, 4, none⟩ = some (.slice aV i cV) ∧ W5.cell? ⟨w4.heap.size, 0, none⟩ = some (.slice (some ⟨gF, 0, none⟩) 1 cF) ∧ gF < W5.heap.size ∧ w4.heap.size < W5.heap.size) := ⟨q3, dr, lF5, lr⟩
        have HW5 : Hid ((w4.alloc (.cells #[.slice (some ⟨gF, 0, none⟩) 1 cF, .slice aG (glN i).length cG] 28)).alloc (.cells #[.int .i64 0, .int .i64 0] 31) = W5) := hW5
        clear C3 hF hG hV hvs hcs hB4 HB3 cc k lF hrow dr lr lF5 hW5 q3
        go_wp2
        go_loopw [7] (fun jv wx => ∃ j : Nat, jv = .int .i64 (j : Nat) ∧ j ≤ i ∧ Hid (Below W5.heap.size W5 wx)) (fun jv _ => i - (intOf jv).toNat)
        case atStart => exact ⟨0, rfl, by omega, by (show Below _ _ _; rw [HW5.out]; exact Below.refl _ _)⟩
        case round =>
          obtain ⟨j, rfl, hj, HJ⟩ := hrel
          clear HW5 d3 d4
          by_cases hjl : j < i
          · have hj1 : (j : Int) < (i : Int) := by omega
            have wj : IntKind.i64.wrap ((j : Int) + 1) = (j : Int) + 1 := by rw [IntKind.wrap_i64]; omega
            have hms : i - (j + 1) < i - j := by omega
            obtain ⟨gV, hgV⟩ := HRow.out
            obtain ⟨lV, ⟨c, hsl⟩, hcell⟩ := hgV (by omega)
            injection hsl with hs1 hs2 hs3
            subst hs1
            clear hs2 hs3
            obtain ⟨v1, v2, v3⟩ := vcl_at (csN i) j _ (csN_get i j hjl)
            obtain ⟨q4, qr, lF5, lr⟩ := HR5.out
            obtain ⟨Yc, Fw, F1, F2⟩ := class_of W5
            have HC : Hid (∃ x, (wr.drew = Fw x)) := F2 _ HJ.out.drew
            haveI : Nonempty Yc := HC.out.elim fun x _ => ⟨x⟩
            have hI : ∀ n x, Calls Tryz.prog 7 #[.int .i64 n] (Fw x) fun e w'' => e = .returned (.agg #[.int .i64 2, .int .i64 n, .string ⟨#[]⟩]) ∧ ∃ y, w'' = Fw y := fun n x => (I_any n (Fw x)).mono fun e w' ⟨he, hw⟩ => ⟨he, F2 w' ((F1 x).trans (hw.mono (F1 x).size))⟩
            have HF : Hid (∀ x, Below W5.heap.size W5 (Fw x)) := F1
            have z0 := fun x => ((F1 x).cell (p := ⟨gV, j * 3, none⟩) lV).trans (hcell _ _ v1)
            have z1 := fun x => ((F1 x).cell (p := ⟨gV, j * 3 + 1, none⟩) lV).trans (hcell _ _ v2)
            have z2 := fun x => ((F1 x).cell (p := ⟨gV, j * 3 + 2, none⟩) lV).trans (hcell _ _ v3)
            have z4 := fun x => ((F1 x).cell (p := ⟨gF, 4, none⟩) lF5).trans q4
            have zr := fun x => ((F1 x).cell (p := ⟨w4.heap.size, 0, none⟩) lr).trans qr
            have e1 := neqV (j : Nat)
            simp only at z0 z1 z2
            clear F1 F2 v1 v2 v3 hcell hgV q4 qr lF5 lr lV HJ HRow
            go_wp2_with fail
            refine wp_class (F := Fw) (by kernel_rfl) (by kernel_rfl) HC.out ?_
            repeat (go_big_quiet_step (exact hI _ _))
            refine wpQuiet_nil ?_
            intro _ hw'
            obtain ⟨x9, rfl⟩ := hw'
            have HJ : Hid (Below W5.heap.size W5 (Fw x9)) := HF.out x9
            clear HC hI HF z0 z1 z2 z4 zr e1
            go_wp2
            go_roundw
            case rel => exact ⟨j + 1, by go_num, by omega, HJ⟩
            case measure => first | omega | (simp only [intOf]; omega) | (simp; omega)
          · have hj1 : ¬ (j : Int) < (i : Int) := by omega
            go_wp2
            go_ret
            exact ⟨rfl, bthen HB4.out HB4.out.size HJ.out⟩
      · obtain ⟨ct, hct, hch⟩ := chT_gt i (by omega) (by omega)
        have n250 : (250 : Int) < (i : Int) := by omega
        rw [hch] at C3
        unfold ChP at C3
        simp only [] at C3
        go_wp2_with fail
        refine C3.mono ?_
        rintro e w4 ⟨vF, vG, rfl, hRp, hB4⟩
        obtain ⟨⟨vs, hF, hvs, hcs⟩, hG⟩ := hRp
        obtain ⟨aF, cF, rfl⟩ := slice_shape hF
        obtain ⟨aG, cG, rfl⟩ := slice_shape hG
        have HB4 : Hid (Below W.heap.size W w4) := bthen HB3.out HB3.out.size hB4
        clear C3 hF hG hvs hcs hB4 HB3 hch
        go_wp2
        go_ret
        exact ⟨rfl, bthen HB4.out HB4.out.size (b2 w4 _ _)⟩
end Go.Proofs.YteihndfjkelldaaGreat
