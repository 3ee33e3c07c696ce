/- The walks of Take and Spend. -/
import Derived.Test.YteknjkofmkigoabHa
namespace Go.Proofs.Yteknjkofmkigoab.H
open Go.RowKit

theorem ret2 {a b c d : Int} (h : a = b) (h2 : c = d) : Ending.returned (.tuple #[.int .i64 a, .int .i64 c]) = .returned (.tuple #[.int .i64 b, .int .i64 d]) := by rw [h, h2]

def setT (l : List (Int × Bool)) (i : Nat) (t : Bool) : List (Int × Bool) := l.set i ((l.getD i (0, false)).1, t)
theorem setT_len (l : List (Int × Bool)) (i : Nat) (t : Bool) : (setT l i t).length = l.length := by simp [setT]
theorem setT_eq (l : List (Int × Bool)) (i : Nat) (h : i < l.length) (t : Bool) : setT l i t = l.set i ((l[i]'h).1, t) := by
  unfold setT
  rw [List.getD, List.getElem?_eq_getElem h]
  rfl
theorem setT_last (l : List (Int × Bool)) (n : Int) (t u : Bool) : setT (l ++ [(n, t)]) l.length u = l ++ [(n, u)] := by
  rw [setT_eq _ _ (by simp)]
  simp

theorem Hp.setTaken {No : Nat → Prop} {w : World} {S b c g cap : Nat} {s : St} (h : Hp No w S b c (.slice (some ⟨g, 0, none⟩) s.bl.length cap) s) (i : Nat) (hi : i < s.bl.length) (t : Bool) :
    Hp No (w.setCell ⟨g, i * 2 + 1, none⟩ (.bool t)) S b c (.slice (some ⟨g, 0, none⟩) s.bl.length cap) { s with bl := setT s.bl i t } := by
  obtain ⟨a1, a2, a3, a4, lS, lb⟩ := h.apart
  have hgs := gset w g (i * 2 + 1) (.bool t)
  obtain ⟨cur0, hc0⟩ := a4 g rfl
  refine ⟨(hgs.block S lS (fun e => a2 e.symm)).trans h.str, ?_, h.rdy.kept hgs (fun q e => ?_), by show (setT s.bl i t).length ≤ c; rw [setT_len]; exact h.len, h.noS, h.nob, h.nov, fun q r => by have := h.nos q r; simpa using this⟩
  · show World.ownsRow _ 0 72 2 _ (setT s.bl i t).length (bcells (setT s.bl i t))
    rw [setT_len]
    refine ⟨by rw [bcells_len, setT_len], ?_⟩
    rcases h.row.2 with ⟨q, _⟩ | ⟨g', cap', cur, q, q1, q2, q3, q4, q5, q6⟩
    · cases q
    · injection q with qa _ qc
      injection qa with qa
      injection qa with qa _ _
      subst qa qc
      refine .inr ⟨g, cap, cur.setIfInBounds (i * 2 + 1) (.bool t), rfl, q1, heap_setCell_same w g _ cur 72 _ q2, q3, q4, by simpa using q5, ?_⟩
      rw [setT_eq _ _ hi, ← bcells_set _ _ hi, ← q6]
      simp only [Array.toList_setIfInBounds, List.take_set]
  · injection e with e
    subst e
    refine ⟨fun e2 => a3 (by rw [e2]; rfl), fun cs fr q => ?_⟩
    rw [hc0] at q
    injection q with q
    injection q with _ q _
    cases q
theorem Hp.setLive {No : Nat → Prop} {w : World} {S b c : Nat} {vb : Value} {s : St} (h : Hp No w S b c vb s) (x : Int) : Hp No (w.setCell ⟨S, 1, none⟩ (.int .i64 x)) S b c vb { s with live := x } := by
  obtain ⟨a1, a2, a3, a4, lS, lb⟩ := h.apart
  have hgs := gset w S 1 (.int .i64 x)
  refine ⟨heap_setCell_same w S 1 _ 70 _ h.str, h.row.kept hgs (.inr a2), h.rdy.kept hgs (fun q e => ?_), h.len, h.noS, h.nob, h.nov, fun q r => by have := h.nos q r; simpa using this⟩
  injection e with e
  subst e
  refine ⟨Ne.symm a1, fun cs fr q => ?_⟩
  rw [h.str] at q
  injection q with q
  injection q with _ q _
  cases q

/-- What holds of each heap that was made by New and turned by its calls. -/
structure Ok (s : St) : Prop where
  l0 : 0 ≤ s.live
  l1 : s.live ≤ s.lim
  l2 : s.lim ≤ 400000
  d0 : 0 ≤ s.laid
  d1 : s.laid ≤ s.bl.length * 400000
  ids : ∀ n x, x ∈ s.R n → ∃ k : Nat, x = (k : Int) + 1 ∧ ∃ h : k < s.bl.length, s.bl[k]'h = (n, false)
  nodup : ∀ n, (s.R n).Nodup
  cells : ∀ k (h : k < s.bl.length), 1 ≤ (s.bl[k]'h).1 ∧ (s.bl[k]'h).1 ≤ 400000

def takeSt (s : St) (n : Int) : St :=
  if n < 0 then s else if s.lim - s.live < n then s else if n = 0 then s
  else if s.R n = [] then { s with laid := s.laid + n, live := s.live + n, bl := s.bl ++ [(n, true)] }
  else { s with live := s.live + n, R := upd s.R n (s.R n).dropLast, bl := setT s.bl (((s.R n).getLast?.getD 0).toNat - 1) true }
def takeId (s : St) (n : Int) : Int :=
  if n < 0 then 0 else if s.lim - s.live < n then 0 else if n = 0 then 0
  else if s.R n = [] then (s.bl.length : Int) + 1 else (s.R n).getLast?.getD 0
def takeE (s : St) (n : Int) : Int := if n < 0 then 1 else if s.lim - s.live < n then 10 else 0

theorem Hp.cellT {No : Nat → Prop} {w : World} {S b c g cap : Nat} {s : St} (h : Hp No w S b c (.slice (some ⟨g, 0, none⟩) s.bl.length cap) s) (i : Nat) (hi : i < s.bl.length) :
    w.cell? ⟨g, i * 2 + 1, none⟩ = some (.bool (s.bl[i]'hi).2) ∧ w.cell? ⟨g, i * 2, none⟩ = some (.int .i64 (s.bl[i]'hi).1) ∧ (∀ j, w.frozen? ⟨g, j, none⟩ = false) ∧ s.bl.length ≤ cap := by
  obtain ⟨a1, a2, a3, a4, lS, lb⟩ := h.apart
  obtain ⟨cur0, hc0⟩ := a4 g rfl
  have hb := bcells_get s.bl i hi
  refine ⟨?_, ?_, fun j => free_row hc0 j, ?_⟩
  · rw [h.row.cellAt (i * 2 + 1) (by omega)]; exact hb.2
  · rw [h.row.cellAt (i * 2) (by omega)]; exact hb.1
  · obtain ⟨_, _, q, q2⟩ := slice_of h.row
    injection q with _ _ q3
    omega

set_option maxHeartbeats 400000 in
theorem take_bad {No : Nat → Prop} {w : World} {S b c : Nat} {vb : Value} {s : St} (h : Hp No w S b c vb s) (ok : Ok s) (n : Int) (hn : n < 0 ∨ s.lim - s.live < n ∨ n = 0) :
    Calls Try.prog 26 #[.pointer (some ⟨S, 0, none⟩), .int .i64 n] w fun e w' => e = .returned (.tuple #[.int .i64 0, .int .i64 (takeE s n)]) ∧ (w' = w ∨ w' = w.drew) := by
  have hl0 := ok.l0
  have hl1 := ok.l1
  have hl2 := ok.l2
  by_cases h0 : n < 0
  · have e : takeE s n = 1 := by unfold takeE; rw [if_pos h0]
    rw [e]
    have C := room_neg w S n h0
    clear e h ok hn
    go_enter Try.func26, Try.ntmps26
    go_wp2_with (go_at_call 38; refine C.mono ?_; rintro e w' ⟨rfl, rfl⟩)
    go_ret2
    exact ⟨rfl, .inl rfl⟩
  · have C := room_pos w S n s.lim s.live (by omega) h.c0 h.c1 (by omega) hl2 hl0 hl1
    by_cases h1 : s.lim - s.live < n
    · have e : takeE s n = 10 := by unfold takeE; rw [if_neg h0, if_pos h1]
      rw [e]
      rw [if_pos h1] at C
      clear e h ok hn
      go_enter Try.func26, Try.ntmps26
      go_wp2_with (go_at_call 38; refine C.mono ?_; rintro e w' ⟨rfl, rfl⟩)
      go_ret2
      exact ⟨rfl, .inr rfl⟩
    · have e : takeE s n = 0 := by unfold takeE; rw [if_neg h0, if_neg h1]
      rw [e]
      rw [if_neg h1] at C
      obtain rfl : n = 0 := by omega
      clear e h ok hn
      go_enter Try.func26, Try.ntmps26
      go_wp2_with (go_at_call 38; refine C.mono ?_; rintro e w' ⟨rfl, rfl⟩)
      go_ret2
      exact ⟨rfl, .inr rfl⟩

theorem take_new {s : St} {n : Int} (h0 : 1 ≤ n) (h1 : n ≤ s.lim - s.live) (hR : s.R n = []) : takeSt s n = { s with laid := s.laid + n, live := s.live + n, bl := s.bl ++ [(n, true)] } ∧ takeId s n = (s.bl.length : Int) + 1 ∧ takeE s n = 0 := by
  refine ⟨?_, ?_, ?_⟩
  · unfold takeSt; rw [if_neg (by omega), if_neg (by omega), if_neg (by omega), if_pos hR]
  · unfold takeId; rw [if_neg (by omega), if_neg (by omega), if_neg (by omega), if_pos hR]
  · unfold takeE; rw [if_neg (by omega), if_neg (by omega)]
theorem take_old {s : St} {n : Int} (h0 : 1 ≤ n) (h1 : n ≤ s.lim - s.live) {zs : List Int} {k : Nat} (hR : s.R n = zs ++ [(k : Int) + 1]) : takeSt s n = { s with live := s.live + n, R := upd s.R n zs, bl := setT s.bl k true } ∧ takeId s n = (k : Int) + 1 ∧ takeE s n = 0 := by
  have hne : s.R n ≠ [] := by rw [hR]; simp
  refine ⟨?_, ?_, ?_⟩
  · unfold takeSt; rw [if_neg (by omega), if_neg (by omega), if_neg (by omega), if_neg hne, hR]
    simp only [List.dropLast_concat, List.getLast?_concat, Option.getD_some]
    rw [show ((k : Int) + 1).toNat - 1 = k by omega]
  · unfold takeId; rw [if_neg (by omega), if_neg (by omega), if_neg (by omega), if_neg hne, hR]
    simp
  · unfold takeE; rw [if_neg (by omega), if_neg (by omega)]
theorem Hp.form {No : Nat → Prop} {w : World} {S b c : Nat} {vb : Value} {s : St} (h : Hp No w S b c vb s) (hl : 0 < s.bl.length) : ∃ g cap, vb = .slice (some ⟨g, 0, none⟩) s.bl.length cap := by
  obtain ⟨g, cap, q, _⟩ := h.row.form hl
  exact ⟨g, cap, q⟩
/-- Behind Take's last two stores. -/
theorem Hp.taken {No : Nat → Prop} {w : World} {S b c g cap : Nat} {s : St} (h : Hp No w S b c (.slice (some ⟨g, 0, none⟩) s.bl.length cap) s) (i : Nat) (hi : i < s.bl.length) (x : Int) :
    Hp No ((w.setCell ⟨g, i * 2 + 1, none⟩ (.bool true)).setCell ⟨S, 1, none⟩ (.int .i64 x)) S b c (.slice (some ⟨g, 0, none⟩) s.bl.length cap) { s with live := x, bl := setT s.bl i true } ∧ Keep No w ((w.setCell ⟨g, i * 2 + 1, none⟩ (.bool true)).setCell ⟨S, 1, none⟩ (.int .i64 x)) :=
  ⟨(h.setTaken i hi true).setLive x, ((Keep.refl No w).grown (gset w g _ _) (fun q e => by cases e; exact h.nov g rfl)).grown (gset _ S 1 _) (fun q e => by cases e; exact h.noS)⟩

set_option maxRecDepth 20000 in
set_option maxHeartbeats 1000000 in
theorem take_good {No : Nat → Prop} {w : World} {S b c : Nat} {vb : Value} {s : St} (h : Hp No w S b c vb s) (hc : c ≤ 1000000) (ok : Ok s) (n : Int) (h0 : 1 ≤ n) (h1 : n ≤ s.lim - s.live) :
    Calls Try.prog 26 #[.pointer (some ⟨S, 0, none⟩), .int .i64 n] w fun e w' => e = .returned (.tuple #[.int .i64 (takeId s n), .int .i64 0]) ∧ (∃ v', Hp No w' S b (c + 1) v' (takeSt s n)) ∧ Keep No w w' := by
  have hl0 := ok.l0
  have hl1 := ok.l1
  have hl2 := ok.l2
  have hd0 := ok.d0
  have hd1 := ok.d1
  have hlen := h.len
  have hd2 : s.laid ≤ 1000000000000 := by
    have : (s.bl.length : Int) * 400000 ≤ 1000000 * 400000 := Int.mul_le_mul_of_nonneg_right (by omega) (by omega)
    omega
  have C := room_pos w S n s.lim s.live (by omega) h.c0 h.c1 (by omega) hl2 hl0 hl1
  rw [if_neg (by omega)] at C
  rcases List.eq_nil_or_concat (s.R n) with hR | ⟨zs, x, hR⟩
  · obtain ⟨e1, e2, _⟩ := take_new h0 h1 hR
    rw [e1, e2]
    have C1 := again_none h.drew hc n (by omega) (by omega) hR
    have C2 := lay_any h.drew hc n (by omega) (by omega) hd0 hd2
    have hm : s.bl.length ≤ 1000000 := by omega
    have h2 : n ≤ 400000 := by omega
    clear e1 e2 ok h hlen hd1
    go_enter Try.func26, Try.ntmps26
    go_wp2_with fail
    refine C.mono ?_
    rintro e w' ⟨rfl, rfl⟩
    go_wp2_with fail
    refine C1.mono ?_
    rintro e w' ⟨rfl, rfl⟩
    go_wp2_with fail
    refine C2.mono ?_
    rintro e w2 ⟨rfl, ⟨v2, hp2⟩, k2⟩
    clear C C1 C2
    obtain ⟨g, cap, rfl⟩ := hp2.form (by simp)
    have HT : Hid _ := hp2.taken s.bl.length (by simp) (s.live + n)
    have ct := hp2.cellT s.bl.length (by simp)
    have c3 := hp2.c3
    have c1 := hp2.c1
    have f1 := hp2.fr 1
    have ns := hp2.apart.2.1
    simp only [List.length_append, List.length_cons, List.length_nil, Nat.zero_add] at c3 c1 ct HT ns
    obtain ⟨d1, _, f2, hcap⟩ := ct
    have f3 := f2 (s.bl.length * 2 + 1)
    have hgS : g ≠ S := fun e => ns (by rw [e]; rfl)
    have HE : Hid (setT (s.bl ++ [(n, false)]) s.bl.length true = s.bl ++ [(n, true)]) := setT_last _ _ _ _
    generalize (s.bl ++ [(n, false)])[s.bl.length]'(by simp) = pr at *
    have K2 : Hid _ := k2
    clear hp2 f2 ns k2 hR
    obtain ⟨m, hm2⟩ : ∃ m, s.bl.length = m := ⟨_, rfl⟩
    rw [hm2] at hm c3 d1 f3 HT hcap HE ⊢
    have HM : Hid _ := hm2
    clear hm2
    go_wp2_with fail
    go_ret2
    have U := HT.out
    rw [HE.out] at U
    exact ⟨ret2 (by rw [HM.out]) rfl, ⟨_, U.1⟩, (Keep.refl No w).drew.trans (K2.out.trans U.2)⟩
  · rw [List.concat_eq_append] at hR
    obtain ⟨k, rfl, hk, hbk⟩ := ok.ids n x (by rw [hR]; simp)
    obtain ⟨e1, e2, _⟩ := take_old h0 h1 hR
    rw [e1, e2]
    have C1 := again_some h.drew hc n (by omega) (by omega) zs _ hR
    have hm : s.bl.length ≤ 1000000 := by omega
    have h2 : n ≤ 400000 := by omega
    clear e1 e2 ok hlen hd1
    obtain ⟨g, cap, rfl⟩ := h.form (by omega)
    clear h
    go_enter Try.func26, Try.ntmps26
    go_wp2_with fail
    refine C.mono ?_
    rintro e w' ⟨rfl, rfl⟩
    go_wp2_with fail
    refine C1.mono ?_
    rintro e w2 ⟨rfl, hp2, k2⟩
    clear C C1
    have HT : Hid _ := Hp.taken (s := { s with R := upd s.R n zs }) hp2 k hk (s.live + n)
    have ct := Hp.cellT (s := { s with R := upd s.R n zs }) hp2 k hk
    have c3 := hp2.c3
    have c1 := hp2.c1
    have f1 := hp2.fr 1
    have ns := hp2.apart.2.1
    simp only at c3 c1 ct HT ns
    obtain ⟨d1, _, f2, hcap⟩ := ct
    have f3 := f2 (k * 2 + 1)
    have hgS : g ≠ S := fun e => ns (by rw [e]; rfl)
    generalize s.bl[k]'hk = pr at *
    have K2 : Hid _ := k2
    have hkm : (k : Int) < (s.bl.length : Int) := by omega
    have hz : (((k : Int) + 1) == 0) = false := by simp; omega
    clear hp2 f2 ns k2 hR
    generalize s.bl.length = m at *
    go_wp2_with fail
    go_ret2
    exact ⟨rfl, ⟨_, HT.out.1⟩, (Keep.refl No w).drew.trans (K2.out.trans HT.out.2)⟩

theorem take_any {No : Nat → Prop} {w : World} {S b c : Nat} {vb : Value} {s : St} (h : Hp No w S b c vb s) (hc : c ≤ 1000000) (ok : Ok s) (n : Int) :
    Calls Try.prog 26 #[.pointer (some ⟨S, 0, none⟩), .int .i64 n] w fun e w' => e = .returned (.tuple #[.int .i64 (takeId s n), .int .i64 (takeE s n)]) ∧ (∃ v', Hp No w' S b (c + 1) v' (takeSt s n)) ∧ Keep No w w' := by
  by_cases hn : n < 0 ∨ s.lim - s.live < n ∨ n = 0
  · have e1 : takeSt s n = s ∧ takeId s n = 0 := by
      unfold takeSt takeId
      by_cases h0 : n < 0
      · rw [if_pos h0, if_pos h0]; exact ⟨rfl, rfl⟩
      · by_cases h1 : s.lim - s.live < n
        · rw [if_neg h0, if_neg h0, if_pos h1, if_pos h1]; exact ⟨rfl, rfl⟩
        · have h2 : n = 0 := by omega
          rw [if_neg h0, if_neg h0, if_neg h1, if_neg h1, if_pos h2, if_pos h2]; exact ⟨rfl, rfl⟩
    rw [e1.1, e1.2]
    refine (take_bad h ok n hn).mono ?_
    rintro e w' ⟨rfl, rfl | rfl⟩
    · exact ⟨rfl, ⟨_, h.more (Nat.le_succ _)⟩, Keep.refl _ _⟩
    · exact ⟨rfl, ⟨_, h.drew.more (Nat.le_succ _)⟩, (Keep.refl _ _).drew⟩
  · have e : takeE s n = 0 := by unfold takeE; rw [if_neg (by omega), if_neg (by omega)]
    rw [e]
    exact take_good h hc ok n (by omega) (by omega)

/-! ### Spend -/
def spendSt (s : St) (n : Int) : St := if n < 0 then s else if s.lim - s.live < n then s else { s with live := s.live + n }
set_option maxHeartbeats 400000 in
theorem spend_any {No : Nat → Prop} {w : World} {S b c : Nat} {vb : Value} {s : St} (h : Hp No w S b c vb s) (ok : Ok s) (n : Int) :
    Calls Try.prog 25 #[.pointer (some ⟨S, 0, none⟩), .int .i64 n] w fun e w' => e = .returned (.int .i64 (takeE s n)) ∧ Hp No w' S b c vb (spendSt s n) ∧ Keep No w w' := by
  have hl0 := ok.l0
  have hl1 := ok.l1
  have hl2 := ok.l2
  by_cases h0 : n < 0
  · have e : takeE s n = 1 ∧ spendSt s n = s := by unfold takeE spendSt; rw [if_pos h0, if_pos h0]; exact ⟨rfl, rfl⟩
    rw [e.1, e.2]
    have C := room_neg w S n h0
    have HF : Hid _ := h
    clear e h ok
    go_enter Try.func25, Try.ntmps25
    go_wp2_with (go_at_call 38; refine C.mono ?_; rintro e w' ⟨rfl, rfl⟩)
    go_ret
    exact ⟨rfl, HF.out, Keep.refl _ _⟩
  · have C := room_pos w S n s.lim s.live (by omega) h.c0 h.c1 (by omega) hl2 hl0 hl1
    by_cases h1 : s.lim - s.live < n
    · have e : takeE s n = 10 ∧ spendSt s n = s := by unfold takeE spendSt; rw [if_neg h0, if_neg h0, if_pos h1, if_pos h1]; exact ⟨rfl, rfl⟩
      rw [e.1, e.2]
      rw [if_pos h1] at C
      have HF : Hid _ := h.drew
      clear e h ok
      go_enter Try.func25, Try.ntmps25
      go_wp2_with (go_at_call 38; refine C.mono ?_; rintro e w' ⟨rfl, rfl⟩)
      go_ret
      exact ⟨rfl, HF.out, (Keep.refl _ _).drew⟩
    · have e : takeE s n = 0 ∧ spendSt s n = { s with live := s.live + n } := by unfold takeE spendSt; rw [if_neg h0, if_neg h0, if_neg h1, if_neg h1]; exact ⟨rfl, rfl⟩
      rw [e.1, e.2]
      rw [if_neg h1] at C
      have HF : Hid _ := h.drew.setLive (s.live + n)
      have HK : Hid (Keep No w (w.drew.setCell ⟨S, 1, none⟩ (.int .i64 (s.live + n)))) := (Keep.refl No w).drew.grown (gset _ S 1 _) (fun q e => by cases e; exact h.noS)
      have c1 := h.c1
      have f1 := h.fr 1
      clear e h ok
      go_enter Try.func25, Try.ntmps25
      go_wp2_with (go_at_call 38; refine C.mono ?_; rintro e w' ⟨rfl, rfl⟩)
      go_ret
      exact ⟨rfl, HF.out, HK.out⟩

end Go.Proofs.Yteknjkofmkigoab.H
