/- Quote as a plain function of the bytes (no program in it): what it puts for a rune, for a text; that its scan is the text again. -/
import Derived.Test.YtlgkfhipobdcfabGreatDoorCg05
import Derived.Test.YtlgkfhipobdcfabGreatDoorCg04
import Derived.Lib.MapLaws
import Derived.Test.YtlgkfhipobdcfabGreatDoorCg03
import Derived.Test.YtlgkfhipobdcfabGreatDoorCg06
namespace Go.Proofs.YtlgkfhipobdcfabGreatDoor
open Go.RowKit

/-- A hexadecimal digit. -/
def hxd (n : Nat) : UInt8 := if n < 10 then UInt8.ofNat (48 + n) else UInt8.ofNat (87 + n)
/-- What stands for the rune at a list's head. -/
def qr (l : List UInt8) : List UInt8 :=
  if (l.headD 0).toNat = 92 ∨ (l.headD 0).toNat = 34 then [92, l.headD 0]
  else if (l.headD 0).toNat = 10 then [92, 110]
  else if (l.headD 0).toNat = 13 then [92, 114]
  else if (l.headD 0).toNat < 32 ∨ (l.headD 0).toNat = 127 then [92, UInt8.ofNat (48 + (l.headD 0).toNat / 100), UInt8.ofNat (48 + (l.headD 0).toNat / 10 % 10), UInt8.ofNat (48 + (l.headD 0).toNat % 10)]
  else if rnL l = 65533 ∧ wdL l = 1 then [92, 120, hxd ((l.headD 0).toNat / 16), hxd ((l.headD 0).toNat % 16)]
  else l.take (wdL l)
def quo : List UInt8 → List UInt8
  | [] => []
  | c :: t => qr (c :: t) ++ quo (t.drop (wdL (c :: t) - 1))
termination_by l => l.length
decreasing_by simp; omega
/-- Quote. -/
def quoQ (l : List UInt8) : List UInt8 := 34 :: (quo l ++ [34])

theorem qr1 (c : UInt8) (t : List UInt8) (h1 : c.toNat = 92 ∨ c.toNat = 34) : qr (c :: t) = [92, c] := if_pos h1
theorem qr2 (c : UInt8) (t : List UInt8) (h1 : ¬ (c.toNat = 92 ∨ c.toNat = 34)) (h2 : c.toNat = 10) : qr (c :: t) = [92, 110] := (if_neg h1).trans (if_pos h2)
theorem qr3 (c : UInt8) (t : List UInt8) (h1 : ¬ (c.toNat = 92 ∨ c.toNat = 34)) (h2 : ¬ c.toNat = 10) (h3 : c.toNat = 13) : qr (c :: t) = [92, 114] := (if_neg h1).trans ((if_neg h2).trans (if_pos h3))
theorem qr4 (c : UInt8) (t : List UInt8) (h1 : ¬ (c.toNat = 92 ∨ c.toNat = 34)) (h2 : ¬ c.toNat = 10) (h3 : ¬ c.toNat = 13) (h4 : c.toNat < 32 ∨ c.toNat = 127) :
    qr (c :: t) = [92, UInt8.ofNat (48 + c.toNat / 100), UInt8.ofNat (48 + c.toNat / 10 % 10), UInt8.ofNat (48 + c.toNat % 10)] := (if_neg h1).trans ((if_neg h2).trans ((if_neg h3).trans (if_pos h4)))
theorem qr5 (c : UInt8) (t : List UInt8) (h1 : ¬ (c.toNat = 92 ∨ c.toNat = 34)) (h2 : ¬ c.toNat = 10) (h3 : ¬ c.toNat = 13) (h4 : ¬ (c.toNat < 32 ∨ c.toNat = 127)) (h5 : rnL (c :: t) = 65533 ∧ wdL (c :: t) = 1) :
    qr (c :: t) = [92, 120, hxd (c.toNat / 16), hxd (c.toNat % 16)] := (if_neg h1).trans ((if_neg h2).trans ((if_neg h3).trans ((if_neg h4).trans (if_pos h5))))
theorem qr6 (c : UInt8) (t : List UInt8) (h1 : ¬ (c.toNat = 92 ∨ c.toNat = 34)) (h2 : ¬ c.toNat = 10) (h3 : ¬ c.toNat = 13) (h4 : ¬ (c.toNat < 32 ∨ c.toNat = 127)) (h5 : ¬ (rnL (c :: t) = 65533 ∧ wdL (c :: t) = 1)) :
    qr (c :: t) = (c :: t).take (wdL (c :: t)) := (if_neg h1).trans ((if_neg h2).trans ((if_neg h3).trans ((if_neg h4).trans (if_neg h5))))

theorem quo_nil : quo [] = [] := by rw [quo]
theorem quo_step (l : List UInt8) (h : l ≠ []) : quo l = qr l ++ quo (l.drop (wdL l)) := by
  match l, h with
  | c :: t, _ => rw [quo, drop_wd c t _ (wdL_pos _)]
theorem qr_len (l : List UInt8) : (qr l).length ≤ 4 * wdL l := by
  have h := wdL_pos l
  unfold qr
  repeat' split
  all_goals simp only [List.length_cons, List.length_nil, List.length_take]
  all_goals omega
theorem quo_len (l : List UInt8) : (quo l).length ≤ 4 * l.length := by
  by_cases h : l = []
  · subst h; rw [quo_nil]; simp
  · rw [quo_step l h, List.length_append]
    have h1 := qr_len l
    have h2 := wdL_le l h
    have h3 := quo_len (l.drop (wdL l))
    rw [List.length_drop] at h3
    omega
termination_by l.length
decreasing_by
  have := List.length_pos_iff.2 h; have := wdL_pos l
  rw [List.length_drop]; omega

theorem hxd_val (n : Nat) (h : n < 16) : W.dgB (hxd n).toNat = true ∧ W.dgV (hxd n).toNat = n := by
  have : n = 0 ∨ n = 1 ∨ n = 2 ∨ n = 3 ∨ n = 4 ∨ n = 5 ∨ n = 6 ∨ n = 7 ∨ n = 8 ∨ n = 9 ∨ n = 10 ∨ n = 11 ∨ n = 12 ∨ n = 13 ∨ n = 14 ∨ n = 15 := by omega
  rcases this with rfl | rfl | rfl | rfl | rfl | rfl | rfl | rfl | rfl | rfl | rfl | rfl | rfl | rfl | rfl | rfl <;> decide

/-- The bytes of a rune as they stand are passed over. -/
theorem take_plain (c : UInt8) (t : List UInt8) (h1 : ¬ (c.toNat = 92 ∨ c.toNat = 34)) (h2 : ¬ c.toNat = 10) : ∀ x ∈ (c :: t).take (wdL (c :: t)), x.toNat ≠ 10 ∧ x ≠ 34 ∧ x.toNat ≠ 92 := by
  have fin : ∀ x : UInt8, 128 ≤ x.toNat → x.toNat ≠ 10 ∧ x ≠ 34 ∧ x.toNat ≠ 92 := fun x hx => ⟨by omega, fun e => by rw [e] at hx; exact absurd hx (by decide), by omega⟩
  rcases Nat.lt_or_ge c.toNat 128 with h | h
  · intro x hx
    rw [(asc c t h).2] at hx
    simp at hx
    subst hx
    exact ⟨h2, fun e => h1 (.inr (by rw [e]; rfl)), fun e => h1 (.inl e)⟩
  · exact fun x hx => fin x (hi_bytes c t h x hx)

theorem esc_dec (n : Nat) (h : n < 256) (u : List UInt8) : esc (UInt8.ofNat (48 + n / 100) :: UInt8.ofNat (48 + n / 10 % 10) :: UInt8.ofNat (48 + n % 10) :: u) = ([UInt8.ofNat n], 3) := by
  have k : ∀ m, m < 10 → (UInt8.ofNat (48 + m)).toNat = 48 + m := fun m hm => by simp; omega
  have k0 := k (n / 100) (by omega)
  have k1 := k (n / 10 % 10) (by omega)
  have k2 := k (n % 10) (by omega)
  have hd : dgs 3 (UInt8.ofNat (48 + n / 100) :: UInt8.ofNat (48 + n / 10 % 10) :: UInt8.ofNat (48 + n % 10) :: u) = [UInt8.ofNat (48 + n / 100), UInt8.ofNat (48 + n / 10 % 10), UInt8.ofNat (48 + n % 10)] := by
    unfold dgs
    simp only [List.take_succ_cons, List.take_zero]
    rw [List.takeWhile_cons, k0, if_pos (by rw [decide_eq_true_eq]; omega), List.takeWhile_cons, k1, if_pos (by rw [decide_eq_true_eq]; omega), List.takeWhile_cons, k2, if_pos (by rw [decide_eq_true_eq]; omega)]
    rfl
  have hv : W.dv [UInt8.ofNat (48 + n / 100), UInt8.ofNat (48 + n / 10 % 10), UInt8.ofNat (48 + n % 10)] = n := by
    have e : ([UInt8.ofNat (48 + n / 100), UInt8.ofNat (48 + n / 10 % 10), UInt8.ofNat (48 + n % 10)] : List UInt8) = (([] ++ [UInt8.ofNat (48 + n / 100)]) ++ [UInt8.ofNat (48 + n / 10 % 10)]) ++ [UInt8.ofNat (48 + n % 10)] := rfl
    rw [e, W.dv_snoc, W.dv_snoc, W.dv_snoc]
    rw [(W.dec_val _ (by rw [k0]; omega)).2, (W.dec_val _ (by rw [k1]; omega)).2, (W.dec_val _ (by rw [k2]; omega)).2, k0, k1, k2]
    have : W.dv ([] : List UInt8) = 0 := rfl
    rw [this]
    omega
  simp only [esc]
  rw [k0, if_neg (by omega), if_neg (by omega), if_neg (by omega), if_neg (by omega), if_neg (by omega), if_neg (by omega)]
  unfold escD
  rw [hd, hv, if_neg (by rintro (h1 | h1); exact absurd h1 (by simp); omega)]
  rfl
theorem esc_hex (n : Nat) (h : n < 256) (u : List UInt8) : esc (120 :: hxd (n / 16) :: hxd (n % 16) :: u) = ([UInt8.ofNat n], 3) := by
  obtain ⟨a1, a2⟩ := hxd_val (n / 16) (by omega)
  obtain ⟨b1, b2⟩ := hxd_val (n % 16) (by omega)
  have ha : W.allHex [hxd (n / 16), hxd (n % 16)] = true := by
    simp only [W.allHex, List.all_cons, List.all_nil, Bool.and_true, Bool.and_eq_true]
    exact ⟨a1, b1⟩
  have hv : W.hv [hxd (n / 16), hxd (n % 16)] = n := by
    have e : ([hxd (n / 16), hxd (n % 16)] : List UInt8) = ([] ++ [hxd (n / 16)]) ++ [hxd (n % 16)] := rfl
    rw [e, W.hv_snoc, W.hv_snoc, a2, b2]
    have : W.hv ([] : List UInt8) = 0 := rfl
    rw [this]
    omega
  have e120 : (120 : UInt8).toNat = 120 := rfl
  simp only [esc]
  rw [e120, if_neg (by omega), if_neg (by omega), if_neg (by omega), if_neg (by omega), if_pos rfl]
  unfold escX
  rw [if_pos ((hxs_two _ _ _).2 ha), hxs_two_eq _ _ _ ha, hv]
  rfl

/-- What is quoted is read again. -/
theorem qt_qr (l : List UInt8) (h : l ≠ []) (u : List UInt8) (i : Nat) (acc : List UInt8) : qt 34 (qr l ++ u) i acc = qt 34 u (i + (qr l).length) (acc ++ l.take (wdL l)) := by
  match l, h with
  | c :: t, _ =>
    have one : c.toNat < 128 → (c :: t).take (wdL (c :: t)) = [c] := fun hc => by rw [(asc c t hc).2]; rfl
    have e92 : (92 : UInt8).toNat = 92 := rfl
    have q92 : (34 : UInt8).toNat ≠ 92 := by decide
    have cN : UInt8.ofNat c.toNat = c := by simp
    by_cases h1 : c.toNat = 92 ∨ c.toNat = 34
    · have he : esc (c :: u) = ([c], 1) := by
        simp only [esc]
        rw [if_neg (by omega), if_neg (by omega), if_neg (by omega), if_pos (by omega)]
      rw [qr1 c t h1, one (by omega)]
      simp only [List.cons_append, List.nil_append]
      rw [qt_esc 34 92 _ _ _ e92 q92, if_neg (by simp), he, if_neg (by simp)]
      simp only [List.drop_succ_cons, List.drop_zero, List.length_cons, List.length_nil]
    by_cases h2 : c.toNat = 10
    · have he : esc (110 :: u) = ([10], 1) := by rfl
      have hc : c = 10 := (toN c 10 (by omega)).1 h2
      rw [qr2 c t h1 h2, one (by omega)]
      simp only [List.cons_append, List.nil_append]
      rw [qt_esc 34 92 _ _ _ e92 q92, if_neg (by simp), he, if_neg (by simp), hc]
      simp only [List.drop_succ_cons, List.drop_zero, List.length_cons, List.length_nil]
    by_cases h3 : c.toNat = 13
    · have he : esc (114 :: u) = ([13], 1) := by rfl
      have hc : c = 13 := (toN c 13 (by omega)).1 h3
      rw [qr3 c t h1 h2 h3, one (by omega)]
      simp only [List.cons_append, List.nil_append]
      rw [qt_esc 34 92 _ _ _ e92 q92, if_neg (by simp), he, if_neg (by simp), hc]
      simp only [List.drop_succ_cons, List.drop_zero, List.length_cons, List.length_nil]
    by_cases h4 : c.toNat < 32 ∨ c.toNat = 127
    · have he := esc_dec c.toNat (by omega) u
      rw [qr4 c t h1 h2 h3 h4, one (by omega)]
      simp only [List.cons_append, List.nil_append]
      rw [qt_esc 34 92 _ _ _ e92 q92, if_neg (by simp), he, if_neg (by simp), cN]
      simp only [List.drop_succ_cons, List.drop_zero, List.length_cons, List.length_nil]
    by_cases h5 : rnL (c :: t) = 65533 ∧ wdL (c :: t) = 1
    · have he := esc_hex c.toNat (by exact c.toNat_lt) u
      have e1 : (c :: t).take (wdL (c :: t)) = [c] := by rw [h5.2]; rfl
      rw [qr5 c t h1 h2 h3 h4 h5, e1]
      simp only [List.cons_append, List.nil_append]
      rw [qt_esc 34 92 _ _ _ e92 q92, if_neg (by simp), he, if_neg (by simp), cN]
      simp only [List.drop_succ_cons, List.drop_zero, List.length_cons, List.length_nil]
    rw [qr6 c t h1 h2 h3 h4 h5]
    have hw := wdL_le (c :: t) (by simp)
    have hl : ((c :: t).take (wdL (c :: t))).length = wdL (c :: t) := by rw [List.length_take]; omega
    have hp := take_plain c t h1 h2
    generalize (c :: t).take (wdL (c :: t)) = x at hl hp
    have e1 : (x ++ u).take (wdL (c :: t)) = x := List.take_left' hl
    have e2 : (x ++ u).drop (wdL (c :: t)) = u := List.drop_left' hl
    rw [qt_pass 34 (wdL (c :: t)) (x ++ u) i acc (by rw [List.length_append, hl]; omega) (by rw [e1]; exact hp), e1, e2, hl]
theorem qt_quo (l : List UInt8) (u : List UInt8) (i : Nat) (acc : List UInt8) : qt 34 (quo l ++ u) i acc = qt 34 u (i + (quo l).length) (acc ++ l) := by
  by_cases h : l = []
  · subst h; rw [quo_nil]; simp
  · have ih := qt_quo (l.drop (wdL l)) u (i + (qr l).length) (acc ++ l.take (wdL l))
    rw [quo_step l h, List.append_assoc, qt_qr l h, ih, List.append_assoc, List.take_append_drop, List.length_append]
    congr 1
    omega
termination_by l.length
decreasing_by
  have := List.length_pos_iff.2 h; have := wdL_pos l
  rw [List.length_drop]; omega
/-- A quoted text is one string token. -/
theorem stp_quo (l u : List UInt8) (h : l.length ≤ 10000) : stp (quoQ l ++ u) = .tok 4 l 0 (quoQ l).length := by
  have e : quoQ l ++ u = 34 :: (quo l ++ 34 :: u) := by simp [quoQ]
  have hr := (asc 34 (quo l ++ 34 :: u) (by decide)).1
  have hq : qt 34 (quo l ++ 34 :: u) 1 [] = .ok l ((quo l).length + 2) := by
    rw [qt_quo, List.nil_append, qt_end 34 34 u _ _ rfl (by decide), if_neg (by omega)]
    congr 1
    omega
  have e34 : (34 : UInt8).toNat = 34 := rfl
  rw [e]
  unfold stp
  rw [hr, e34, if_neg (by omega), if_neg (by simp [Lib.hasPrefix, List.isPrefixOf]), if_neg (by decide), if_neg (by decide), if_pos (by omega)]
  simp only [List.headD_cons, List.drop_succ_cons, List.drop_zero]
  rw [hq]
  simp [quoQ]

/-- A rune's bytes, encoded anew. -/
theorem enc_rnL (l : List UInt8) (hne : l ≠ []) (hv : ¬ (rnL l = 65533 ∧ wdL l = 1)) : Utf8.encode (rnL l : Int) = ⟨(l.take (wdL l)).toArray⟩ := by
  have hd := dec_list l
  have h := Lib.encode_decode l hne hv
  have h1 : Lib.encodeRune (rnL l : Int) = l.take (wdL l) := h
  have hs : rnL l ≤ 1114111 ∧ (rnL l < 55296 ∨ 57343 < rnL l) := by
    refine ⟨rnL_le l, ?_⟩
    have hs := Lib.decodeN_shape l.length (l.getD 0 0).toNat (l.getD 1 0).toNat (l.getD 2 0).toNat (l.getD 3 0).toNat
    rw [← hd] at hs
    simp only [Prod.mk.injEq] at hs
    omega
  have hb : encB (rnL l : Int) = true := by rw [encB_iff]; omega
  rw [enc_bytes _ hb, ← h1]
  congr 2
  rw [Int.toNat_natCast]
  generalize rnL l = r at hs
  have hz : Lib.encodeRuneZ (r : Int) = (encL r).map fun n : Nat => (n : Int) := by
    unfold Lib.encodeRuneZ encL
    repeat' split
    all_goals first | omega | (simp only [List.map_cons, List.map_nil, List.cons.injEq, and_true]; done) | (simp only [List.map_cons, List.map_nil, List.cons.injEq, and_true]; omega)
  unfold Lib.encodeRune
  rw [hz, List.map_map]
  congr 1

end Go.Proofs.YtlgkfhipobdcfabGreatDoor

/- The walks of the program's Quote. -/
namespace Go.Proofs.YtlgkfhipobdcfabGreatDoor
open Go.RowKit

theorem LD_hd (s : ByteArray) (p : Nat) (h : p < s.size) : (LD s p).headD 0 = s[p] := by
  have hl : p < s.data.toList.length := by rw [Array.length_toList]; exact h
  unfold LD
  rw [List.drop_eq_getElem_cons hl]
  rfl

theorem ret_str {a b : ByteArray} (h : a = b) : Ending.returned (.string a) = .returned (.string b) := by rw [h]

set_option maxHeartbeats 1000000 in
theorem invalid_any (s : ByteArray) (p : Nat) (w : World) (hp : p < s.size) (hs : s.size ≤ 1048576) : Calls Tryz.prog 96 #[.string s, .int .i64 p] w fun e w' => e = .returned (.bool (decide (wd s p = 1))) ∧ Below w.heap.size w w' := by
  have C := fun w => decode_yes s p w hp (by omega)
  go_enter Tryz.func96, Tryz.ntmps96
  go_wp2_with (go_at_call 105; refine (C _).mono ?_; rintro e w1 ⟨rfl, hb⟩)
  go_ret
  exact ⟨ret_bool (by rw [Bool.eq_iff_iff]; simp; omega), hb.alloc hb.size _⟩

theorem dec_str (r : Nat) : strOfNums [92, 48 + (r : Int) / 100, 48 + (r : Int) / 10 % 10, 48 + (r : Int) % 10] = ⟨[92, UInt8.ofNat (48 + r / 100), UInt8.ofNat (48 + r / 10 % 10), UInt8.ofNat (48 + r % 10)].toArray⟩ := by
  have e1 : 48 + (r : Int) / 100 = ((48 + r / 100 : Nat) : Int) := by omega
  have e2 : 48 + (r : Int) / 10 % 10 = ((48 + r / 10 % 10 : Nat) : Int) := by omega
  have e3 : 48 + (r : Int) % 10 = ((48 + r % 10 : Nat) : Int) := by omega
  rw [e1, e2, e3]
  rfl

theorem hexAt (m : Nat) (h : m < (⟨#[48, 49, 50, 51, 52, 53, 54, 55, 56, 57, 97, 98, 99, 100, 101, 102]⟩ : ByteArray).size) : UInt8.ofNat ((⟨#[48, 49, 50, 51, 52, 53, 54, 55, 56, 57, 97, 98, 99, 100, 101, 102]⟩ : ByteArray)[m]'h).toNat = hxd m := by
  have h' : m < 16 := h
  have : m = 0 ∨ m = 1 ∨ m = 2 ∨ m = 3 ∨ m = 4 ∨ m = 5 ∨ m = 6 ∨ m = 7 ∨ m = 8 ∨ m = 9 ∨ m = 10 ∨ m = 11 ∨ m = 12 ∨ m = 13 ∨ m = 14 ∨ m = 15 := by omega
  rcases this with rfl | rfl | rfl | rfl | rfl | rfl | rfl | rfl | rfl | rfl | rfl | rfl | rfl | rfl | rfl | rfl <;> rfl
theorem hex_str (n : Nat) (h1 : n / 16 < (⟨#[48, 49, 50, 51, 52, 53, 54, 55, 56, 57, 97, 98, 99, 100, 101, 102]⟩ : ByteArray).size) (h2 : n % 16 < (⟨#[48, 49, 50, 51, 52, 53, 54, 55, 56, 57, 97, 98, 99, 100, 101, 102]⟩ : ByteArray).size) :
    strOfNums [92, 120, (((⟨#[48, 49, 50, 51, 52, 53, 54, 55, 56, 57, 97, 98, 99, 100, 101, 102]⟩ : ByteArray)[n / 16]'h1).toNat : Int), (((⟨#[48, 49, 50, 51, 52, 53, 54, 55, 56, 57, 97, 98, 99, 100, 101, 102]⟩ : ByteArray)[n % 16]'h2).toNat : Int)] = ⟨[92, 120, hxd (n / 16), hxd (n % 16)].toArray⟩ := by
  rw [← hexAt (n / 16) h1, ← hexAt (n % 16) h2]
  rfl

set_option maxRecDepth 20000 in
set_option maxHeartbeats 4000000 in
theorem quotedRune_any (s : ByteArray) (p : Nat) (w : World) (hp : p < s.size) (hs : s.size ≤ 1048576) :
    Calls Tryz.prog 85 #[.string s, .int .i64 p, .int .i32 (rn s p)] w fun e w' => e = .returned (.string ⟨(qr (LD s p)).toArray⟩) ∧ Below w.heap.size w w' := by
  obtain ⟨c, hc⟩ := LD_cons s p hp
  have hcs : s[p] = c := by
    have := LD_hd s p hp
    rw [hc] at this; exact this.symm
  have hR : rn s p = rnL (LD s p) := rn_drop s p
  have hW : wd s p = wdL (LD s p) := wd_drop s p
  have CI := fun w => invalid_any s p w hp hs
  have hE := enc_rnL (LD s p) (by rw [hc]; simp)
  rw [← hR, ← hW] at hE
  have hlo : c.toNat < 128 → rn s p = c.toNat ∧ wd s p = 1 := fun h => by rw [hR, hW, hc]; exact asc c _ h
  have hhi : 128 ≤ c.toNat → 128 ≤ rn s p := fun h => by rw [hR, hc]; exact hi c _ h
  have hrl := rn_le s p
  rw [hc] at hE ⊢
  have hW' := hW
  have hR' := hR
  rw [hc] at hR' hW'
  obtain ⟨r, hr⟩ : ∃ r, rn s p = r := ⟨_, rfl⟩
  rw [hr] at hE hlo hhi hrl hR' ⊢
  clear hr hR
  by_cases h1 : c.toNat = 92 ∨ c.toNat = 34
  · rw [qr1 c _ h1]
    obtain ⟨e1, e2⟩ := hlo (by omega)
    have hE' := hE (by omega)
    rw [e2, List.take_succ_cons, List.take_zero] at hE'
    clear hE hlo hhi hc hcs CI
    rcases h1 with h1 | h1
    · have b1 : r = 92 := by omega
      subst b1
      have HE : Hid (Utf8.encode (92 : Int) = _) := hE'
      clear hE' hR' e1
      go_enter Tryz.func85, Tryz.ntmps85
      go_wp2
      go_ret
      exact ⟨ret_str (by rw [HE.out]; rfl), Below.refl _ _⟩
    · have b1 : r = 34 := by omega
      subst b1
      have HE : Hid (Utf8.encode (34 : Int) = _) := hE'
      clear hE' hR' e1
      go_enter Tryz.func85, Tryz.ntmps85
      go_wp2
      go_ret
      exact ⟨ret_str (by rw [HE.out]; rfl), Below.refl _ _⟩
  by_cases h2 : c.toNat = 10
  · rw [qr2 c _ h1 h2]
    have b1 : r = 10 := by have := hlo (by omega); omega
    subst b1
    clear hE hlo hhi hc hcs CI hR'
    go_enter Tryz.func85, Tryz.ntmps85
    go_wp2
    go_ret
    exact ⟨rfl, Below.refl _ _⟩
  by_cases h3 : c.toNat = 13
  · rw [qr3 c _ h1 h2 h3]
    have b1 : r = 13 := by have := hlo (by omega); omega
    subst b1
    clear hE hlo hhi hc hcs CI hR'
    go_enter Tryz.func85, Tryz.ntmps85
    go_wp2
    go_ret
    exact ⟨rfl, Below.refl _ _⟩
  have b1 : ((r : Int) == 92) = false := by rw [beq_eq_false_iff_ne]; intro e; rcases Nat.lt_or_ge c.toNat 128 with h | h; (have := hlo h; omega); (have := hhi h; omega)
  have b2 : ((r : Int) == 34) = false := by rw [beq_eq_false_iff_ne]; intro e; rcases Nat.lt_or_ge c.toNat 128 with h | h; (have := hlo h; omega); (have := hhi h; omega)
  have b3 : ((r : Int) == 10) = false := by rw [beq_eq_false_iff_ne]; intro e; rcases Nat.lt_or_ge c.toNat 128 with h | h; (have := hlo h; omega); (have := hhi h; omega)
  have b4 : ((r : Int) == 13) = false := by rw [beq_eq_false_iff_ne]; intro e; rcases Nat.lt_or_ge c.toNat 128 with h | h; (have := hlo h; omega); (have := hhi h; omega)
  by_cases h4 : c.toNat < 32 ∨ c.toNat = 127
  · rw [qr4 c _ h1 h2 h3 h4]
    have e1 := (hlo (by omega)).1
    rw [← e1] at h4 ⊢
    have hcv := fun W => conv_new [92, 48 + (r : Int) / 100, 48 + (r : Int) / 10 % 10, 48 + (r : Int) % 10] 4 rfl W
    simp only [List.map_cons, List.map_nil] at hcv
    clear hE hlo hhi hc hcs CI hR' e1 h1 h2 h3
    have r0 : (0 : Int) ≤ (r : Int) := Int.natCast_nonneg _
    have r1 : (r : Int) ≤ 127 := by omega
    rcases h4 with d1 | d1
    · have d2 : (r : Int) < 32 := by omega
      clear d1
      go_enter Tryz.func85, Tryz.ntmps85
      go_wp2
      go_ret
      exact ⟨congrArg (fun x => Ending.returned (.string x)) (dec_str r), (Below.refl _ _).alloc (Nat.le_refl _) _⟩
    · subst d1
      clear b1 b2 b3 b4 hcv r0 r1
      have hcv := fun W => conv_new [92, 49, 50, 55] 4 rfl W
      simp only [List.map_cons, List.map_nil] at hcv
      go_enter Tryz.func85, Tryz.ntmps85
      go_wp2
      go_ret
      exact ⟨rfl, (Below.refl _ _).alloc (Nat.le_refl _) _⟩
  have b5 : (r : Int) ≥ 32 := by rcases Nat.lt_or_ge c.toNat 128 with h | h; (have := hlo h; omega); (have := hhi h; omega)
  have b6 : ((r : Int) == 127) = false := by rw [beq_eq_false_iff_ne]; intro e; rcases Nat.lt_or_ge c.toNat 128 with h | h; (have := hlo h; omega); (have := hhi h; omega)
  by_cases h5 : r = 65533 ∧ wd s p = 1
  · rw [qr5 c _ h1 h2 h3 h4 (by rw [← hR', ← hW']; exact h5)]
    obtain ⟨h5, h6⟩ := h5
    subst h5
    rw [h6] at CI
    simp only [decide_true] at CI
    have hcn : s[p].toNat = c.toNat := by rw [hcs]
    obtain ⟨n, hn⟩ : ∃ n, c.toNat = n := ⟨_, rfl⟩
    rw [hn] at hcn ⊢
    have hn0 : (0 : Int) ≤ (n : Int) := Int.natCast_nonneg _
    have hn1 : (n : Int) < 256 := by have := c.toNat_lt; omega
    clear hE hlo hhi hc hcs hR' h1 h2 h3 h4 hn hW hW' b1 b2 b3 b4 b5 b6
    have hcv : ∀ (W : World) (a b : Int), (convert 63 9 (.slice (some ⟨W.heap.size, 0, none⟩) 4 4)).run Tryz.prog (W.alloc (.cells #[.int .u8 92, .int .u8 120, .int .u8 a, .int .u8 b] 5)).drew = .ok (.string (strOfNums [92, 120, a, b])) (W.alloc (.cells #[.int .u8 92, .int .u8 120, .int .u8 a, .int .u8 b] 5)).drew := fun W a b => conv_new [92, 120, a, b] 4 rfl W.drew
    have m0 : (0 : Int) ≤ (n : Int) / 16 := by omega
    have m1 : (n : Int) / 16 < 16 := by omega
    have m2 : (0 : Int) ≤ (n : Int) % 16 := by omega
    have m3 : (n : Int) % 16 < 16 := by omega
    have p0 : (0 : Int) ≤ (p : Int) := Int.natCast_nonneg _
    have p1 : (p : Int) < (s.size : Int) := by omega
    go_enter Tryz.func85, Tryz.ntmps85
    go_wp2_with (go_at_call 96; refine (CI _).mono ?_; rintro e w1 ⟨rfl, hb⟩)
    go_region
    go_wp2
    go_ret
    exact ⟨congrArg (fun x => Ending.returned (.string x)) (hex_str n _ _), hb.trans ((((Below.refl _ w1).alloc (Nat.le_refl _) _).drew).mono hb.size)⟩
  · rw [qr6 c _ h1 h2 h3 h4 (by rw [← hR', ← hW']; exact h5)]
    have HE : Hid _ := hE h5
    rw [← hW']
    clear hE hlo hhi hc hcs hR' h1 h2 h3 h4 hW hW'
    by_cases h6 : r = 65533
    · subst h6
      have hd : decide (wd s p = 1) = false := by rw [decide_eq_false_iff_not]; exact fun e => h5 ⟨rfl, e⟩
      rw [hd] at CI
      clear h5 hd b1 b2 b3 b4 b5 b6
      go_enter Tryz.func85, Tryz.ntmps85
      go_wp2_with (go_at_call 96; refine (CI _).mono ?_; rintro e w1 ⟨rfl, hb⟩)
      go_ret
      exact ⟨ret_str HE.out, hb⟩
    · have b7 : ((r : Int) == 65533) = false := by rw [beq_eq_false_iff_ne]; omega
      clear h5 h6 CI
      have r0 : (0 : Int) ≤ (r : Int) := Int.natCast_nonneg _
      have r1 : (r : Int) ≤ 1114111 := by omega
      generalize (r : Int) = z at *
      go_enter Tryz.func85, Tryz.ntmps85
      go_wp2
      go_ret
      exact ⟨ret_str HE.out, Below.refl _ _⟩

end Go.Proofs.YtlgkfhipobdcfabGreatDoor

/- The walk of the program's Quote: the loop over the text's runes. -/
namespace Go.Proofs.YtlgkfhipobdcfabGreatDoor
open Go.RowKit

theorem own_iterNe {w : World} {base : Nat} {e : TypeId} {size : Nat} {v : Value} {n : Nat} {xs : List Value} (h : w.ownsRow base e size v n xs) {k : Nat} {y : ByteArray} {q : Nat} (hk : w.heap[k]? = some (.stringIter y q)) : some k ≠ v.ownBlock := by
  rcases h.2 with ⟨rfl, _⟩ | ⟨g, cap, cur, rfl, g2, g3, _⟩
  · intro e; cases e
  · intro e
    have e' : k = g := by injection e
    subst e'
    rw [g3] at hk; cases hk
theorem own_iterAt2 {w : World} {base : Nat} {e : TypeId} {size : Nat} {v : Value} {n : Nat} {xs : List Value} (h : w.ownsRow base e size v n xs) {k : Nat} {y : ByteArray} {q : Nat} (hk : w.heap[k]? = some (.stringIter y q)) (x : ByteArray) (p : Nat) : (w.iterAt k x p).ownsRow base e size v n xs := by
  refine ⟨h.1, ?_⟩
  rcases h.2 with h | ⟨g, cap, cur, g1, g2, g3, r⟩
  · exact .inl h
  · refine .inr ⟨g, cap, cur, g1, g2, ?_, r⟩
    rw [Lib.iterAt_other w k g x p (fun e => by subst e; rw [g3] at hk; cases hk)]; exact g3
theorem row_one (w : World) (c : UInt8) : (w.alloc (.cells #[.int .u8 c.toNat] 5)).ownsRow w.heap.size 5 1 (.slice (some ⟨w.heap.size, 0, none⟩) 1 1) [c].length (Lib.byteCells [c]) := by
  refine ⟨by simp [Lib.byteCells], .inr ⟨w.heap.size, 1, #[.int .u8 c.toNat], rfl, Nat.le_refl _, ?_, Nat.le_refl _, by decide, rfl, by simp [Lib.byteCells]⟩⟩
  exact Array.getElem?_push_size

set_option maxRecDepth 20000 in
set_option maxHeartbeats 4000000 in
theorem quote_any (s : ByteArray) (w : World) (hs : s.size ≤ 1048576) :
    Calls Tryz.prog 65 #[.string s] w fun e w' => e = .returned (.string ⟨(quoQ s.data.toList).toArray⟩) ∧ Below w.heap.size w w' := by
  obtain ⟨i5, hi5, hy0, hy1, hy2⟩ := info_parts W.Tryz.info5
  have hr0 := row_one w 34
  obtain ⟨W1, hW1⟩ : ∃ W1, w.alloc (.cells #[.int .u8 34] 5) = W1 := ⟨_, rfl⟩
  have hr0' : W1.ownsRow w.heap.size 5 1 (.slice (some ⟨w.heap.size, 0, none⟩) 1 1) [(34 : UInt8)].length (Lib.byteCells [34]) := by rw [← hW1]; exact hr0
  have z1 : W1.heap.size = w.heap.size + 1 := by rw [← hW1]; simp
  have hB1 : Below w.heap.size w W1 := by rw [← hW1]; exact (Below.refl _ _).alloc (Nat.le_refl _) _
  clear hr0
  go_enter Tryz.func65, Tryz.ntmps65
  go_wp2
  go_loopg [3] (s.size + 1) (fun gf v3 wx => ∃ (pos : Nat) (acc : List UInt8), pos ≤ s.size ∧ wx.heap[W1.heap.size]? = some (.stringIter s pos) ∧ wx.ownsRow w.heap.size 5 1 v3 acc.length (Lib.byteCells acc) ∧ Below w.heap.size w wx ∧ acc.length ≤ 4 * pos + 1 ∧ Hid (acc ++ quo (LD s pos) = 34 :: quo s.data.toList) ∧ s.size < pos + gf)
  case atStart => exact ⟨0, [34], Nat.zero_le _, World.iter_heap W1 s 0, hr0'.alloc _, hB1.alloc hB1.size _, by simp, by show _ = _; simp [LD], by omega⟩
  case round =>
    obtain ⟨pos, acc, hple, hi, hown, hB, hacc, hI, hfu⟩ := hrel
    have hzB := hB.size
    obtain ⟨av, cv, rfl⟩ := slice_shape hown
    have hlt := (Array.getElem?_eq_some_iff.1 hi).1
    by_cases hps : pos < s.size
    · obtain ⟨g', rfl⟩ : ∃ g', gk = g' + 1 := ⟨gk - 1, by omega⟩
      have hnx : ∀ ty, (Instr.next (.pointer (some ⟨W1.heap.size, 0, none⟩)) true ty).run Tryz.prog wr = .ok (.tuple #[.bool true, .int .i64 pos, .int .i32 (rn s pos)]) (wr.iterAt W1.heap.size s (pos + wd s pos)) := fun ty => Lib.run_next_any_at wr W1.heap.size s pos ty hi hps
      have hwl := wd_le s pos hps
      have hwp := wd_pos s pos
      have hql := qr_len (LD s pos)
      have hW' : wd s pos = wdL (LD s pos) := wd_drop s pos
      rw [← hW'] at hql
      have HN : Hid ((acc ++ qr (LD s pos)) ++ quo (LD s (pos + wd s pos)) = 34 :: quo s.data.toList) := by
        show _ = _
        rw [← hI.out, quo_step (LD s pos) (LD_ne s pos hps), ← hW', LD_drop, List.append_assoc]
      have CQ := fun w => quotedRune_any s pos w hps hs
      obtain ⟨y, hy⟩ : ∃ y, qr (LD s pos) = y := ⟨_, rfl⟩
      rw [hy] at CQ HN hql
      have hi2 := Lib.iterAt_heap wr W1.heap.size s pos (pos + wd s pos) hi
      have hB2 := Lib.below_iterAt hB (by omega : w.heap.size ≤ W1.heap.size) s (pos + wd s pos)
      have hown2 := own_iterAt2 hown hi s (pos + wd s pos)
      obtain ⟨W, hW⟩ : ∃ W, wr.iterAt W1.heap.size s (pos + wd s pos) = W := ⟨_, rfl⟩
      rw [hW] at hnx hi2 hB2 hown2
      rw [z1] at hnx
      have hlt2 := (Array.getElem?_eq_some_iff.1 hi2).1
      have hzB2 := hB2.size
      have hys : (⟨y.toArray⟩ : ByteArray).size = y.length := sz_list y
      clear hI hi hB hW hy hown hW'
      go_wp2_with (first
        | (go_at_call 85; refine (CQ _).mono ?_; rintro e w4 ⟨rfl, hb4⟩; have hown4 := own_below hown2 hb4; have hi4 := (hb4.block _ hlt2).trans hi2; have hB4 := hB2.trans (hb4.mono hzB2); have hz4 := hb4.size)
        | (at_builtin; refine Lib.wpList_append_own_string _ rfl _ _ 63 9 rfl w.heap.size 5 i5 Tryz.underlying63 Tryz.underlying9 hi5 hy0 hy1 hy2 (.slice av acc.length cv) acc.length (Lib.byteCells acc) rfl hown4 _ rfl ?c1 ?c2 ?c3 ?_))
      case c1 => rw [hys]; unfold maxLen; omega
      case c2 => rw [hys]; omega
      case c3 => omega
      intro v5 w5 ho5 hg5 _
      have ho6 := own_app ho5 (by rw [hys]) rfl
      have hi5' := (hg5.block _ (by omega) (own_iterNe hown4 hi4)).trans hi4
      have hB5 := hB4.grown hg5 (by omega) (fun k hk => (hown4.lt k hk).1)
      clear ho5 hg5 hown4 hi4 hB4 hown2 hi2
      go_wp2
      go_roundg g'
      case measure => omega
      case rel => exact ⟨pos + wd s pos, acc ++ y, hwl, hi5', by simpa using ho6, hB5, by rw [List.length_append]; omega, HN, by omega⟩
    · have hnx : ∀ ty, (Instr.next (.pointer (some ⟨W1.heap.size, 0, none⟩)) true ty).run Tryz.prog wr = .ok (.tuple #[.bool false]) wr := fun ty => Lib.run_next_end_at wr W1.heap.size s pos ty hi hps
      rw [z1] at hnx
      have HF : Hid (acc = 34 :: quo s.data.toList) := by
        show _ = _
        have e : LD s pos = [] := List.drop_of_length_le (by rw [Array.length_toList]; show s.size ≤ pos; omega)
        rw [← hI.out, e, quo_nil, List.append_nil]
      have hrn := new_cell wr [.int .u8 34] 5 0 _ rfl
      clear hI hi
      go_wp2_with (at_builtin; refine wpList_append_own _ rfl _ _ 63 rfl w.heap.size 5 i5 (.int .u8 0) 1 1 Tryz.underlying63 hi5 hy0 hy1 hy2 rfl (by decide) (.slice av acc.length cv) acc.length (Lib.byteCells acc) rfl (World.ownsRow.alloc hown _) ⟨wr.heap.size, 0, none⟩ 1 1 [.int .u8 34] rfl rfl ?c1 ?c2 ?c3 ?c4 ?c5 ?_)
      case c1 =>
        intro j u hj
        match j, hj with
        | 0, hj => simp at hj; subst hj; exact hrn.1
      case c2 => intro u hu; simp at hu; subst hu; rfl
      case c3 => unfold maxLen; omega
      case c4 => omega
      case c5 => simp; omega
      intro v5 w5 ho5 hg5 _
      have hcc : [Value.int .u8 34] = Lib.byteCells [34] := by simp [Lib.byteCells]
      rw [hcc] at ho5
      have ho6 : w5.ownsRow w.heap.size 5 1 v5 (acc ++ [34]).length (Lib.byteCells (acc ++ [34])) := by rw [List.length_append, Lib.byteCells_append]; exact ho5
      have hB5 : Below w.heap.size w w5 := (hB.alloc (by exact hzB) _).grown hg5 (by simp; omega) (fun k hk => (hown.lt k hk).1)
      have hcv := conv_row ho6
      clear ho5 hg5
      go_wp2
      go_ret
      exact ⟨ret_str (by rw [HF.out]; rfl), hB5⟩

end Go.Proofs.YtlgkfhipobdcfabGreatDoor
