/- The walk of the reference's Encode. -/
import Derived.Test.YtbgbhogcjaodkabCg01
import Derived.Test.YtbgbhogcjaodkabCg03
import Derived.Laws.BytesArg
import Derived.StillTailTactics
import Derived.Lib.AppendStr
import Derived.Laws.IdiomStrings
import Derived.RegionTactic
import Derived.Laws.MakeOwn
import Derived.OwnWalk
namespace Go.Proofs.Ytbgbhogcjaodkab
open Go.RowKit

def byN (r : Int) : Int := if r < 128 then 1 else if r < 2048 then 2 else if r < 65536 then 3 else 4
set_option maxHeartbeats 400000 in
theorem bytes_any (r : Int) (w : World) : Calls Try.prog 13 #[.int .i64 r] w fun e w' => e = .returned (.int .i64 (byN r)) ∧ w' = w := by
  go_enter Try.func13, Try.ntmps13
  go_wp2
  all_goals (go_ret; exact ⟨ret1 (by unfold byN; (repeat' split) <;> omega), rfl⟩)

theorem conv_new (xs : List Int) (n : Nat) (hn : xs.length = n) (W : World) : (convert 37 9 (.slice (some ⟨W.heap.size, 0, none⟩) n n)).run Try.prog (W.alloc (.cells (xs.map (Value.int .u8)).toArray 5)) = .ok (.string (strOfNums xs)) (W.alloc (.cells (xs.map (Value.int .u8)).toArray 5)) := by
  refine run_convert_bytes_arg _ 37 5 Try.underlying37 Try.underlying5 W.heap.size 0 n n xs hn (fun i hi => ?_) 9 Try.underlying9
  rw [Nat.zero_add]
  exact (new_cell W (xs.map (Value.int .u8)) 5 i _ (by simp [List.getElem?_eq_getElem (show i < xs.length by omega), List.getD])).1

set_option maxHeartbeats 1000000 in
theorem renc1 (r : Int) (w : World) (he : encB r = true) (h0 : 0 ≤ r) (h : r < 128) : Calls Try.prog 6 #[.int .i64 r] w fun e w' => e = .returned (.tuple #[.string (strOfNums [r]), .int .i64 0]) ∧ Below w.heap.size w w' := by
  have hn : byN r = 1 := by unfold byN; simp [h]
  have hcv := fun W => conv_new [r] 1 rfl W
  simp only [List.map_cons, List.map_nil] at hcv
  go_enter Try.func6, Try.ntmps6
  go_wp2_with (first | (go_at_call 12; refine (good_any _ _).mono ?_; rintro e w' ⟨rfl, rfl⟩) | (go_at_call 13; refine (bytes_any _ _).mono ?_; rintro e w' ⟨rfl, rfl⟩))
  go_ret2
  exact ⟨rfl, (Below.refl _ _).alloc (Nat.le_refl _) _⟩

set_option maxHeartbeats 1000000 in
theorem renc2 (r : Int) (w : World) (he : encB r = true) (h0 : 128 ≤ r) (h : r < 2048) : Calls Try.prog 6 #[.int .i64 r] w fun e w' => e = .returned (.tuple #[.string (strOfNums [192 + r / 64, 128 + r % 64]), .int .i64 0]) ∧ Below w.heap.size w w' := by
  have hn : byN r = 2 := by unfold byN; rw [if_neg (by omega), if_pos h]
  have hmk : ∀ w, (Instr.makeSlice 37 (.int .i64 2) (.int .i64 2)).run Try.prog w = .ok (.slice (some ⟨w.heap.size, 0, none⟩) 2 2) (w.alloc (.cells #[.int .u8 0, .int .u8 0] 5)) := fun _ => by kernel_rfl
  have hcv := fun a b W => conv_new [a, b] 2 rfl W
  simp only [List.map_cons, List.map_nil] at hcv
  go_enter Try.func6, Try.ntmps6
  go_wp2_with (first | (go_at_call 12; refine (good_any _ _).mono ?_; rintro e w' ⟨rfl, rfl⟩) | (go_at_call 13; refine (bytes_any _ _).mono ?_; rintro e w' ⟨rfl, rfl⟩))
  refine wp_loop_rounds 2 ?_
  rw [rounds_succ]
  go_wp2
  rw [rounds_succ]
  go_wp2
  go_ret2
  exact ⟨rfl, (Below.refl _ _).alloc (Nat.le_refl _) _⟩

set_option maxHeartbeats 1000000 in
theorem renc3 (r : Int) (w : World) (he : encB r = true) (h0 : 2048 ≤ r) (h : r < 65536) : Calls Try.prog 6 #[.int .i64 r] w fun e w' => e = .returned (.tuple #[.string (strOfNums [224 + r / 64 / 64, 128 + r / 64 % 64, 128 + r % 64]), .int .i64 0]) ∧ Below w.heap.size w w' := by
  have hn : byN r = 3 := by unfold byN; rw [if_neg (by omega), if_neg (by omega), if_pos h]
  have hmk : ∀ w, (Instr.makeSlice 37 (.int .i64 3) (.int .i64 3)).run Try.prog w = .ok (.slice (some ⟨w.heap.size, 0, none⟩) 3 3) (w.alloc (.cells #[.int .u8 0, .int .u8 0, .int .u8 0] 5)) := fun _ => by kernel_rfl
  have hcv := fun a b c W => conv_new [a, b, c] 3 rfl W
  simp only [List.map_cons, List.map_nil] at hcv
  go_enter Try.func6, Try.ntmps6
  go_wp2_with (first | (go_at_call 12; refine (good_any _ _).mono ?_; rintro e w' ⟨rfl, rfl⟩) | (go_at_call 13; refine (bytes_any _ _).mono ?_; rintro e w' ⟨rfl, rfl⟩))
  refine wp_loop_rounds 3 ?_
  rw [rounds_succ]
  go_wp2
  rw [rounds_succ]
  go_wp2
  rw [rounds_succ]
  go_wp2
  go_ret2
  exact ⟨rfl, (Below.refl _ _).alloc (Nat.le_refl _) _⟩

set_option maxHeartbeats 1000000 in
theorem renc4 (r : Int) (w : World) (he : encB r = true) (h0 : 65536 ≤ r) (h : r ≤ 1114111) : Calls Try.prog 6 #[.int .i64 r] w fun e w' => e = .returned (.tuple #[.string (strOfNums [240 + r / 64 / 64 / 64, 128 + r / 64 / 64 % 64, 128 + r / 64 % 64, 128 + r % 64]), .int .i64 0]) ∧ Below w.heap.size w w' := by
  have hn : byN r = 4 := by unfold byN; rw [if_neg (by omega), if_neg (by omega), if_neg (by omega)]
  have hmk : ∀ w, (Instr.makeSlice 37 (.int .i64 4) (.int .i64 4)).run Try.prog w = .ok (.slice (some ⟨w.heap.size, 0, none⟩) 4 4) (w.alloc (.cells #[.int .u8 0, .int .u8 0, .int .u8 0, .int .u8 0] 5)) := fun _ => by kernel_rfl
  have hcv := fun a b c d W => conv_new [a, b, c, d] 4 rfl W
  simp only [List.map_cons, List.map_nil] at hcv
  go_enter Try.func6, Try.ntmps6
  go_wp2_with (first | (go_at_call 12; refine (good_any _ _).mono ?_; rintro e w' ⟨rfl, rfl⟩) | (go_at_call 13; refine (bytes_any _ _).mono ?_; rintro e w' ⟨rfl, rfl⟩))
  refine wp_loop_rounds 4 ?_
  rw [rounds_succ]
  go_wp2
  rw [rounds_succ]
  go_wp2
  rw [rounds_succ]
  go_wp2
  rw [rounds_succ]
  go_wp2
  go_ret2
  exact ⟨rfl, (Below.refl _ _).alloc (Nat.le_refl _) _⟩

end Go.Proofs.Ytbgbhogcjaodkab

/- What is encoded decodes to itself; the walk of the law RunesCodes. -/
namespace Go.Proofs.Ytbgbhogcjaodkab
open Go.RowKit

theorem enc_bytes (r : Int) (h : encB r = true) : Utf8.encode r = ⟨((encL r.toNat).map UInt8.ofNat).toArray⟩ := by
  have := encode_list r h
  rw [ByteArray.toList_eq] at this
  rw [← this]

theorem decL (l : List Nat) (i : Nat) (hl : ∀ x ∈ l, x < 256) : ((⟨(l.map UInt8.ofNat).toArray⟩ : ByteArray).get! i).toNat = l.getD i 0 := by
  rw [get_data]
  simp only [List.getD, List.getElem?_map]
  cases h : l[i]? with
  | none => simp
  | some x =>
    have := hl x (List.mem_of_getElem? h)
    simp; omega

set_option maxHeartbeats 2000000 in
theorem decN_enc (r : Nat) (h : r ≤ 1114111) (hs : r < 55296 ∨ 57343 < r) : Lib.decodeN (encL r).length ((encL r).getD 0 0) ((encL r).getD 1 0) ((encL r).getD 2 0) ((encL r).getD 3 0) = (r, (encL r).length) := by
  unfold encL
  split
  · simp [Lib.decodeN]; omega
  · split
    · simp only [List.length_cons, List.length_nil, List.getD_cons_zero, List.getD_cons_succ]
      unfold Lib.decodeN
      rw [if_neg (by omega), if_pos (by omega), if_pos (by omega)]
      congr 1
      omega
    · split
      · simp only [List.length_cons, List.length_nil, List.getD_cons_zero, List.getD_cons_succ]
        unfold Lib.decodeN
        rw [if_neg (by omega), if_neg (by omega), if_pos (by omega), if_pos (by omega)]
        congr 1
        omega
      · simp only [List.length_cons, List.length_nil, List.getD_cons_zero, List.getD_cons_succ]
        unfold Lib.decodeN
        rw [if_neg (by omega), if_neg (by omega), if_neg (by omega), if_pos (by omega), if_pos (by omega)]
        congr 1
        omega

theorem encL_len (r : Nat) : 1 ≤ (encL r).length ∧ (encL r).length ≤ 4 ∧ (r = 65533 → (encL r).length = 3) := by
  unfold encL
  repeat' split
  all_goals (simp; try omega)

theorem enc_size (r : Int) (h : encB r = true) : (Utf8.encode r).size = (encL r.toNat).length := by
  rw [enc_bytes r h]; simp [ByteArray.size]

theorem dec_enc (r : Int) (h : encB r = true) : Utf8.decode (Utf8.encode r) 0 = (r.toNat, (encL r.toNat).length) := by
  have hb := (encB_iff r).1 h
  have hl := encL_lt r.toNat (by omega)
  rw [Lib.decode_at, enc_size r h, enc_bytes r h]
  rw [decL _ _ hl, decL _ _ hl, decL _ _ hl, decL _ _ hl]
  exact decN_enc r.toNat (by omega) (by omega)

/-- The runes of an encoding: the one. -/
theorem rest_enc (r : Int) (h : encB r = true) : rest (encS r) 0 = [(0, (encL r.toNat).length, r.toNat)] := by
  have he : encS r = Utf8.encode r := by simp [encS, h]
  have hl := encL_len r.toNat
  have hd := dec_enc r h
  rw [he, rest_at _ _ (by rw [enc_size r h]; omega)]
  unfold wd rn
  rw [hd, rest_end _ _ (by rw [enc_size r h]; simp)]

theorem str_enc (r : Int) (h : encB r = true) (xs : List Int) (hx : xs.map Int.toNat = encL r.toNat) : strOfNums xs = encS r := by
  have he : encS r = Utf8.encode r := by simp [encS, h]
  rw [he, enc_bytes r h, ← hx]
  simp [strOfNums]

theorem renc_any (r : Int) (w : World) : Calls Try.prog 6 #[.int .i64 r] w fun e w' => e = .returned (.tuple #[.string (encS r), .int .i64 (encE r)]) ∧ Below w.heap.size w w' := by
  cases he : encB r
  · have h1 : encS r = ⟨#[]⟩ := by simp [encS, he]
    have h2 : encE r = 3 := by simp [encE, he]
    rw [h1, h2]
    clear h1 h2
    go_enter Try.func6, Try.ntmps6
    go_wp2_with (go_at_call 12; refine (good_any _ _).mono ?_; rintro e w' ⟨rfl, rfl⟩)
    go_ret2
    exact ⟨rfl, Below.refl _ _⟩
  · have h2 : encE r = 0 := by simp [encE, he]
    have hb := (encB_iff r).1 he
    rw [h2]
    by_cases c1 : r < 128
    · rw [← str_enc r he [r] (by unfold encL; rw [if_pos (by omega)]; rfl)]
      exact renc1 r w he hb.1 c1
    · by_cases c2 : r < 2048
      · rw [← str_enc r he [192 + r / 64, 128 + r % 64] (by unfold encL; rw [if_neg (by omega), if_pos (by omega)]; simp; omega)]
        exact renc2 r w he (by omega) c2
      · by_cases c3 : r < 65536
        · rw [← str_enc r he [224 + r / 64 / 64, 128 + r / 64 % 64, 128 + r % 64] (by unfold encL; rw [if_neg (by omega), if_neg (by omega), if_pos (by omega)]; simp; omega)]
          exact renc3 r w he (by omega) c3
        · rw [← str_enc r he [240 + r / 64 / 64 / 64, 128 + r / 64 / 64 % 64, 128 + r / 64 % 64, 128 + r % 64] (by unfold encL; rw [if_neg (by omega), if_neg (by omega), if_neg (by omega)]; simp; omega)]
          exact renc4 r w he (by omega) hb.2.1

theorem encS_size (r : Int) (h : encB r = true) : (encS r).size = (encL r.toNat).length := by
  have he : encS r = Utf8.encode r := by simp [encS, h]
  rw [he, enc_size r h]

theorem dec_c (r : Int) (h : encB r = true) (w : World) : Calls Try.prog 17 #[.string (encS r), .int .i64 0] w fun e w' => e = .returned (.tuple #[.agg #[.int .i64 0, .int .i64 (encS r).size, .int .i64 r], .int .i64 0]) ∧ Below w.heap.size w w' := by
  have he : encS r = Utf8.encode r := by simp [encS, h]
  have hb := (encB_iff r).1 h
  have hl := encL_len r.toNat
  have hz := encS_size r h
  have hd := dec_enc r h
  have hw : wd (encS r) 0 = (encS r).size := by unfold wd; rw [hz, he, hd]
  have hr : ((rn (encS r) 0 : Nat) : Int) = r := by unfold rn; rw [he, hd]; simp; omega
  have := decode_yes (encS r) 0 w (by omega) (by omega)
  rw [hw, hr] at this
  exact this
theorem bel_on {w a b : World} (h : Below w.heap.size w a) (k : Below a.heap.size a b) : Below w.heap.size w b := h.trans (k.mono h.size)
theorem bel_new {w a : World} (h : Below w.heap.size w a) (o : Obj) : Below w.heap.size w (a.alloc o) := h.alloc h.size o

end Go.Proofs.Ytbgbhogcjaodkab

/- Lists of whole numbers in memory; the walks of Char, the program's and the reference's, and of SameInts. -/
namespace Go.Proofs.Ytbgbhogcjaodkab
open Go.RowKit

/-- The value reads as the list, in a block below N. -/
def Ints (N : Nat) (w : World) (v : Value) (l : List Int) : Prop :=
  ∃ a cap, v = .slice a l.length cap ∧ l.length ≤ cap ∧ (l ≠ [] → ∃ b off, a = some ⟨b, off, none⟩ ∧ b < N ∧ ∀ i, i < l.length → w.cell? ⟨b, off + i, none⟩ = some (.int .i64 (l.getD i 0)))
theorem Ints.below {N : Nat} {w w' : World} {v : Value} {l : List Int} (h : Ints N w v l) (hb : Below N w w') : Ints N w' v l := by
  obtain ⟨a, cap, rfl, hc, h⟩ := h
  refine ⟨a, cap, rfl, hc, fun hl => ?_⟩
  obtain ⟨b, off, rfl, hg, hx⟩ := h hl
  exact ⟨b, off, rfl, hg, fun i hi => by rw [hb.cell (by exact hg)]; exact hx i hi⟩
theorem Ints.mono {N N' : Nat} {w : World} {v : Value} {l : List Int} (h : Ints N w v l) (hN : N ≤ N') : Ints N' w v l := by
  obtain ⟨a, cap, rfl, hc, h⟩ := h
  refine ⟨a, cap, rfl, hc, fun hl => ?_⟩
  obtain ⟨b, off, rfl, hg, hx⟩ := h hl
  exact ⟨b, off, rfl, by omega, hx⟩
theorem Ints.go {w w' : World} {v : Value} {l : List Int} (h : Ints w.heap.size w v l) (hb : Below w.heap.size w w') : Ints w'.heap.size w' v l := (h.below hb).mono hb.size
/-- Bytes as cells. -/
def bc (l : List UInt8) : List Value := l.map fun b => Value.int .u8 b.toNat
theorem bc_length (l : List UInt8) : (bc l).length = l.length := by simp [bc]
theorem bc_app (l m : List UInt8) : bc (l ++ m) = bc l ++ bc m := by simp [bc]
theorem info5 : (Try.prog.info? 5).map (fun i => (i.zero, i.size, i.bytes)) = some (some (.int .u8 0), 1, 1) := by kernel_rfl
/-- A row of bytes of one's own, as a string. -/
theorem own_string (W : World) (B : Nat) (v : Value) (n : Nat) (l : List UInt8) (h : W.ownsRow B 5 1 v n (bc l)) : (convert 37 9 v).run Try.prog W = .ok (.string ⟨l.toArray⟩) W := by
  have hl : l.length = n := by have := h.1; rw [bc_length] at this; simpa using this
  subst hl
  have hcells := fun g => h.cells (g := g)
  rcases h.2 with ⟨rfl, h0⟩ | ⟨g, cap, cur, rfl, _⟩
  · have : l = [] := List.eq_nil_of_length_eq_zero h0
    subst this
    exact run_convert_bytes_nil W 37 5 Try.underlying37 Try.underlying5 0 0 9 Try.underlying9
  · refine run_convert_bytes_back W 37 9 5 ⟨g, 0, none⟩ cap l Try.underlying37 Try.underlying5 Try.underlying9 (fun j hj => ?_)
    refine hcells g rfl j _ ?_
    simp [bc, hj]
/-- The bytes of code points, one behind the other. -/
def chF : List UInt8 → List Int → ByteArray × Int
  | acc, [] => (⟨acc.toArray⟩, 0)
  | acc, x :: l => if encE x = 0 then (if 10000 < (acc ++ (encS x).data.toList).length then (⟨#[]⟩, 14) else chF (acc ++ (encS x).data.toList) l) else (⟨#[]⟩, encE x)
theorem drop_at (l : List Int) (k : Nat) (h : k < l.length) : l.drop k = l.getD k 0 :: l.drop (k + 1) := by
  rw [List.drop_eq_getElem_cons h]; simp [List.getD, h]
theorem data_len (S : ByteArray) : S.data.toList.length = S.size := Array.length_toList
theorem enc_len (x : Int) : (encS x).size ≤ 4 := by
  unfold encS
  split
  · rename_i h
    have e := congrArg List.length (encode_list x h)
    rw [ByteArray.toList_eq, data_len, List.length_map] at e
    rw [e]
    unfold encL
    repeat' split
    all_goals simp
  · exact Nat.zero_le _
theorem chF_bad {acc : List UInt8} {l : List Int} {k : Nat} (hk : k < l.length) (h : encE (l.getD k 0) ≠ 0) : chF acc (l.drop k) = (⟨#[]⟩, encE (l.getD k 0)) := by rw [drop_at l k hk, chF, if_neg h]
theorem chF_big {acc : List UInt8} {l : List Int} {k : Nat} (hk : k < l.length) (h : encE (l.getD k 0) = 0) (hb : 10000 < (acc ++ (encS (l.getD k 0)).data.toList).length) : chF acc (l.drop k) = (⟨#[]⟩, 14) := by rw [drop_at l k hk, chF, if_pos h, if_pos hb]
theorem chF_on {acc : List UInt8} {l : List Int} {k : Nat} (hk : k < l.length) (h : encE (l.getD k 0) = 0) (hb : ¬ 10000 < (acc ++ (encS (l.getD k 0)).data.toList).length) : chF acc (l.drop k) = chF (acc ++ (encS (l.getD k 0)).data.toList) (l.drop (k + 1)) := by rw [drop_at l k hk, chF, if_pos h, if_neg hb]
theorem slice_of {W : World} {base : Nat} {e : TypeId} {size : Nat} {v : Value} {k : Nat} {xs : List Value} (h : W.ownsRow base e size v k xs) : ∃ o c, v = .slice o k c := by
  rcases h.2 with ⟨q, hk⟩ | ⟨g, cap, cur, q, _⟩
  · exact ⟨none, 0, by rw [q]; simp_all⟩
  · exact ⟨_, _, q⟩
theorem rowb {w w' : World} {base : Nat} {e : TypeId} {size : Nat} {v : Value} {n : Nat} {xs : List Value} (h : w.ownsRow base e size v n xs) (hb : Below w.heap.size w w') : w'.ownsRow base e size v n xs := by
  have hlt := h.lt
  refine ⟨h.1, ?_⟩
  rcases h.2 with h2 | ⟨g, cap, cur, rfl, h2, h3, r⟩
  · exact .inl h2
  · exact .inr ⟨g, cap, cur, rfl, h2, (hb.block g (hlt g rfl).2).trans h3, r⟩
set_option maxRecDepth 20000 in
set_option maxHeartbeats 2000000 in
theorem char_any (l : List Int) (v : Value) (w : World) (h : Ints w.heap.size w v l) (hlen : l.length ≤ 140737488355328) :
    Calls Try.prog 5 #[v] w fun e w' => e = .returned (.tuple #[.string (chF [] l).1, .int .i64 (chF [] l).2]) ∧ Below w.heap.size w w' := by
  obtain ⟨a, cap, rfl, hcap, h⟩ := h
  have HC : Hid _ := h
  have HL : Hid (l ≠ [] ↔ 0 < l.length) := by
    show _ ↔ _
    cases l <;> simp
  have HX : Hid (∀ acc k, k < l.length → encE (l.getD k 0) ≠ 0 → chF acc (l.drop k) = (⟨#[]⟩, encE (l.getD k 0))) := fun acc k => chF_bad
  have HY : Hid (∀ acc k, k < l.length → encE (l.getD k 0) = 0 → 10000 < (acc ++ (encS (l.getD k 0)).data.toList).length → chF acc (l.drop k) = (⟨#[]⟩, 14)) := fun acc k => chF_big
  have HZ : Hid (∀ acc k, k < l.length → encE (l.getD k 0) = 0 → ¬ 10000 < (acc ++ (encS (l.getD k 0)).data.toList).length → chF acc (l.drop k) = chF (acc ++ (encS (l.getD k 0)).data.toList) (l.drop (k + 1))) := fun acc k => chF_on
  have HD : Hid (∀ acc k, ¬ k < l.length → chF acc (l.drop k) = (⟨acc.toArray⟩, 0)) := fun acc k hk => by rw [List.drop_of_length_le (by omega)]; rfl
  have HS : Hid (chF [] (l.drop 0) = chF [] l) := rfl
  obtain ⟨R, hR⟩ : ∃ R, chF [] l = R := ⟨_, rfl⟩
  rw [hR] at HS ⊢
  clear h hcap hR
  obtain ⟨L, hL⟩ : ∃ L, l.length = L := ⟨_, rfl⟩
  rw [hL] at HC HL HX HY HZ HD hlen ⊢
  clear hL
  obtain ⟨i0, hi, hz0, hz1, hz2⟩ := info_parts info5
  go_enter Try.func5, Try.ntmps5
  go_wp2
  go_loopw [4, 11] (fun vv i wr => ∃ (k : Nat) (acc : List UInt8), i = .int .i64 (k : Nat) ∧ k ≤ L ∧ wr.ownsRow w.heap.size 5 1 vv acc.length (bc acc) ∧ acc.length ≤ 10000 ∧ Hid (chF acc (l.drop k) = R) ∧ Hid (Below w.heap.size w wr)) (fun _ i _ => L - (intOf i).toNat)
  case atStart => exact ⟨0, [], rfl, by omega, World.ownsRow_nil _ _ _ _, by simp, HS, Below.refl _ _⟩
  case round =>
    obtain ⟨k, acc, rfl, hk, hown, hacc, HR, HW⟩ := hrel
    by_cases hlt : k < L
    · have hlt' : (k : Int) < (L : Int) := by omega
      obtain ⟨g, off, rfl, hg, hc⟩ := HC.out (HL.out.2 (by omega))
      have c1 : wr.cell? ⟨g, off + k, none⟩ = some (.int .i64 (l.getD k 0)) := by rw [HW.out.cell (by exact hg)]; exact hc k hlt
      have C1 : ∀ W, Calls Try.prog 11 #[.int .i64 (l.getD k 0)] W fun e w' => e = .returned (.tuple #[.string (encS (l.getD k 0)), .int .i64 (encE (l.getD k 0))]) ∧ Below W.heap.size W w' := fun W => (encode_any _ W).mono fun e w' hh => ⟨hh.1, by rw [hh.2]; exact Below.refl _ _⟩
      have HX2 := HX.out acc k hlt
      have HY2 := HY.out acc k hlt
      have HZ2 := HZ.out acc k hlt
      have hen := enc_len (l.getD k 0)
      clear hc HC HX HY HZ HD HS
      generalize l.getD k 0 = x at *
      generalize encS x = S at *
      generalize encE x = E at *
      have w1 : IntKind.i64.wrap ((k : Int) + 1) = ((k + 1 : Nat) : Int) := by rw [IntKind.wrap_i64]; omega
      obtain ⟨o, c, rfl⟩ := slice_of hown
      by_cases hE : E = 0
      · subst hE
        have HY3 : Hid _ := HY2 rfl
        have HZ3 : Hid _ := HZ2 rfl
        clear HX2 HY2 HZ2
        have hsl : S.data.toList.length = S.size := data_len S
        by_cases hbig : 10000 < acc.length + S.size
        · have eR : R = (⟨#[]⟩, 14) := by rw [← HR.out]; exact HY3.out (by rw [List.length_append, hsl]; exact hbig)
          have hbig' : (10000 : Int) < ((acc.length + S.size : Nat) : Int) := by omega
          subst eR
          clear HY3 HZ3 HR
          go_wp2_with (first
            | (go_at_call 11; refine (C1 _).mono ?_; rintro e wA ⟨rfl, hbA⟩; have hown1 := rowb hown hbA; have HW1 : Hid (Below w.heap.size w wA) := (bthen HW.out HW.out.size hbA))
            | (at_builtin; refine Lib.wpList_append_own_string _ rfl _ _ 37 9 rfl w.heap.size 5 i0 Try.underlying37 Try.underlying9 hi hz0 hz1 hz2 _ acc.length (bc acc) rfl hown1 S rfl (by unfold maxLen; omega) (by omega) HW1.out.size ?_; intro v' w3 hown' hgrow _; obtain ⟨o3, c3, rfl⟩ := slice_of hown'; have HW3 : Hid (Below w.heap.size w w3) := (HW1.out.grown hgrow HW1.out.size (fun k hk => (hown1.lt k hk).1))))
          go_ret2
          exact ⟨rfl, HW3.out⟩
        · have HR2 : Hid (chF (acc ++ S.data.toList) (l.drop (k + 1)) = R) := by show _ = _; rw [← HR.out]; exact (HZ3.out (by rw [List.length_append, hsl]; exact hbig)).symm
          have hbig' : ¬ (10000 : Int) < ((acc.length + S.size : Nat) : Int) := by omega
          have HAc : Hid (acc.length + S.size ≤ 10000 ∧ S.data.toList.length = S.size) := ⟨by omega, hsl⟩
          clear HY3 HZ3 HR hsl
          go_wp2_with (first
            | (go_at_call 11; refine (C1 _).mono ?_; rintro e wA ⟨rfl, hbA⟩; have hown1 := rowb hown hbA; have HW1 : Hid (Below w.heap.size w wA) := (bthen HW.out HW.out.size hbA))
            | (at_builtin; refine Lib.wpList_append_own_string _ rfl _ _ 37 9 rfl w.heap.size 5 i0 Try.underlying37 Try.underlying9 hi hz0 hz1 hz2 _ acc.length (bc acc) rfl hown1 S rfl (by unfold maxLen; omega) (by omega) HW1.out.size ?_; intro v' w3 hown' hgrow _; have hown3 : w3.ownsRow w.heap.size 5 1 v' (acc ++ S.data.toList).length (bc (acc ++ S.data.toList)) := (by rw [bc_app, List.length_append, HAc.out.2]; exact hown'); obtain ⟨o3, c3, rfl⟩ := slice_of hown'; have HW3 : Hid (Below w.heap.size w w3) := (HW1.out.grown hgrow HW1.out.size (fun k hk => (hown1.lt k hk).1))))
          go_roundw
          case rel => exact ⟨k + 1, acc ++ S.data.toList, by simp, by omega, hown3, by rw [List.length_append, HAc.out.2]; exact HAc.out.1, HR2, HW3⟩
          case measure => simp [intOf]; omega
      · have eR : R = (⟨#[]⟩, E) := by rw [← HR.out]; exact HX2 hE
        have hE' : (E != 0) = true := by simpa using hE
        subst eR
        clear HX2 HY2 HZ2 HR
        go_wp2_with (go_at_call 11; refine (C1 _).mono ?_; rintro e wA ⟨rfl, hbA⟩)
        go_ret2
        exact ⟨rfl, bthen HW.out HW.out.size hbA⟩
    · have eR : R = (⟨acc.toArray⟩, 0) := by rw [← HR.out]; exact HD.out acc k hlt
      have hcv := own_string wr _ _ _ _ hown
      obtain ⟨o, c, rfl⟩ := slice_of hown
      subst eR
      clear HX HY HZ HD HS HC HL HR
      go_wp2
      go_ret2
      exact ⟨rfl, HW.out⟩
theorem retB {x b : Bool} (h : x = b) : Ending.returned (.bool b) = .returned (.bool x) := by rw [h]
end Go.Proofs.Ytbgbhogcjaodkab

/- The walk of 'fixed', the answers that the document fixes. -/
namespace Go.Proofs.Ytbgbhogcjaodkab
open Go.RowKit

theorem len_fix : lenR ⟨#[97, 195, 169]⟩ 1 (-1) = (2, 0, 0) := by
  have z : (⟨#[97, 195, 169]⟩ : ByteArray).size = 3 := rfl
  have w0 : wd ⟨#[97, 195, 169]⟩ 0 = 1 := by kernel_rfl
  have r0 : rn ⟨#[97, 195, 169]⟩ 0 = 97 := by kernel_rfl
  have w1 : wd ⟨#[97, 195, 169]⟩ 1 = 2 := by kernel_rfl
  have r1 : rn ⟨#[97, 195, 169]⟩ 1 = 233 := by kernel_rfl
  have e1 : mt 3 1 = 1 := by decide
  have e2 : mt 3 (-1) = 3 := by decide
  unfold lenR
  rw [z, e1, e2, if_neg (by decide)]
  have b : bw ⟨#[97, 195, 169]⟩ ((1 : Int).toNat - 1) 3 = [(0, 1, 97), (1, 2, 233)] := by
    show bw ⟨#[97, 195, 169]⟩ 0 3 = _
    rw [bw_at (by rw [z]; omega) (by decide), w0, r0, bw_at (by rw [z]; omega) (by decide), w1, r1, bw_stop (by decide)]
  rw [b]
  decide
theorem ch_fix : chF [] [97, 8364] = (⟨#[97, 226, 130, 172]⟩, 0) := by kernel_rfl
theorem of_fix : ofs ⟨#[97, 195, 169, 98]⟩ 3 1 = (4, true, 0) := by kernel_rfl
theorem st_fix : stR ⟨#[97, 195, 169]⟩ 1 = (2, 233, true, 0) := by kernel_rfl
theorem ints2 (w : World) (x y : Int) : Ints (w.alloc (.cells #[.int .i64 x, .int .i64 y] 3)).heap.size (w.alloc (.cells #[.int .i64 x, .int .i64 y] 3)) (.slice (some ⟨w.heap.size, 0, none⟩) 2 2) [x, y] :=
  ⟨_, 2, rfl, by simp, fun _ => ⟨w.heap.size, 0, rfl, by simp, fun i hi => by
    have hi' : i < 2 := by simpa using hi
    obtain rfl | rfl : i = 0 ∨ i = 1 := by omega
    · exact (new_cell w [.int .i64 x, .int .i64 y] 3 0 _ rfl).1
    · exact (new_cell w [.int .i64 x, .int .i64 y] 3 1 _ rfl).1⟩⟩
set_option maxRecDepth 20000 in
set_option maxHeartbeats 2000000 in
theorem fixed_any (w : World) : Calls Try.prog 4 #[] w fun e w' => e = .returned (.bool true) ∧ Below w.heap.size w w' := by
  have C1 := fun W => len_any ⟨#[97, 195, 169]⟩ 1 (-1) W (by decide) (by decide) (by decide) (by decide) (by decide)
  rw [len_fix] at C1
  have C2 := fun W => char_any [97, 8364] (.slice (some ⟨W.heap.size, 0, none⟩) 2 2) (W.alloc (.cells #[.int .i64 97, .int .i64 8364] 3)) (ints2 W 97 8364) (by decide)
  rw [ch_fix] at C2
  have C3 := fun W => offset_any ⟨#[97, 195, 169, 98]⟩ 3 1 W (by decide) (by decide) (by decide) (by decide) (by decide)
  rw [of_fix] at C3
  have C4 := fun W => step_any ⟨#[97, 195, 169]⟩ 1 W (by decide)
  rw [st_fix] at C4
  unfold oR at C3
  unfold stV at C4
  have HB : Hid (Below w.heap.size w w) := Below.refl _ _
  go_enter Try.func4, Try.ntmps4
  go_wp2_with (first
    | (go_at_call 7; refine (C1 _).mono ?_; rintro e w1 ⟨rfl, h1⟩; have HB : Hid (Below w.heap.size w w1) := (bthen HB.out HB.out.size h1))
    | (go_at_call 5; refine (C2 _).mono ?_; rintro e w2 ⟨rfl, h2⟩; have HB : Hid (Below w.heap.size w w2) := (bthen (bthen HB.out HB.out.size (b1 _ _)) (by have := HB.out.size; simp; omega) h2))
    | (go_at_call 10; refine (C3 _).mono ?_; rintro e w3 ⟨rfl, h3⟩; subst w3)
    | (go_at_call 9; refine (C4 _).mono ?_; rintro e w4 ⟨rfl, h4⟩; have HB : Hid (Below w.heap.size w w4) := (bthen HB.out HB.out.size h4)))
  go_ret
  exact ⟨rfl, HB.out⟩
end Go.Proofs.Ytbgbhogcjaodkab
