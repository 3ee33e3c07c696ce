/- Lists of whole numbers in memory; the walks of Char, the program's and the reference's, and of SameInts. -/
import Derived.Test.YtbgbhogcjaodkaaCg02
import Derived.Test.YtbgbhogcjaodkaaCg05
import Derived.Test.YtbgbhogcjaodkaaCg04
import Derived.StillTailTactics
import Derived.Lib.AppendStr
import Derived.Laws.IdiomStrings
import Derived.Laws.BytesArg
import Derived.RegionTactic
import Derived.Laws.MakeOwn
import Derived.OwnWalk
import Derived.Test.YtbgbhogcjaodkaaCg01
namespace Go.Proofs.Ytbgbhogcjaodkaa
open Go.RowKit

/-- The value reads as the list, in a block below N. -/
def Ints (N : Nat) (w : World) (v : Value) (l : List Int) : Prop :=
  ∃ a cap, v = .slice a l.length cap ∧ l.length ≤ cap ∧ (l ≠ [] → ∃ b off, a = some ⟨b, off, none⟩ ∧ b < N ∧ ∀ i, i < l.length → w.cell? ⟨b, off + i, none⟩ = some (.int .i64 (l.getD i 0)))
theorem Ints.below {N : Nat} {w w' : World} {v : Value} {l : List Int} (h : Ints N w v l) (hb : Below N w w') : Ints N w' v l := by
  obtain ⟨a, cap, rfl, hc, h⟩ := h
  refine ⟨a, cap, rfl, hc, fun hl => ?_⟩
  obtain ⟨b, off, rfl, hg, hx⟩ := h hl
  exact ⟨b, off, rfl, hg, fun i hi => by rw [hb.cell (by exact hg)]; exact hx i hi⟩
theorem Ints.mono {N N' : Nat} {w : World} {v : Value} {l : List Int} (h : Ints N w v l) (hN : N ≤ N') : Ints N' w v l := by
  obtain ⟨a, cap, rfl, hc, h⟩ := h
  refine ⟨a, cap, rfl, hc, fun hl => ?_⟩
  obtain ⟨b, off, rfl, hg, hx⟩ := h hl
  exact ⟨b, off, rfl, by omega, hx⟩
theorem Ints.go {w w' : World} {v : Value} {l : List Int} (h : Ints w.heap.size w v l) (hb : Below w.heap.size w w') : Ints w'.heap.size w' v l := (h.below hb).mono hb.size
/-- Bytes as cells. -/
def bc (l : List UInt8) : List Value := l.map fun b => Value.int .u8 b.toNat
theorem bc_length (l : List UInt8) : (bc l).length = l.length := by simp [bc]
theorem bc_app (l m : List UInt8) : bc (l ++ m) = bc l ++ bc m := by simp [bc]
theorem info5 : (Try.prog.info? 5).map (fun i => (i.zero, i.size, i.bytes)) = some (some (.int .u8 0), 1, 1) := by kernel_rfl
/-- A row of bytes of one's own, as a string. -/
theorem own_string (W : World) (B : Nat) (v : Value) (n : Nat) (l : List UInt8) (h : W.ownsRow B 5 1 v n (bc l)) : (convert 57 9 v).run Try.prog W = .ok (.string ⟨l.toArray⟩) W := by
  have hl : l.length = n := by have := h.1; rw [bc_length] at this; simpa using this
  subst hl
  have hcells := fun g => h.cells (g := g)
  rcases h.2 with ⟨rfl, h0⟩ | ⟨g, cap, cur, rfl, _⟩
  · have : l = [] := List.eq_nil_of_length_eq_zero h0
    subst this
    exact run_convert_bytes_nil W 57 5 Try.underlying57 Try.underlying5 0 0 9 Try.underlying9
  · refine run_convert_bytes_back W 57 9 5 ⟨g, 0, none⟩ cap l Try.underlying57 Try.underlying5 Try.underlying9 (fun j hj => ?_)
    refine hcells g rfl j _ ?_
    simp [bc, hj]
/-- The bytes of code points, one behind the other. -/
def chF : List UInt8 → List Int → ByteArray × Int
  | acc, [] => (⟨acc.toArray⟩, 0)
  | acc, x :: l => if encE x = 0 then (if 10000 < (acc ++ (encS x).data.toList).length then (⟨#[]⟩, 14) else chF (acc ++ (encS x).data.toList) l) else (⟨#[]⟩, encE x)
theorem drop_at (l : List Int) (k : Nat) (h : k < l.length) : l.drop k = l.getD k 0 :: l.drop (k + 1) := by
  rw [List.drop_eq_getElem_cons h]; simp [List.getD, h]
theorem data_len (S : ByteArray) : S.data.toList.length = S.size := Array.length_toList
theorem enc_len (x : Int) : (encS x).size ≤ 4 := by
  unfold encS
  split
  · rename_i h
    have e := congrArg List.length (encode_list x h)
    rw [ByteArray.toList_eq, data_len, List.length_map] at e
    rw [e]
    unfold encL
    repeat' split
    all_goals simp
  · exact Nat.zero_le _
theorem chF_bad {acc : List UInt8} {l : List Int} {k : Nat} (hk : k < l.length) (h : encE (l.getD k 0) ≠ 0) : chF acc (l.drop k) = (⟨#[]⟩, encE (l.getD k 0)) := by rw [drop_at l k hk, chF, if_neg h]
theorem chF_big {acc : List UInt8} {l : List Int} {k : Nat} (hk : k < l.length) (h : encE (l.getD k 0) = 0) (hb : 10000 < (acc ++ (encS (l.getD k 0)).data.toList).length) : chF acc (l.drop k) = (⟨#[]⟩, 14) := by rw [drop_at l k hk, chF, if_pos h, if_pos hb]
theorem chF_on {acc : List UInt8} {l : List Int} {k : Nat} (hk : k < l.length) (h : encE (l.getD k 0) = 0) (hb : ¬ 10000 < (acc ++ (encS (l.getD k 0)).data.toList).length) : chF acc (l.drop k) = chF (acc ++ (encS (l.getD k 0)).data.toList) (l.drop (k + 1)) := by rw [drop_at l k hk, chF, if_pos h, if_neg hb]
theorem slice_of {W : World} {base : Nat} {e : TypeId} {size : Nat} {v : Value} {k : Nat} {xs : List Value} (h : W.ownsRow base e size v k xs) : ∃ o c, v = .slice o k c := by
  rcases h.2 with ⟨q, hk⟩ | ⟨g, cap, cur, q, _⟩
  · exact ⟨none, 0, by rw [q]; simp_all⟩
  · exact ⟨_, _, q⟩
theorem rowb {w w' : World} {base : Nat} {e : TypeId} {size : Nat} {v : Value} {n : Nat} {xs : List Value} (h : w.ownsRow base e size v n xs) (hb : Below w.heap.size w w') : w'.ownsRow base e size v n xs := by
  have hlt := h.lt
  refine ⟨h.1, ?_⟩
  rcases h.2 with h2 | ⟨g, cap, cur, rfl, h2, h3, r⟩
  · exact .inl h2
  · exact .inr ⟨g, cap, cur, rfl, h2, (hb.block g (hlt g rfl).2).trans h3, r⟩
set_option maxRecDepth 20000 in
set_option maxHeartbeats 2000000 in
theorem char_any (l : List Int) (v : Value) (w : World) (h : Ints w.heap.size w v l) (hlen : l.length ≤ 140737488355328) :
    Calls Try.prog 15 #[v] w fun e w' => e = .returned (.tuple #[.string (chF [] l).1, .int .i64 (chF [] l).2]) ∧ Below w.heap.size w w' := by
  obtain ⟨a, cap, rfl, hcap, h⟩ := h
  have HC : Hid _ := h
  have HL : Hid (l ≠ [] ↔ 0 < l.length) := by
    show _ ↔ _
    cases l <;> simp
  have HX : Hid (∀ acc k, k < l.length → encE (l.getD k 0) ≠ 0 → chF acc (l.drop k) = (⟨#[]⟩, encE (l.getD k 0))) := fun acc k => chF_bad
  have HY : Hid (∀ acc k, k < l.length → encE (l.getD k 0) = 0 → 10000 < (acc ++ (encS (l.getD k 0)).data.toList).length → chF acc (l.drop k) = (⟨#[]⟩, 14)) := fun acc k => chF_big
  have HZ : Hid (∀ acc k, k < l.length → encE (l.getD k 0) = 0 → ¬ 10000 < (acc ++ (encS (l.getD k 0)).data.toList).length → chF acc (l.drop k) = chF (acc ++ (encS (l.getD k 0)).data.toList) (l.drop (k + 1))) := fun acc k => chF_on
  have HD : Hid (∀ acc k, ¬ k < l.length → chF acc (l.drop k) = (⟨acc.toArray⟩, 0)) := fun acc k hk => by rw [List.drop_of_length_le (by omega)]; rfl
  have HS : Hid (chF [] (l.drop 0) = chF [] l) := rfl
  obtain ⟨R, hR⟩ : ∃ R, chF [] l = R := ⟨_, rfl⟩
  rw [hR] at HS ⊢
  clear h hcap hR
  obtain ⟨L, hL⟩ : ∃ L, l.length = L := ⟨_, rfl⟩
  rw [hL] at HC HL HX HY HZ HD hlen ⊢
  clear hL
  obtain ⟨i0, hi, hz0, hz1, hz2⟩ := info_parts info5
  go_enter Try.func15, Try.ntmps15
  go_wp2
  go_loopw [4, 11] (fun vv i wr => ∃ (k : Nat) (acc : List UInt8), i = .int .i64 (k : Nat) ∧ k ≤ L ∧ wr.ownsRow w.heap.size 5 1 vv acc.length (bc acc) ∧ acc.length ≤ 10000 ∧ Hid (chF acc (l.drop k) = R) ∧ Hid (Below w.heap.size w wr)) (fun _ i _ => L - (intOf i).toNat)
  case atStart => exact ⟨0, [], rfl, by omega, World.ownsRow_nil _ _ _ _, by simp, HS, Below.refl _ _⟩
  case round =>
    obtain ⟨k, acc, rfl, hk, hown, hacc, HR, HW⟩ := hrel
    by_cases hlt : k < L
    · have hlt' : (k : Int) < (L : Int) := by omega
      obtain ⟨g, off, rfl, hg, hc⟩ := HC.out (HL.out.2 (by omega))
      have c1 : wr.cell? ⟨g, off + k, none⟩ = some (.int .i64 (l.getD k 0)) := by rw [HW.out.cell (by exact hg)]; exact hc k hlt
      have C1 : ∀ W, Calls Try.prog 31 #[.int .i64 (l.getD k 0)] W fun e w' => e = .returned (.tuple #[.string (encS (l.getD k 0)), .int .i64 (encE (l.getD k 0))]) ∧ Below W.heap.size W w' := fun W => (encode_any _ W).mono fun e w' hh => ⟨hh.1, by rw [hh.2]; exact Below.refl _ _⟩
      have HX2 := HX.out acc k hlt
      have HY2 := HY.out acc k hlt
      have HZ2 := HZ.out acc k hlt
      have hen := enc_len (l.getD k 0)
      clear hc HC HX HY HZ HD HS
      generalize l.getD k 0 = x at *
      generalize encS x = S at *
      generalize encE x = E at *
      have w1 : IntKind.i64.wrap ((k : Int) + 1) = ((k + 1 : Nat) : Int) := by rw [IntKind.wrap_i64]; omega
      obtain ⟨o, c, rfl⟩ := slice_of hown
      by_cases hE : E = 0
      · subst hE
        have HY3 : Hid _ := HY2 rfl
        have HZ3 : Hid _ := HZ2 rfl
        clear HX2 HY2 HZ2
        have hsl : S.data.toList.length = S.size := data_len S
        by_cases hbig : 10000 < acc.length + S.size
        · have eR : R = (⟨#[]⟩, 14) := by rw [← HR.out]; exact HY3.out (by rw [List.length_append, hsl]; exact hbig)
          have hbig' : (10000 : Int) < ((acc.length + S.size : Nat) : Int) := by omega
          subst eR
          clear HY3 HZ3 HR
          go_wp2_with (first
            | (go_at_call 31; refine (C1 _).mono ?_; rintro e wA ⟨rfl, hbA⟩; have hown1 := rowb hown hbA; have HW1 : Hid (Below w.heap.size w wA) := (bthen HW.out HW.out.size hbA))
            | (at_builtin; refine Lib.wpList_append_own_string _ rfl _ _ 57 9 rfl w.heap.size 5 i0 Try.underlying57 Try.underlying9 hi hz0 hz1 hz2 _ acc.length (bc acc) rfl hown1 S rfl (by unfold maxLen; omega) (by omega) HW1.out.size ?_; intro v' w3 hown' hgrow _; obtain ⟨o3, c3, rfl⟩ := slice_of hown'; have HW3 : Hid (Below w.heap.size w w3) := (HW1.out.grown hgrow HW1.out.size (fun k hk => (hown1.lt k hk).1))))
          go_ret2
          exact ⟨rfl, HW3.out⟩
        · have HR2 : Hid (chF (acc ++ S.data.toList) (l.drop (k + 1)) = R) := by show _ = _; rw [← HR.out]; exact (HZ3.out (by rw [List.length_append, hsl]; exact hbig)).symm
          have hbig' : ¬ (10000 : Int) < ((acc.length + S.size : Nat) : Int) := by omega
          have HAc : Hid (acc.length + S.size ≤ 10000 ∧ S.data.toList.length = S.size) := ⟨by omega, hsl⟩
          clear HY3 HZ3 HR hsl
          go_wp2_with (first
            | (go_at_call 31; refine (C1 _).mono ?_; rintro e wA ⟨rfl, hbA⟩; have hown1 := rowb hown hbA; have HW1 : Hid (Below w.heap.size w wA) := (bthen HW.out HW.out.size hbA))
            | (at_builtin; refine Lib.wpList_append_own_string _ rfl _ _ 57 9 rfl w.heap.size 5 i0 Try.underlying57 Try.underlying9 hi hz0 hz1 hz2 _ acc.length (bc acc) rfl hown1 S rfl (by unfold maxLen; omega) (by omega) HW1.out.size ?_; intro v' w3 hown' hgrow _; have hown3 : w3.ownsRow w.heap.size 5 1 v' (acc ++ S.data.toList).length (bc (acc ++ S.data.toList)) := (by rw [bc_app, List.length_append, HAc.out.2]; exact hown'); obtain ⟨o3, c3, rfl⟩ := slice_of hown'; have HW3 : Hid (Below w.heap.size w w3) := (HW1.out.grown hgrow HW1.out.size (fun k hk => (hown1.lt k hk).1))))
          go_roundw
          case rel => exact ⟨k + 1, acc ++ S.data.toList, by simp, by omega, hown3, by rw [List.length_append, HAc.out.2]; exact HAc.out.1, HR2, HW3⟩
          case measure => simp [intOf]; omega
      · have eR : R = (⟨#[]⟩, E) := by rw [← HR.out]; exact HX2 hE
        have hE' : (E != 0) = true := by simpa using hE
        subst eR
        clear HX2 HY2 HZ2 HR
        go_wp2_with (go_at_call 31; refine (C1 _).mono ?_; rintro e wA ⟨rfl, hbA⟩)
        go_ret2
        exact ⟨rfl, bthen HW.out HW.out.size hbA⟩
    · have eR : R = (⟨acc.toArray⟩, 0) := by rw [← HR.out]; exact HD.out acc k hlt
      have hcv := own_string wr _ _ _ _ hown
      obtain ⟨o, c, rfl⟩ := slice_of hown
      subst eR
      clear HX HY HZ HD HS HC HL HR
      go_wp2
      go_ret2
      exact ⟨rfl, HW.out⟩
set_option maxRecDepth 20000 in
set_option maxHeartbeats 2000000 in
theorem rchar_any (l : List Int) (v : Value) (w : World) (h : Ints w.heap.size w v l) (hlen : l.length ≤ 140737488355328) :
    Calls Try.prog 16 #[v] w fun e w' => e = .returned (.tuple #[.string (chF [] l).1, .int .i64 (chF [] l).2]) ∧ Below w.heap.size w w' := by
  obtain ⟨a, cap, rfl, hcap, h⟩ := h
  have HC : Hid _ := h
  have HL : Hid (l ≠ [] ↔ 0 < l.length) := by
    show _ ↔ _
    cases l <;> simp
  have HX : Hid (∀ acc k, k < l.length → encE (l.getD k 0) ≠ 0 → chF acc (l.drop k) = (⟨#[]⟩, encE (l.getD k 0))) := fun acc k => chF_bad
  have HY : Hid (∀ acc k, k < l.length → encE (l.getD k 0) = 0 → 10000 < (acc ++ (encS (l.getD k 0)).data.toList).length → chF acc (l.drop k) = (⟨#[]⟩, 14)) := fun acc k => chF_big
  have HZ : Hid (∀ acc k, k < l.length → encE (l.getD k 0) = 0 → ¬ 10000 < (acc ++ (encS (l.getD k 0)).data.toList).length → chF acc (l.drop k) = chF (acc ++ (encS (l.getD k 0)).data.toList) (l.drop (k + 1))) := fun acc k => chF_on
  have HD : Hid (∀ acc k, ¬ k < l.length → chF acc (l.drop k) = (⟨acc.toArray⟩, 0)) := fun acc k hk => by rw [List.drop_of_length_le (by omega)]; rfl
  have HS : Hid (chF [] (l.drop 0) = chF [] l) := rfl
  obtain ⟨R, hR⟩ : ∃ R, chF [] l = R := ⟨_, rfl⟩
  rw [hR] at HS ⊢
  clear h hcap hR
  obtain ⟨L, hL⟩ : ∃ L, l.length = L := ⟨_, rfl⟩
  rw [hL] at HC HL HX HY HZ HD hlen ⊢
  clear hL
  obtain ⟨i0, hi, hz0, hz1, hz2⟩ := info_parts info5
  go_enter Try.func16, Try.ntmps16
  go_wp2
  go_loopw [4, 5] (fun vv i wr => ∃ (k : Nat) (acc : List UInt8), i = .int .i64 (k : Nat) ∧ k ≤ L ∧ wr.ownsRow w.heap.size 5 1 vv acc.length (bc acc) ∧ acc.length ≤ 10000 ∧ Hid (chF acc (l.drop k) = R) ∧ Hid (Below w.heap.size w wr)) (fun _ i _ => L - (intOf i).toNat)
  case atStart => exact ⟨0, [], rfl, by omega, World.ownsRow_nil _ _ _ _, by simp, HS, Below.refl _ _⟩
  case round =>
    obtain ⟨k, acc, rfl, hk, hown, hacc, HR, HW⟩ := hrel
    by_cases hlt : k < L
    · have hlt' : (k : Int) < (L : Int) := by omega
      obtain ⟨g, off, rfl, hg, hc⟩ := HC.out (HL.out.2 (by omega))
      have c1 : wr.cell? ⟨g, off + k, none⟩ = some (.int .i64 (l.getD k 0)) := by rw [HW.out.cell (by exact hg)]; exact hc k hlt
      have C1 : ∀ W, Calls Try.prog 32 #[.int .i64 (l.getD k 0)] W fun e w' => e = .returned (.tuple #[.string (encS (l.getD k 0)), .int .i64 (encE (l.getD k 0))]) ∧ Below W.heap.size W w' := fun W => renc_any _ W
      have HX2 := HX.out acc k hlt
      have HY2 := HY.out acc k hlt
      have HZ2 := HZ.out acc k hlt
      have hen := enc_len (l.getD k 0)
      clear hc HC HX HY HZ HD HS
      generalize l.getD k 0 = x at *
      generalize encS x = S at *
      generalize encE x = E at *
      have w1 : IntKind.i64.wrap ((k : Int) + 1) = ((k + 1 : Nat) : Int) := by rw [IntKind.wrap_i64]; omega
      obtain ⟨o, c, rfl⟩ := slice_of hown
      by_cases hE : E = 0
      · subst hE
        have HY3 : Hid _ := HY2 rfl
        have HZ3 : Hid _ := HZ2 rfl
        clear HX2 HY2 HZ2
        have hsl : S.data.toList.length = S.size := data_len S
        by_cases hbig : 10000 < acc.length + S.size
        · have eR : R = (⟨#[]⟩, 14) := by rw [← HR.out]; exact HY3.out (by rw [List.length_append, hsl]; exact hbig)
          have hbig' : (10000 : Int) < ((acc.length + S.size : Nat) : Int) := by omega
          subst eR
          clear HY3 HZ3 HR
          go_wp2_with (first
            | (go_at_call 32; refine (C1 _).mono ?_; rintro e wA ⟨rfl, hbA⟩; have hown1 := rowb hown hbA; have HW1 : Hid (Below w.heap.size w wA) := (bthen HW.out HW.out.size hbA))
            | (at_builtin; refine Lib.wpList_append_own_string _ rfl _ _ 57 9 rfl w.heap.size 5 i0 Try.underlying57 Try.underlying9 hi hz0 hz1 hz2 _ acc.length (bc acc) rfl hown1 S rfl (by unfold maxLen; omega) (by omega) HW1.out.size ?_; intro v' w3 hown' hgrow _; obtain ⟨o3, c3, rfl⟩ := slice_of hown'; have HW3 : Hid (Below w.heap.size w w3) := (HW1.out.grown hgrow HW1.out.size (fun k hk => (hown1.lt k hk).1))))
          go_ret2
          exact ⟨rfl, HW3.out⟩
        · have HR2 : Hid (chF (acc ++ S.data.toList) (l.drop (k + 1)) = R) := by show _ = _; rw [← HR.out]; exact (HZ3.out (by rw [List.length_append, hsl]; exact hbig)).symm
          have hbig' : ¬ (10000 : Int) < ((acc.length + S.size : Nat) : Int) := by omega
          have HAc : Hid (acc.length + S.size ≤ 10000 ∧ S.data.toList.length = S.size) := ⟨by omega, hsl⟩
          clear HY3 HZ3 HR hsl
          go_wp2_with (first
            | (go_at_call 32; refine (C1 _).mono ?_; rintro e wA ⟨rfl, hbA⟩; have hown1 := rowb hown hbA; have HW1 : Hid (Below w.heap.size w wA) := (bthen HW.out HW.out.size hbA))
            | (at_builtin; refine Lib.wpList_append_own_string _ rfl _ _ 57 9 rfl w.heap.size 5 i0 Try.underlying57 Try.underlying9 hi hz0 hz1 hz2 _ acc.length (bc acc) rfl hown1 S rfl (by unfold maxLen; omega) (by omega) HW1.out.size ?_; intro v' w3 hown' hgrow _; have hown3 : w3.ownsRow w.heap.size 5 1 v' (acc ++ S.data.toList).length (bc (acc ++ S.data.toList)) := (by rw [bc_app, List.length_append, HAc.out.2]; exact hown'); obtain ⟨o3, c3, rfl⟩ := slice_of hown'; have HW3 : Hid (Below w.heap.size w w3) := (HW1.out.grown hgrow HW1.out.size (fun k hk => (hown1.lt k hk).1))))
          go_roundw
          case rel => exact ⟨k + 1, acc ++ S.data.toList, by simp, by omega, hown3, by rw [List.length_append, HAc.out.2]; exact HAc.out.1, HR2, HW3⟩
          case measure => simp [intOf]; omega
      · have eR : R = (⟨#[]⟩, E) := by rw [← HR.out]; exact HX2 hE
        have hE' : (E != 0) = true := by simpa using hE
        subst eR
        clear HX2 HY2 HZ2 HR
        go_wp2_with (go_at_call 32; refine (C1 _).mono ?_; rintro e wA ⟨rfl, hbA⟩)
        go_ret2
        exact ⟨rfl, bthen HW.out HW.out.size hbA⟩
    · have eR : R = (⟨acc.toArray⟩, 0) := by rw [← HR.out]; exact HD.out acc k hlt
      have hcv := own_string wr _ _ _ _ hown
      obtain ⟨o, c, rfl⟩ := slice_of hown
      subst eR
      clear HX HY HZ HD HS HC HL HR
      go_wp2
      go_ret2
      exact ⟨rfl, HW.out⟩
theorem retB {x b : Bool} (h : x = b) : Ending.returned (.bool b) = .returned (.bool x) := by rw [h]
set_option maxHeartbeats 1000000 in
/-- The comparison of two lists of one length. -/
theorem same_walk (l m : List Int) (v v' : Value) (w : World) (h : Ints w.heap.size w v l) (h' : Ints w.heap.size w v' m) (hlen : l.length = m.length) (hbig : l.length ≤ 140737488355328) :
    Calls Try.prog 14 #[v, v'] w fun e w' => e = .returned (.bool (decide (l = m))) ∧ Below w.heap.size w w' := by
  obtain ⟨a, cap, rfl, hcap, h⟩ := h
  obtain ⟨a', cap', rfl, hcap', h'⟩ := h'
  have HC : Hid _ := h
  have HC' : Hid _ := h'
  have HE : Hid (∀ k, k ≤ l.length → l.take k = m.take k → ¬ k < l.length → decide (l = m) = true) := by
    intro k hk ht hkl
    have : k = l.length := by omega
    subst this
    rw [List.take_length, List.take_of_length_le (by omega)] at ht
    simpa using ht
  have HS : Hid (∀ k, k < l.length → l.take k = m.take k → l.getD k 0 = m.getD k 0 → l.take (k + 1) = m.take (k + 1)) := by
    intro k hk ht hx
    rw [List.take_add_one, List.take_add_one, ht]
    congr 1
    rw [List.getElem?_eq_getElem hk, List.getElem?_eq_getElem (by omega)]
    simp only [List.getD, List.getElem?_eq_getElem hk, List.getElem?_eq_getElem (show k < m.length by omega), Option.getD_some] at hx
    rw [hx]
  have HN : Hid (∀ k, k < l.length → ¬ l.getD k 0 = m.getD k 0 → decide (l = m) = false) := by
    intro k hk hx
    simp only [decide_eq_false_iff_not]
    intro e; rw [e] at hx; exact hx rfl
  have HL : Hid (l ≠ [] ↔ 0 < l.length) := by
    show _ ↔ _
    cases l <;> simp
  have HM : Hid (m ≠ [] ↔ 0 < l.length) := by
    show _ ↔ _
    rw [hlen]; cases m <;> simp
  clear h h'
  rw [← hlen] at HC' hcap' ⊢
  obtain ⟨L, hL⟩ : ∃ L, l.length = L := ⟨_, rfl⟩
  rw [hL] at HC HC' HE HS HN HL HM hbig ⊢
  clear hL hcap hcap' hlen
  go_enter Try.func14, Try.ntmps14
  go_wp2
  go_loopw [5] (fun i wr => ∃ k : Nat, i = .int .i64 k ∧ k ≤ L ∧ Hid (l.take k = m.take k) ∧ Below w.heap.size w wr) (fun i _ => L - (intOf i).toNat)
  case atStart => exact ⟨0, rfl, by omega, by rfl, Below.refl _ _⟩
  case round =>
    obtain ⟨k, rfl, hk, HT, hb⟩ := hrel
    by_cases hlt : k < L
    · have hlt' : (k : Int) < (L : Int) := by omega
      obtain ⟨g, off, rfl, hg, hc⟩ := HC.out (HL.out.2 (by omega))
      obtain ⟨g', off', rfl, hg', hc'⟩ := HC'.out (HM.out.2 (by omega))
      have c1 : wr.cell? ⟨g, off + k, none⟩ = some (.int .i64 (l.getD k 0)) := by rw [hb.cell (by exact hg)]; exact hc k hlt
      have c2 : wr.cell? ⟨g', off' + k, none⟩ = some (.int .i64 (m.getD k 0)) := by rw [hb.cell (by exact hg')]; exact hc' k hlt
      clear hc hc'
      by_cases hx : l.getD k 0 = m.getD k 0
      · have HT2 : Hid (l.take (k + 1) = m.take (k + 1)) := HS.out k hlt HT.out hx
        rw [← hx] at c2
        clear hx
        generalize l.getD k 0 = x at c1 c2
        go_wp2
        go_region
        go_wp2
        go_roundw
        case rel => exact ⟨k + 1, by go_num, by omega, HT2, hb.drew⟩
        case measure => simp [intOf]; omega
      · have HD : Hid (decide (l = m) = false) := HN.out k hlt hx
        have hx' : (l.getD k 0 == m.getD k 0) = false := by simpa using hx
        have hx'' : (l.getD k 0 != m.getD k 0) = true := by simpa using hx
        generalize l.getD k 0 = x at c1 hx hx' hx''
        generalize m.getD k 0 = y at c2 hx hx' hx''
        go_wp2
        go_region
        go_wp2
        go_ret
        exact ⟨retB HD.out, hb.drew⟩
    · have HD : Hid (decide (l = m) = true) := HE.out k hk HT.out hlt
      go_wp2
      go_ret
      exact ⟨retB HD.out, hb⟩

theorem sameints_any (l m : List Int) (v v' : Value) (w : World) (h : Ints w.heap.size w v l) (h' : Ints w.heap.size w v' m) (hbig : l.length ≤ 140737488355328) :
    Calls Try.prog 14 #[v, v'] w fun e w' => e = .returned (.bool (decide (l = m))) ∧ Below w.heap.size w w' := by
  by_cases hlen : l.length = m.length
  · exact same_walk l m v v' w h h' hlen hbig
  · have e : decide (l = m) = false := decide_eq_false (fun q => hlen (by rw [q]))
    rw [e]
    obtain ⟨a, cap, rfl, hcap, h⟩ := h
    obtain ⟨a', cap', rfl, hcap', h'⟩ := h'
    have hx : ((l.length : Int) != (m.length : Int)) = true := by simp; omega
    generalize l.length = L at *
    generalize m.length = M at *
    go_enter Try.func14, Try.ntmps14
    go_wp2
    go_ret
    exact ⟨rfl, Below.refl _ _⟩
end Go.Proofs.Ytbgbhogcjaodkaa

/- The walk of 'fixed', the answers that the document fixes. -/
namespace Go.Proofs.Ytbgbhogcjaodkaa
open Go.RowKit

theorem len_fix : lenR ⟨#[97, 195, 169]⟩ 1 (-1) = (2, 0, 0) := by
  have z : (⟨#[97, 195, 169]⟩ : ByteArray).size = 3 := rfl
  have w0 : wd ⟨#[97, 195, 169]⟩ 0 = 1 := by kernel_rfl
  have r0 : rn ⟨#[97, 195, 169]⟩ 0 = 97 := by kernel_rfl
  have w1 : wd ⟨#[97, 195, 169]⟩ 1 = 2 := by kernel_rfl
  have r1 : rn ⟨#[97, 195, 169]⟩ 1 = 233 := by kernel_rfl
  have e1 : mt 3 1 = 1 := by decide
  have e2 : mt 3 (-1) = 3 := by decide
  unfold lenR
  rw [z, e1, e2, if_neg (by decide)]
  have b : bw ⟨#[97, 195, 169]⟩ ((1 : Int).toNat - 1) 3 = [(0, 1, 97), (1, 2, 233)] := by
    show bw ⟨#[97, 195, 169]⟩ 0 3 = _
    rw [bw_at (by rw [z]; omega) (by decide), w0, r0, bw_at (by rw [z]; omega) (by decide), w1, r1, bw_stop (by decide)]
  rw [b]
  decide
theorem ch_fix : chF [] [97, 8364] = (⟨#[97, 226, 130, 172]⟩, 0) := by kernel_rfl
theorem of_fix : ofs ⟨#[97, 195, 169, 98]⟩ 3 1 = (4, true, 0) := by kernel_rfl
theorem st_fix : stR ⟨#[97, 195, 169]⟩ 1 = (2, 233, true, 0) := by kernel_rfl
theorem ints2 (w : World) (x y : Int) : Ints (w.alloc (.cells #[.int .i64 x, .int .i64 y] 3)).heap.size (w.alloc (.cells #[.int .i64 x, .int .i64 y] 3)) (.slice (some ⟨w.heap.size, 0, none⟩) 2 2) [x, y] :=
  ⟨_, 2, rfl, by simp, fun _ => ⟨w.heap.size, 0, rfl, by simp, fun i hi => by
    have hi' : i < 2 := by simpa using hi
    obtain rfl | rfl : i = 0 ∨ i = 1 := by omega
    · exact (new_cell w [.int .i64 x, .int .i64 y] 3 0 _ rfl).1
    · exact (new_cell w [.int .i64 x, .int .i64 y] 3 1 _ rfl).1⟩⟩
set_option maxRecDepth 20000 in
set_option maxHeartbeats 2000000 in
theorem fixed_any (w : World) : Calls Try.prog 13 #[] w fun e w' => e = .returned (.bool true) ∧ Below w.heap.size w w' := by
  have C1 := fun W => len_any ⟨#[97, 195, 169]⟩ 1 (-1) W (by decide) (by decide) (by decide) (by decide) (by decide)
  rw [len_fix] at C1
  have C2 := fun W => char_any [97, 8364] (.slice (some ⟨W.heap.size, 0, none⟩) 2 2) (W.alloc (.cells #[.int .i64 97, .int .i64 8364] 3)) (ints2 W 97 8364) (by decide)
  rw [ch_fix] at C2
  have C3 := fun W => offset_any ⟨#[97, 195, 169, 98]⟩ 3 1 W (by decide) (by decide) (by decide) (by decide) (by decide)
  rw [of_fix] at C3
  have C4 := fun W => step_any ⟨#[97, 195, 169]⟩ 1 W (by decide)
  rw [st_fix] at C4
  unfold oR at C3
  unfold stV at C4
  have HB : Hid (Below w.heap.size w w) := Below.refl _ _
  go_enter Try.func13, Try.ntmps13
  go_wp2_with (first
    | (go_at_call 9; refine (C1 _).mono ?_; rintro e w1 ⟨rfl, h1⟩; have HB : Hid (Below w.heap.size w w1) := (bthen HB.out HB.out.size h1))
    | (go_at_call 15; refine (C2 _).mono ?_; rintro e w2 ⟨rfl, h2⟩; have HB : Hid (Below w.heap.size w w2) := (bthen (bthen HB.out HB.out.size (b1 _ _)) (by have := HB.out.size; simp; omega) h2))
    | (go_at_call 17; refine (C3 _).mono ?_; rintro e w3 ⟨rfl, h3⟩; subst w3)
    | (go_at_call 19; refine (C4 _).mono ?_; rintro e w4 ⟨rfl, h4⟩; have HB : Hid (Below w.heap.size w w4) := (bthen HB.out HB.out.size h4)))
  go_ret
  exact ⟨rfl, HB.out⟩
end Go.Proofs.Ytbgbhogcjaodkaa
