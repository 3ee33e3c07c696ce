/- What the listed tables give the walks (the powers of ten of the library's decimal texts), and a start that meets them: the heap that the program's own door leaves. -/
import Derived.Test.YtlgkfhipobdcfabGreatDoorRows
import Derived.WalkKit
import Derived.ProofKit
import Derived.LaidMore
import Derived.OpenShut
import Derived.Stop.Joined
import Derived.Stop.LaidErr
import Derived.Lib.LaidTab
import Derived.Lib.ItoaNum
import Derived.Lib.DecodeN
import Derived.Lib.IndexBytes
import Derived.Shelf.Strings.Builder1
import Derived.Shelf.Small.Strs
import Derived.Shelf.LaysM
import Derived.Shelf.Strconv.Clone
import Derived.Shelf.Strings.Search1
import Derived.Shelf.Strings.Prefix
import Derived.Test.YtlgkfhipobdcfabGreatDoorProg
import Derived.WalkSpells
import Derived.WalkLawsBesides
import Derived.WalkSmall
import Derived.Lib.OthersKept
import Derived.Deep.LoopGhost
namespace Go.Proofs.YtlgkfhipobdcfabGreatDoor
open Go.ChangeShapes Go.WideShapes Go.ChangeAt Go.RowKit

theorem own : ownKnob Tryz.prog.godebug = none := by kernel_rfl
def laid3 : List (String × DataW Unit) := [("math/bits.deBruijn32tab", Rows.laid_math_bits_deBruijn32tab), ("math/bits.deBruijn64tab", Rows.laid_math_bits_deBruijn64tab), ("internal/strconv.uint64pow10", Rows.laid_internal_strconv_uint64pow10)]

/-- The door's own heap meets the list. -/
theorem door_met (os : Os) (args : Array Value) : laidMetH Tryz.prog laid3 ((World.doorLaid Tryz.prog 400 os).forCall (fun _ _ => 0) ⟨#[], args, []⟩).memory :=
  laidMetH_of_parts3 (fuel := 8) (laidMet_of_run' 8 (by kernel_rfl) (by kernel_rfl)) (by kernel_rfl) (by kernel_rfl)

theorem gPow : Tryz.prog.globalNamed "internal/strconv.uint64pow10" = some 1 := by kernel_rfl
theorem tPow : (Tryz.prog.globals[1]?).map (·.type) = some 127 := by kernel_rfl

/-- What the list gives the walks. -/
theorem tab_of {W : World} (h : laidMetH Tryz.prog laid3 W) : Lib.TabIs Tryz.prog W "internal/strconv.uint64pow10" .u64 Lib.pow10Tab := by
  rw [MakeChecks.laidMetH_plain _ _ _ (by kernel_rfl)] at h
  exact Lib.tabIs_of_head gPow tPow Tryz.underlying127 Tryz.underlying101 (by kernel_rfl) (by kernel_rfl) (rest := []) (show laidMet Tryz.prog [("internal/strconv.uint64pow10", Lib.tabData .u64 Lib.pow10Tab)] W from h.tail.tail)

#print axioms tab_of
end Go.Proofs.YtlgkfhipobdcfabGreatDoor

/- Plain facts on the runes of a text (no program in it): how wide a rune is by its code point; the list of a text's runes. -/
namespace Go.Proofs.YtlgkfhipobdcfabGreatDoor

def wd (s : ByteArray) (p : Nat) : Nat := (Utf8.decode s p).2
def rn (s : ByteArray) (p : Nat) : Nat := (Utf8.decode s p).1

theorem byte_lt (s : ByteArray) (i : Nat) : (s.get! i).toNat < 256 := (s.get! i).toNat_lt

/-- All that the width of a rune hangs on. -/
theorem decodeN_shape (n b0 b1 b2 b3 : Nat) (h0 : b0 < 256) (h1 : b1 < 256) :
    ((Lib.decodeN n b0 b1 b2 b3).1 < 128 → (Lib.decodeN n b0 b1 b2 b3).2 = 1) ∧
    (128 ≤ (Lib.decodeN n b0 b1 b2 b3).1 → (Lib.decodeN n b0 b1 b2 b3).1 < 2048 → (Lib.decodeN n b0 b1 b2 b3).2 = 2) ∧
    (2048 ≤ (Lib.decodeN n b0 b1 b2 b3).1 → (Lib.decodeN n b0 b1 b2 b3).1 < 65536 → (Lib.decodeN n b0 b1 b2 b3).1 ≠ 65533 → (Lib.decodeN n b0 b1 b2 b3).2 = 3) ∧
    (65536 ≤ (Lib.decodeN n b0 b1 b2 b3).1 → (Lib.decodeN n b0 b1 b2 b3).2 = 4) ∧
    ((Lib.decodeN n b0 b1 b2 b3).1 = 65533 → ((Lib.decodeN n b0 b1 b2 b3).2 = 3 ∧ 3 ≤ n ∧ b0 = 239 ∧ b1 = 191 ∧ b2 = 189) ∨ ((Lib.decodeN n b0 b1 b2 b3).2 = 1 ∧ ¬ (3 ≤ n ∧ b0 = 239 ∧ b1 = 191 ∧ b2 = 189))) ∧
    (Lib.decodeN n b0 b1 b2 b3).1 ≤ 1114111 ∧ 1 ≤ (Lib.decodeN n b0 b1 b2 b3).2 ∧ ((Lib.decodeN n b0 b1 b2 b3).2 ≤ n ∨ n = 0) := by
  unfold Lib.decodeN
  repeat' split
  all_goals (refine ⟨?_, ?_, ?_, ?_, ?_, ?_, ?_, ?_⟩ <;> simp only <;> (try intros) <;> first | omega | trivial | (simp; omega))

theorem shape_at (s : ByteArray) (p : Nat) :
    (rn s p < 128 → wd s p = 1) ∧ (128 ≤ rn s p → rn s p < 2048 → wd s p = 2) ∧ (2048 ≤ rn s p → rn s p < 65536 → rn s p ≠ 65533 → wd s p = 3) ∧ (65536 ≤ rn s p → wd s p = 4) ∧
    (rn s p = 65533 → (wd s p = 3 ∧ 3 ≤ s.size - p ∧ (s.get! p).toNat = 239 ∧ (s.get! (p + 1)).toNat = 191 ∧ (s.get! (p + 2)).toNat = 189) ∨
      (wd s p = 1 ∧ ¬ (3 ≤ s.size - p ∧ (s.get! p).toNat = 239 ∧ (s.get! (p + 1)).toNat = 191 ∧ (s.get! (p + 2)).toNat = 189))) ∧
    rn s p ≤ 1114111 ∧ 1 ≤ wd s p ∧ (wd s p ≤ s.size - p ∨ s.size - p = 0) := by
  unfold rn wd
  rw [Lib.decode_at]
  exact decodeN_shape _ _ _ _ _ (byte_lt s p) (byte_lt s (p + 1))

theorem wd_pos (s : ByteArray) (p : Nat) : 1 ≤ wd s p := (shape_at s p).2.2.2.2.2.2.1
theorem wd_le (s : ByteArray) (p : Nat) (h : p < s.size) : p + wd s p ≤ s.size := by have := (shape_at s p).2.2.2.2.2.2.2; omega
theorem rn_le (s : ByteArray) (p : Nat) : rn s p ≤ 1114111 := (shape_at s p).2.2.2.2.2.1

/-- A rune of a text: where it begins, how many bytes it has, its code point; the runes from a byte on. -/
abbrev Rn := Nat × Nat × Nat
def rest (s : ByteArray) (p : Nat) : List Rn := if _h : p < s.size then (p, wd s p, rn s p) :: rest s (p + wd s p) else []
termination_by s.size - p
decreasing_by have := wd_pos s p; omega

theorem rest_at (s : ByteArray) (p : Nat) (h : p < s.size) : rest s p = (p, wd s p, rn s p) :: rest s (p + wd s p) := by rw [rest]; simp [h]
theorem rest_end (s : ByteArray) (p : Nat) (h : ¬ p < s.size) : rest s p = [] := by rw [rest]; simp [h]

/-- Where a going through stops: behind the first rune at which it is told to, else at the end. -/
def runTo (go : List Rn → Bool) : List Rn → List Rn → List Rn
  | done, [] => done
  | done, r :: l => if go (done ++ [r]) then runTo go (done ++ [r]) l else done ++ [r]

theorem get_data (s : ByteArray) (i : Nat) : s.get! i = s.data.toList.getD i 0 := by
  obtain ⟨⟨l⟩⟩ := s
  simp [ByteArray.get!, getElem!_def, List.getD]
  cases l[i]? <;> rfl

theorem prefix_iff (s : ByteArray) (p : Nat) : ([239, 191, 189] : List UInt8).isPrefixOf (s.data.toList.drop p) = true ↔ (3 ≤ s.size - p ∧ (s.get! p).toNat = 239 ∧ (s.get! (p + 1)).toNat = 191 ∧ (s.get! (p + 2)).toNat = 189) := by
  have hsz : s.size - p = (s.data.toList.drop p).length := by simp
  have e0 : s.get! p = (s.data.toList.drop p).getD 0 0 := by rw [get_data]; simp [List.getD, List.getElem?_drop]
  have e1 : s.get! (p + 1) = (s.data.toList.drop p).getD 1 0 := by rw [get_data]; simp [List.getD, List.getElem?_drop]
  have e2 : s.get! (p + 2) = (s.data.toList.drop p).getD 2 0 := by rw [get_data]; simp [List.getD, List.getElem?_drop]
  rw [hsz, e0, e1, e2]
  generalize s.data.toList.drop p = l
  have inj : ∀ (x : UInt8) (n : Nat), n < 256 → (x.toNat = n ↔ UInt8.ofNat n = x) := fun x n hn => ⟨fun h => by apply UInt8.toNat_inj.1; simp [h]; omega, fun h => by subst h; simp; omega⟩
  match l with
  | [] => simp
  | [a] => simp
  | [a, b] => simp
  | a :: b :: c :: t =>
    simp only [List.isPrefixOf, Bool.and_true, Bool.and_eq_true, beq_iff_eq, List.length_cons, List.getD_cons_zero, List.getD_cons_succ]
    rw [inj a 239 (by omega), inj b 191 (by omega), inj c 189 (by omega)]
    constructor
    · rintro ⟨h0, h1, h2⟩; exact ⟨by omega, h0, h1, h2⟩
    · rintro ⟨_, h0, h1, h2⟩; exact ⟨h0, h1, h2⟩

end Go.Proofs.YtlgkfhipobdcfabGreatDoor

/-
  DERIVED: THE SHELF's CONTRACTS AT THIS DUMP, IN PLAIN WORDS (tools/lay-plain.mjs out of 'TryzShelf.lean', which tools/lay-shelf.mjs wrote): THE SAME DECLARATIONS UNDER THE SAME NAMES: 'import', 'namespace', 'open', 'def', 'theorem' AND NOTHING ELSE: no command of the shelf's: FOR A HAND-IN. Each laying: the table of numbers ('.._ren') and one theorem, a field a fact of the dump's own or the kernel's comparison; each contract: ONE APPLICATION.
-/
namespace Go.Proofs
open Go.Shelf
def Tryz.lays169_ren : Go.Shelf.Ren := ⟨fun | 169 => 26 | n => n, fun | 70 => 62 | 9 => 9 | 0 => 0 | 72 => 65 | 37 => 63 | 127 => 75 | 3 => 3 | 5 => 5 | n => n, fun | n => n⟩
theorem Tryz.lays169 : Go.Proofs.Lays.n169 Tryz.prog Tryz.lays169_ren := {
  mixed := by kernel_rfl
  f169 := Tryz.func26.trans (congrArg some (by kernel_rfl))
  t0 := Tryz.underlying0
  a0 := Tryz.isAgg0
  z0 := Tryz.sizeOf0
  v0 := Tryz.zeroValue0
  t3 := Tryz.underlying3
  a3 := Tryz.isAgg3
  z3 := Tryz.sizeOf3
  v3 := Tryz.zeroValue3
  t9 := Tryz.underlying9
  a9 := Tryz.isAgg9
  z9 := Tryz.sizeOf9
  v9 := Tryz.zeroValue9
  t37 := Tryz.underlying63
  a37 := Tryz.isAgg63
  z37 := Tryz.sizeOf63
  v37 := Tryz.zeroValue63
  t70 := Tryz.underlying62
  a70 := Tryz.isAgg62
  z70 := Tryz.sizeOf62
  v70 := Tryz.zeroValue62
  t72 := Tryz.underlying65
  a72 := Tryz.isAgg65
  z72 := Tryz.sizeOf65
  v72 := Tryz.zeroValue65
  t127 := Tryz.underlying75
  a127 := Tryz.isAgg75
  z127 := Tryz.sizeOf75
  v127 := Tryz.zeroValue75 }
theorem Tryz.Builder_Extra_169 : Builder.Extra Tryz.prog Tryz.lays169_ren := {
  sizeBuilder := by kernel_rfl
  liesBuilder := by kernel_rfl
  t5 := Tryz.underlying5
  a5 := Tryz.isAgg5
  z5 := Tryz.sizeOf5
  v5 := Tryz.zeroValue5
  infoByte := by kernel_rfl
  cellsByte := by kernel_rfl
  sizeByte := by kernel_rfl
  neB5 := by decide }
open Go.RowKit in
/-- (*strings.Builder).String: "String returns the accumulated string.": OF A BUILDER THAT HOLDS AT LEAST ONE BYTE. ✋ THE MODEL FREEZES THOSE BYTES IN THE BUFFER (unsafe.String): a later write INTO them ends the model's run without an answer; a later append BEHIND them goes on. The statement's order of evaluation is drawn: one draw. (LAID: no walk: one application.) -/
theorem Tryz.Builder_String (B b : Nat) (l : List UInt8) (w : World) (h : Lib.IsBuilder 65 5 B b (Lib.byteCells l) w) (h0 : l ≠ []) :
    Calls Tryz.prog 26 #[.pointer (some ⟨b, 0, none⟩)] w fun e w' => e = .returned (.string ⟨l.toArray⟩) ∧ Below B w w' := Any.Builder_String Tryz.lays169 Tryz.Builder_Extra_169 B b l w h h0
open Go.RowKit in
/-- (*strings.Builder).String OF A BUILDER THAT HOLDS NO BYTE: the empty string. (Its buffer is nil, or a row of which it has taken nothing yet; where that row has NO capacity the model lays one new block for unsafe.SliceData's 'some address'.) One draw. (LAID: no walk: one application.) -/
theorem Tryz.Builder_String_empty (B b : Nat) (w : World) (h : Lib.IsBuilder 65 5 B b [] w) (hBw : B ≤ w.heap.size) :
    Calls Tryz.prog 26 #[.pointer (some ⟨b, 0, none⟩)] w fun e w' => e = .returned (.string ⟨#[]⟩) ∧ Below B w w' := Any.Builder_String_empty Tryz.lays169 Tryz.Builder_Extra_169 B b w h hBw
open Go.RowKit in
/-- (*strings.Builder).String: "String returns the accumulated string.": WHATEVER THE BUILDER HOLDS. (LAID: no walk: one application.) -/
theorem Tryz.Builder_String_any (B b : Nat) (l : List UInt8) (w : World) (h : Lib.IsBuilder 65 5 B b (Lib.byteCells l) w) (hBw : B ≤ w.heap.size) :
    Calls Tryz.prog 26 #[.pointer (some ⟨b, 0, none⟩)] w fun e w' => e = .returned (.string ⟨l.toArray⟩) ∧ Below B w w' := Any.Builder_String_any Tryz.lays169 Tryz.Builder_Extra_169 B b l w h hBw
def Tryz.lays137_ren : Go.Shelf.Ren := ⟨fun | 137 => 89 | 217 => 102 | 266 => 109 | n => n, fun | 9 => 9 | 5 => 5 | 3 => 3 | n => n, fun | n => n⟩
theorem Tryz.lays137 : Go.Proofs.Lays.n137 Tryz.prog Tryz.lays137_ren := {
  mixed := by kernel_rfl
  f137 := Tryz.func89.trans (congrArg some (by kernel_rfl))
  f217 := Tryz.func102.trans (congrArg some (by kernel_rfl))
  f266 := Tryz.func109.trans (congrArg some (by kernel_rfl))
  t3 := Tryz.underlying3
  a3 := Tryz.isAgg3
  z3 := Tryz.sizeOf3
  v3 := Tryz.zeroValue3
  t5 := Tryz.underlying5
  a5 := Tryz.isAgg5
  z5 := Tryz.sizeOf5
  v5 := Tryz.zeroValue5
  t9 := Tryz.underlying9
  a9 := Tryz.isAgg9
  z9 := Tryz.sizeOf9
  v9 := Tryz.zeroValue9 }
open Go.RowKit in
/-- strings.IndexByte: "IndexByte returns the index of the first instance of c in s, or -1 if c is not present in s.": IT RETURNS 'Lib.indexByte s c'; the world is as it was. (LAID: no walk: one application.) -/
theorem Tryz.strings_IndexByte (s : ByteArray) (c : Int) (w : World) :
    Calls Tryz.prog 89 #[.string s, .int .u8 c] w fun e w' => e = .returned (.int .i64 (Lib.indexByte s.data.toList c.toNat.toUInt8)) ∧ w' = w := Any.strings_IndexByte Tryz.lays137 s c w
def Tryz.laysM316_ren : Go.Shelf.Ren := ⟨fun | 316 => 78 | n => n, fun | 9 => 9 | 3 => 3 | 4 => 4 | 37 => 63 | 0 => 0 | 127 => 75 | 5 => 5 | n => n, fun | n => n⟩
theorem Tryz.laysM316 : Go.Proofs.LaysM.n316 Tryz.prog Tryz.laysM316_ren := {
  mixed := by kernel_rfl
  f316 := Tryz.func78.trans (congrArg some (by kernel_rfl))
  t0 := Tryz.underlying0
  a0 := Tryz.isAgg0
  z0 := Tryz.sizeOf0
  v0 := Tryz.zeroValue0
  t3 := Tryz.underlying3
  a3 := Tryz.isAgg3
  z3 := Tryz.sizeOf3
  v3 := Tryz.zeroValue3
  t4 := Tryz.underlying4
  a4 := Tryz.isAgg4
  z4 := Tryz.sizeOf4
  v4 := Tryz.zeroValue4
  t9 := Tryz.underlying9
  a9 := Tryz.isAgg9
  z9 := Tryz.sizeOf9
  v9 := Tryz.zeroValue9
  t37 := Tryz.underlying63
  a37 := Tryz.isAgg63
  z37 := Tryz.sizeOf63
  v37 := Tryz.zeroValue63
  t127 := Tryz.underlying75
  a127 := Tryz.isAgg75
  z127 := Tryz.sizeOf75
  v127 := Tryz.zeroValue75
  t5 := Tryz.underlying5
  a5 := Tryz.isAgg5
  z5 := Tryz.sizeOf5
  v5 := Tryz.zeroValue5
  i0 := by kernel_rfl
  i3 := by kernel_rfl
  i4 := by kernel_rfl
  i5 := by kernel_rfl
  i9 := by kernel_rfl
  i37 := by kernel_rfl
  i127 := by kernel_rfl }
open Go.RowKit in
/-- internal/stringslite.Clone (what strings.Clone calls): "Clone returns a fresh copy of s.": THE SAME BYTES. Of what was there nothing has turned (a new row is laid, and frozen, where s is not empty). (LAID: no walk: one application.) -/
theorem Tryz.stringslite_Clone (s : ByteArray) (w : World) (hlim : s.size ≤ 281474976710656) :
    Calls Tryz.prog 78 #[.string s] w fun e w' => e = .returned (.string s) ∧ Below w.heap.size w w' := Any.stringslite_Clone Tryz.laysM316 s w hlim
def Tryz.lays217_ren : Go.Shelf.Ren := ⟨fun | 217 => 102 | 266 => 109 | n => n, fun | 9 => 9 | 5 => 5 | 3 => 3 | n => n, fun | n => n⟩
theorem Tryz.lays217 : Go.Proofs.Lays.n217 Tryz.prog Tryz.lays217_ren := {
  mixed := by kernel_rfl
  f217 := Tryz.func102.trans (congrArg some (by kernel_rfl))
  f266 := Tryz.func109.trans (congrArg some (by kernel_rfl))
  t3 := Tryz.underlying3
  a3 := Tryz.isAgg3
  z3 := Tryz.sizeOf3
  v3 := Tryz.zeroValue3
  t5 := Tryz.underlying5
  a5 := Tryz.isAgg5
  z5 := Tryz.sizeOf5
  v5 := Tryz.zeroValue5
  t9 := Tryz.underlying9
  a9 := Tryz.isAgg9
  z9 := Tryz.sizeOf9
  v9 := Tryz.zeroValue9 }
open Go.RowKit Go.Lib in
/-- internal/stringslite.IndexByte (what strings.IndexByte calls): IT RETURNS 'Lib.indexByte s c'; the world is as it was. (LAID: no walk: one application.) -/
theorem Tryz.stringslite_IndexByte (s : ByteArray) (c : Int) (w : World) :
    Calls Tryz.prog 102 #[.string s, .int .u8 c] w fun e w' => e = .returned (.int .i64 (Lib.indexByte s.data.toList c.toNat.toUInt8)) ∧ w' = w := Any.stringslite_IndexByte Tryz.lays217 s c w
def Tryz.lays206_ren : Go.Shelf.Ren := ⟨fun | 206 => 69 | n => n, fun | 9 => 9 | 4 => 4 | 3 => 3 | n => n, fun | n => n⟩
theorem Tryz.lays206 : Go.Proofs.Lays.n206 Tryz.prog Tryz.lays206_ren := {
  mixed := by kernel_rfl
  f206 := Tryz.func69.trans (congrArg some (by kernel_rfl))
  t3 := Tryz.underlying3
  a3 := Tryz.isAgg3
  z3 := Tryz.sizeOf3
  v3 := Tryz.zeroValue3
  t4 := Tryz.underlying4
  a4 := Tryz.isAgg4
  z4 := Tryz.sizeOf4
  v4 := Tryz.zeroValue4
  t9 := Tryz.underlying9
  a9 := Tryz.isAgg9
  z9 := Tryz.sizeOf9
  v9 := Tryz.zeroValue9 }
open Go.RowKit Go.Lib in
/-- internal/stringslite.HasPrefix (what strings.HasPrefix calls). (LAID: no walk: one application.) -/
theorem Tryz.stringslite_HasPrefix (s p : ByteArray) (w : World) :
    Calls Tryz.prog 69 #[.string s, .string p] w fun e w' => e = .returned (.bool (Lib.hasPrefix s.data.toList p.data.toList)) ∧ w' = w := Any.stringslite_HasPrefix Tryz.lays206 s p w
def Tryz.lays99_ren : Go.Shelf.Ren := ⟨fun | 99 => 42 | 206 => 69 | n => n, fun | 9 => 9 | 4 => 4 | 3 => 3 | n => n, fun | n => n⟩
theorem Tryz.lays99 : Go.Proofs.Lays.n99 Tryz.prog Tryz.lays99_ren := {
  mixed := by kernel_rfl
  f99 := Tryz.func42.trans (congrArg some (by kernel_rfl))
  f206 := Tryz.func69.trans (congrArg some (by kernel_rfl))
  t3 := Tryz.underlying3
  a3 := Tryz.isAgg3
  z3 := Tryz.sizeOf3
  v3 := Tryz.zeroValue3
  t4 := Tryz.underlying4
  a4 := Tryz.isAgg4
  z4 := Tryz.sizeOf4
  v4 := Tryz.zeroValue4
  t9 := Tryz.underlying9
  a9 := Tryz.isAgg9
  z9 := Tryz.sizeOf9
  v9 := Tryz.zeroValue9 }
open Go.RowKit Go.Lib in
/-- strings.HasPrefix: "HasPrefix reports whether the string s begins with prefix.": IT RETURNS 'Lib.hasPrefix s prefix'; the world is as it was. (LAID: no walk: one application.) -/
theorem Tryz.strings_HasPrefix (s p : ByteArray) (w : World) :
    Calls Tryz.prog 42 #[.string s, .string p] w fun e w' => e = .returned (.bool (Lib.hasPrefix s.data.toList p.data.toList)) ∧ w' = w := Any.strings_HasPrefix Tryz.lays99 s p w
end Go.Proofs

/- The walks of size and each: going through a text tells its runes, one behind the other, as long as the function that it is handed answers true. -/
namespace Go.Proofs.YtlgkfhipobdcfabGreatDoor
open Go.RowKit

theorem ret1 {a b : Int} (h : a = b) : Ending.returned (.int .i64 a) = .returned (.int .i64 b) := by rw [h]

/-- A rune as the program hands it on. -/
def encR (r : Rn) : Value := .agg #[.int .i64 r.1, .int .i64 r.2.1, .int .i64 r.2.2]

set_option maxHeartbeats 400000 in
theorem size_core (x : ByteArray) (r : Int) (d : Nat) (q : Bool) (w : World) (C : ∀ w, Calls Tryz.prog 42 #[.string x, .string { data := #[239, 191, 189] }] w fun e w' => e = .returned (.bool q) ∧ w' = w)
    (h1 : r < 128 → d = 1) (h2 : 128 ≤ r → r < 2048 → d = 2) (h3 : 2048 ≤ r → r < 65536 → r ≠ 65533 → d = 3) (h4 : 65536 ≤ r → d = 4) (h5 : r = 65533 → (d = 3 ∧ q = true) ∨ (d = 1 ∧ q = false)) :
    Calls Tryz.prog 122 #[.string x, .int .i32 r] w fun e w' => e = .returned (.int .i64 d) ∧ w' = w := by
  by_cases a1 : r < 128
  · obtain rfl := h1 a1
    clear C h1 h2 h3 h4 h5
    go_enter Tryz.func122, Tryz.ntmps122
    go_wp2
    go_ret
    exact ⟨rfl, rfl⟩
  · by_cases a2 : r < 2048
    · obtain rfl := h2 (by omega) a2
      clear C h1 h2 h3 h4 h5
      go_enter Tryz.func122, Tryz.ntmps122
      go_wp2
      go_ret
      exact ⟨rfl, rfl⟩
    · by_cases a3 : r = 65533
      · obtain ⟨rfl, rfl⟩ | ⟨rfl, rfl⟩ := h5 a3
        all_goals
          subst a3
          clear h1 h2 h3 h4 h5
          go_enter Tryz.func122, Tryz.ntmps122
          go_wp2_with (go_at_call 42; refine (C _).mono ?_; rintro e w' ⟨rfl, rfl⟩)
          go_ret
          exact ⟨rfl, rfl⟩
      · have a3' : (r == 65533) = false := by simpa using a3
        by_cases a4 : r < 65536
        · obtain rfl := h3 (by omega) a4 a3
          clear C h1 h2 h3 h4 h5
          go_enter Tryz.func122, Tryz.ntmps122
          go_wp2
          go_ret
          exact ⟨rfl, rfl⟩
        · obtain rfl := h4 (by omega)
          clear C h1 h2 h3 h4 h5
          go_enter Tryz.func122, Tryz.ntmps122
          go_wp2
          go_ret
          exact ⟨rfl, rfl⟩

theorem size_any (s : ByteArray) (p : Nat) (w : World) : Calls Tryz.prog 122 #[.string (s.extract p s.size), .int .i32 (rn s p)] w fun e w' => e = .returned (.int .i64 (wd s p)) ∧ w' = w := by
  obtain ⟨h1, h2, h3, h4, h5, _⟩ := shape_at s p
  have hx : Lib.hasPrefix (s.extract p s.size).data.toList [239, 191, 189] = decide (3 ≤ s.size - p ∧ (s.get! p).toNat = 239 ∧ (s.get! (p + 1)).toNat = 191 ∧ (s.get! (p + 2)).toNat = 189) := by
    rw [Lib.extract_to_end]
    rw [Bool.eq_iff_iff, decide_eq_true_eq]
    exact prefix_iff s p
  refine size_core _ _ _ (decide (3 ≤ s.size - p ∧ (s.get! p).toNat = 239 ∧ (s.get! (p + 1)).toNat = 191 ∧ (s.get! (p + 2)).toNat = 189)) w (fun w => ?_) (fun h => h1 (by omega)) (fun h h' => h2 (by omega) (by omega)) (fun h h' h'' => h3 (by omega) (by omega) (by omega)) (fun h => h4 (by omega)) (fun h => ?_)
  · rw [← hx]; exact Tryz.strings_HasPrefix _ _ w
  · rcases h5 (by omega) with ⟨a, b⟩ | ⟨a, b⟩
    · exact .inl ⟨a, decide_eq_true b⟩
    · exact .inr ⟨a, decide_eq_false b⟩

set_option maxHeartbeats 2000000 in
theorem each_any (s : ByteArray) (g : Nat) (lb : Array Value) (eg : ∀ args w, (callFunc g args).run Tryz.prog w = .ok (.enter g args) w) (w : World) (_hs : s.size ≤ 9223372036854775807)
    (go : List Rn → Bool) (I : List Rn → World → Prop)
    (h0 : I [] (w.alloc (.stringIter s 0)))
    (hit : ∀ done W p p', I done W → W.heap[w.heap.size]? = some (.stringIter s p) → I done (W.iterAt w.heap.size s p'))
    (hstep : ∀ done r l W, rest s 0 = done ++ r :: l → (done = [] ∨ go done = true) → I done W → w.heap.size < W.heap.size →
      Calls Tryz.prog g (#[encR r] ++ lb) W fun e W' => e = .returned (.bool (go (done ++ [r]))) ∧ I (done ++ [r]) W' ∧ W'.heap[w.heap.size]? = W.heap[w.heap.size]?) :
    Calls Tryz.prog 115 #[.string s, .func (.func g) #[] lb] w fun e w' => e = .returned (.tuple #[]) ∧ I (runTo go [] (rest s 0)) w' := by
  go_enter Tryz.func115, Tryz.ntmps115
  go_wp2
  go_loopg [] (s.size + 1) (fun gf wx => ∃ (pos : Nat) (done : List Rn), wx.heap[w.heap.size]? = some (.stringIter s pos) ∧ rest s 0 = done ++ rest s pos ∧ I done wx ∧ Hid (runTo go done (rest s pos) = runTo go [] (rest s 0)) ∧ Hid (done = [] ∨ go done = true) ∧ s.size < pos + gf)
  case atStart => exact ⟨0, [], World.iter_heap w s 0, rfl, h0, rfl, .inl rfl, by omega⟩
  case round =>
    obtain ⟨pos, done, hi, hd, hI, hR, hG, hfu⟩ := hrel
    by_cases hps : pos < s.size
    · obtain ⟨g', rfl⟩ : ∃ g', gk = g' + 1 := ⟨gk - 1, by omega⟩
      have hnx : ∀ ty, (Instr.next (.pointer (some ⟨w.heap.size, 0, none⟩)) true ty).run Tryz.prog wr = .ok (.tuple #[.bool true, .int .i64 pos, .int .i32 (rn s pos)]) (wr.iterAt w.heap.size s (pos + wd s pos)) := fun ty => Lib.run_next_any_at wr w.heap.size s pos ty hi hps
      have hwp := wd_pos s pos
      have hwl := wd_le s pos hps
      have hrl := rn_le s pos
      have hi2 := Lib.iterAt_heap wr w.heap.size s pos (pos + wd s pos) hi
      have hI2 := hit done wr pos (pos + wd s pos) hI hi
      have hre := rest_at s pos hps
      rw [hre] at hd
      have hst := hstep done _ _ (wr.iterAt w.heap.size s (pos + wd s pos)) hd hG.out hI2 (Array.getElem?_eq_some_iff.1 hi2).1
      have hsz := size_any s pos
      obtain ⟨W, hW⟩ : ∃ W, wr.iterAt w.heap.size s (pos + wd s pos) = W := ⟨_, rfl⟩
      rw [hW] at hnx hi2 hI2 hst
      have HR : Hid (runTo go done ((pos, wd s pos, rn s pos) :: rest s (pos + wd s pos)) = runTo go [] (rest s 0)) := by rw [← hre]; exact hR.out
      have HD : Hid (rest s 0 = done ++ [(pos, wd s pos, rn s pos)] ++ rest s (pos + wd s pos)) := by show _ = _; rw [hd]; simp
      clear hstep hit h0 hd hre hR hW hI hi hI2 hG
      unfold encR at hst
      cases hgo : go (done ++ [(pos, wd s pos, rn s pos)])
      · have HR2 : Hid (done ++ [(pos, wd s pos, rn s pos)] = runTo go [] (rest s 0)) := by have := HR.out; rw [runTo, hgo] at this; exact this
        go_wp2_with (first
          | (go_at_call 122; refine (hsz _).mono ?_; rintro e w' ⟨rfl, rfl⟩)
          | (go_at_fn g; refine hst.mono ?_; rintro e W' ⟨rfl, hI3, hk3⟩))
        exact bodyPost_ret (v := .tuple #[]) (by simp [results, Tryz.results115, go_sem]) rfl ⟨rfl, by rw [← HR2.out]; assumption⟩
      · have HR2 : Hid (runTo go (done ++ [(pos, wd s pos, rn s pos)]) (rest s (pos + wd s pos)) = runTo go [] (rest s 0)) := by have := HR.out; rw [runTo, hgo] at this; exact this
        go_wp2_with (first
          | (go_at_call 122; refine (hsz _).mono ?_; rintro e w' ⟨rfl, rfl⟩)
          | (go_at_fn g; refine hst.mono ?_; rintro e W' ⟨rfl, hI3, hk3⟩))
        go_roundg g'
        case measure => omega
        case rel => exact ⟨pos + wd s pos, _, by rw [hk3]; exact hi2, HD.out, by assumption, HR2, .inr hgo, by omega⟩
    · have hnx : ∀ ty, (Instr.next (.pointer (some ⟨w.heap.size, 0, none⟩)) true ty).run Tryz.prog wr = .ok (.tuple #[.bool false]) wr := fun ty => Lib.run_next_end_at wr w.heap.size s pos ty hi hps
      have hre := rest_end s pos hps
      rw [hre] at hR
      have HR : Hid (done = runTo go [] (rest s 0)) := hR.out
      clear hstep hit h0 hd hre hR hG
      go_wp2
      go_end0
      exact ⟨rfl, by rw [← HR.out]; assumption⟩

end Go.Proofs.YtlgkfhipobdcfabGreatDoor

/- Cells of a call's own beside a text's iterator: how they stand through stores, new blocks and the iterator's steps. -/
namespace Go.Proofs.YtlgkfhipobdcfabGreatDoor
open Go.RowKit

/-- The listed cells (block, place, value) are there, may be written, and lie from B on, beside block k; below B nothing has turned. -/
structure Own (B k : Nat) (w W : World) (cs : List (Nat × Nat × Value)) : Prop where
  cell : ∀ c ∈ cs, W.cell? ⟨c.1, c.2.1, none⟩ = some c.2.2
  free : ∀ c ∈ cs, W.frozen? ⟨c.1, c.2.1, none⟩ = false
  low : ∀ c ∈ cs, B ≤ c.1 ∧ c.1 ≠ k ∧ c.1 < W.heap.size
  below : Below B w W
  iter : B ≤ k ∧ k < W.heap.size

theorem Own.iterAt {B k : Nat} {w W : World} {cs : List (Nat × Nat × Value)} (h : Own B k w W cs) (s : ByteArray) (p : Nat) : Own B k w (W.iterAt k s p) cs where
  cell c hc := (World.cell?_of_block (Lib.iterAt_other W k c.1 s p (h.low c hc).2.1)).trans (h.cell c hc)
  free c hc := (World.frozen?_of_block (Lib.iterAt_other W k c.1 s p (h.low c hc).2.1)).trans (h.free c hc)
  low c hc := by rw [Lib.iterAt_size]; exact h.low c hc
  below := Lib.below_iterAt h.below h.iter.1 s p
  iter := by rw [Lib.iterAt_size]; exact h.iter

theorem Own.alloc {B k : Nat} {w W : World} {cs : List (Nat × Nat × Value)} (h : Own B k w W cs) (x : Obj) : Own B k w (W.alloc x) cs where
  cell c hc := (((Below.refl _ W).alloc (Nat.le_refl _) x).cell (h.low c hc).2.2).trans (h.cell c hc)
  free c hc := (((Below.refl _ W).alloc (Nat.le_refl _) x).frozen (h.low c hc).2.2).trans (h.free c hc)
  low c hc := by have := h.low c hc; simp; omega
  below := h.below.alloc (by have := h.iter; omega) x
  iter := by have := h.iter; simp; omega

theorem Own.set {B k : Nat} {w W : World} {cs : List (Nat × Nat × Value)} (h : Own B k w W cs) (b o : Nat) {v : Value} (hm : (b, o, v) ∈ cs) (v' : Value) :
    Own B k w (W.setCell ⟨b, o, none⟩ v') (cs.map fun c => if c.1 = b ∧ c.2.1 = o then (c.1, c.2.1, v') else c) where
  cell c hc := by
    obtain ⟨d, hd, rfl⟩ := List.mem_map.1 hc
    by_cases e : d.1 = b ∧ d.2.1 = o
    · rw [if_pos e]
      have := h.cell _ hm
      simp only [e.1, e.2]
      exact World.cell?_setCell_same _ _ _ this
    · rw [if_neg e]
      rw [World.cell?_setCell_other _ _ _ _ (fun q => e (by injection q with q1 q2; exact ⟨q1.symm, q2.symm⟩))]
      exact h.cell d hd
  free c hc := by
    obtain ⟨d, hd, rfl⟩ := List.mem_map.1 hc
    rw [World.frozen?_setCell]
    by_cases e : d.1 = b ∧ d.2.1 = o
    · rw [if_pos e]; exact h.free d hd
    · rw [if_neg e]; exact h.free d hd
  low c hc := by
    obtain ⟨d, hd, rfl⟩ := List.mem_map.1 hc
    have hz : (W.setCell ⟨b, o, none⟩ v').heap.size = W.heap.size := by simp [World.setCell]
    rw [hz]
    by_cases e : d.1 = b ∧ d.2.1 = o
    · rw [if_pos e]; exact h.low d hd
    · rw [if_neg e]; exact h.low d hd
  below := h.below.setCell (h.low _ hm).1 v'
  iter := by
    have hz : (W.setCell ⟨b, o, none⟩ v').heap.size = W.heap.size := by simp [World.setCell]
    rw [hz]; exact h.iter

/-- The iterator's block stays. -/
theorem iter_set {W : World} {b o k : Nat} (h : b ≠ k) (v : Value) : (W.setCell ⟨b, o, none⟩ v).heap[k]? = W.heap[k]? := Below.heap_setCell W _ v k (fun e => h e.symm)
theorem iter_alloc {W : World} {k : Nat} (h : k < W.heap.size) (x : Obj) : (W.alloc x).heap[k]? = W.heap[k]? := Below.heap_alloc W x k h
theorem size_set (W : World) (a : Addr) (v : Value) : (W.setCell a v).heap.size = W.heap.size := by simp [World.setCell]

/-- Cells of a block that has just been laid. -/
theorem new_cell (W : World) (l : List Value) (t : TypeId) (o : Nat) (v : Value) (h : l[o]? = some v) : (W.alloc (.cells l.toArray t)).cell? ⟨W.heap.size, o, none⟩ = some v ∧ (W.alloc (.cells l.toArray t)).frozen? ⟨W.heap.size, o, none⟩ = false := by
  have hh : (W.alloc (.cells l.toArray t)).heap[W.heap.size]? = some (.cells l.toArray t) := by
    show (W.heap.push _)[W.heap.size]? = _
    simp
  constructor
  · unfold World.cell?; rw [hh]; simp [h]
  · unfold World.frozen?; rw [hh]; simp

end Go.Proofs.YtlgkfhipobdcfabGreatDoor

/- The walks of Count, Bad and Decode. -/
namespace Go.Proofs.YtlgkfhipobdcfabGreatDoor
open Go.RowKit

theorem rest_len (s : ByteArray) (p : Nat) : (rest s p).length ≤ s.size - p := by
  by_cases h : p < s.size
  · rw [rest_at s p h]
    have h1 := wd_pos s p
    have h2 := rest_len s (p + wd s p)
    have h3 := wd_le s p h
    simp only [List.length_cons]
    omega
  · rw [rest_end s p h]; simp
termination_by s.size - p
decreasing_by have := wd_pos s p; omega

theorem runTo_all (l : List Rn) : ∀ done, runTo (fun _ => true) done l = done ++ l := by
  induction l with
  | nil => intro done; simp [runTo]
  | cons r l ih => intro done; simp [runTo, ih]

theorem alloc_cell {W : World} {b : Nat} (h : b < W.heap.size) {o : Nat} {v : Option Value} (hc : W.cell? ⟨b, o, none⟩ = v) : ∀ x, (W.alloc x).cell? ⟨b, o, none⟩ = v := fun x => (((Below.refl _ W).alloc (Nat.le_refl _) x).cell h).trans hc
theorem alloc_frozen {W : World} {b : Nat} (h : b < W.heap.size) {o : Nat} {v : Bool} (hc : W.frozen? ⟨b, o, none⟩ = v) : ∀ x, (W.alloc x).frozen? ⟨b, o, none⟩ = v := fun x => (((Below.refl _ W).alloc (Nat.le_refl _) x).frozen h).trans hc

/-- One cell of the call's own and the iterator behind it: the start. -/
theorem own_start (w : World) (t : TypeId) (v : Value) (s : ByteArray) : Own w.heap.size (w.heap.size + 1) w ((w.alloc (.cells #[v] t)).alloc (.stringIter s 0)) [(w.heap.size, 0, v)] where
  cell c hc := by
    simp only [List.mem_singleton] at hc; subst hc
    exact alloc_cell (by simp) (new_cell w [v] t 0 v rfl).1 _
  free c hc := by
    simp only [List.mem_singleton] at hc; subst hc
    exact alloc_frozen (by simp) (new_cell w [v] t 0 v rfl).2 _
  low c hc := by simp only [List.mem_singleton] at hc; subst hc; simp; omega
  below := ((Below.refl _ _).alloc (Nat.le_refl _) _).alloc (by simp) _
  iter := by simp

/-! ### Bad -/
theorem ret_bool {a b : Bool} (h : a = b) : Ending.returned (.bool a) = .returned (.bool b) := by rw [h]
def isBad (r : Rn) : Bool := decide (r.2.2 = 65533) && decide (r.2.1 = 1)
def badOf (l : List Rn) : Int := match l.find? isBad with | some r => r.1 | none => -1

theorem badOf_snoc (l : List Rn) (r : Rn) (h : badOf l < 0) : badOf (l ++ [r]) = if isBad r then (r.1 : Int) else -1 := by
  have hn : l.find? isBad = none := by
    unfold badOf at h
    cases hf : l.find? isBad with
    | none => rfl
    | some r => rw [hf] at h; simp at h; omega
  unfold badOf
  rw [List.find?_append, hn]
  simp only [Option.none_or, List.find?_cons, List.find?_nil]
  cases isBad r <;> rfl

theorem badOf_runTo (l : List Rn) : ∀ done, badOf done < 0 → badOf (runTo (fun d => decide (badOf d < 0)) done l) = badOf (done ++ l) := by
  induction l with
  | nil => intro done _; simp [runTo]
  | cons r l ih =>
    intro done h
    by_cases hb : badOf (done ++ [r]) < 0
    · simp only [runTo, hb, decide_true, if_true]
      rw [ih _ hb]; simp
    · simp only [runTo, hb, decide_false, Bool.false_eq_true, if_false]
      have hs := badOf_snoc done r h
      have hr : isBad r = true := by
        cases hr : isBad r
        · rw [hr] at hs; simp at hs; omega
        · rfl
      have hn : done.find? isBad = none := by
        unfold badOf at h
        cases hf : done.find? isBad with
        | none => rfl
        | some r => rw [hf] at h; simp at h; omega
      rw [hs, hr]
      unfold badOf
      rw [List.find?_append, hn]
      simp [hr]

end Go.Proofs.YtlgkfhipobdcfabGreatDoor

/- The walk of List: a new slice of the text's runes. -/
namespace Go.Proofs.YtlgkfhipobdcfabGreatDoor
open Go.RowKit

/-- The cells of runes in a slice. -/
def cellsOf (l : List Rn) : List Value := l.flatMap fun r => [.int .i64 r.1, .int .i64 r.2.1, .int .i64 r.2.2]
theorem cellsOf_snoc (l : List Rn) (r : Rn) : cellsOf (l ++ [r]) = cellsOf l ++ [.int .i64 r.1, .int .i64 r.2.1, .int .i64 r.2.2] := by simp [cellsOf]

theorem slice_shape {w : World} {base : Nat} {e : TypeId} {size : Nat} {v : Value} {n : Nat} {xs : List Value} (h : w.ownsRow base e size v n xs) : ∃ a c, v = .slice a n c := by
  rcases h.2 with ⟨rfl, rfl⟩ | ⟨g, cap, cur, rfl, _⟩
  · exact ⟨_, _, rfl⟩
  · exact ⟨_, _, rfl⟩

theorem Tryz.info112 : (Tryz.prog.info? 112).map (fun i => (i.zero, i.size, i.bytes)) = some (some (.agg #[.int .i64 0, .int .i64 0, .int .i64 0]), 3, 24) := by kernel_rfl

theorem own_base {w : World} {base b' : Nat} {e : TypeId} {size : Nat} {v : Value} {n : Nat} {xs : List Value} (h : w.ownsRow base e size v n xs) (hb : b' ≤ base) : w.ownsRow b' e size v n xs := by
  refine ⟨h.1, ?_⟩
  rcases h.2 with h | ⟨g, cap, cur, h1, h2, r⟩
  · exact .inl h
  · exact .inr ⟨g, cap, cur, h1, by omega, r⟩

/-- What the going through keeps: the slice so far. -/
def ListAt (w : World) (done : List Rn) (W : World) : Prop :=
  (∃ v, W.cell? ⟨w.heap.size, 0, none⟩ = some v ∧ W.ownsRow (w.heap.size + 2) 112 3 v done.length (cellsOf done)) ∧ W.frozen? ⟨w.heap.size, 0, none⟩ = false ∧ Below w.heap.size w W ∧ w.heap.size + 2 ≤ W.heap.size

theorem list_size (s : ByteArray) (h : s.size ≤ 1048576) (done : List Rn) (r : Rn) (l : List Rn) (he : rest s 0 = done ++ r :: l) : (done.length + 1) * 24 ≤ 140737488355328 := by
  have h1 := rest_len s 0
  have h2 := congrArg List.length he
  simp only [List.length_append, List.length_cons] at h2
  omega

end Go.Proofs.YtlgkfhipobdcfabGreatDoor

/- The walks of Encode, Letter and Digit, and of 'fixed', the answers that the document fixes. -/
namespace Go.Proofs.YtlgkfhipobdcfabGreatDoor
open Go.RowKit

/-- May it be encoded? -/
def encB (r : Int) : Bool := decide (0 ≤ r ∧ r ≤ 1114111 ∧ (r < 55296 ∨ 57343 < r))

set_option maxHeartbeats 400000 in
theorem encodes_any (r : Int) (w : World) : Calls Tryz.prog 70 #[.int .i64 r] w fun e w' => e = .returned (.bool (encB r)) ∧ w' = w := by
  go_enter Tryz.func70, Tryz.ntmps70
  go_wp2
  all_goals (go_ret; exact ⟨ret_bool (by first | (simp [encB]; done) | (simp [encB]; omega) | (rw [Bool.eq_iff_iff]; simp [encB]; omega)), rfl⟩)
def encS (r : Int) : ByteArray := if encB r = true then Utf8.encode r else ⟨#[]⟩
def encE (r : Int) : Int := if encB r = true then 0 else 3
theorem ret_si {a b : ByteArray} {c d : Int} (h : a = b) (h' : c = d) : Ending.returned (.tuple #[.string a, .int .i64 c]) = .returned (.tuple #[.string b, .int .i64 d]) := by rw [h, h']

set_option maxHeartbeats 400000 in
theorem encode_any (r : Int) (w : World) : Calls Tryz.prog 108 #[.int .i64 r] w fun e w' => e = .returned (.tuple #[.string (encS r), .int .i64 (encE r)]) ∧ w' = w := by
  cases h : encB r
  · have h1 : encS r = ⟨#[]⟩ := by simp [encS, h]
    have h2 : encE r = 3 := by simp [encE, h]
    rw [h1, h2]
    clear h1 h2
    go_enter Tryz.func108, Tryz.ntmps108
    go_wp2_with (go_at_call 70; refine (encodes_any _ _).mono ?_; rintro e w' ⟨rfl, rfl⟩)
    go_ret2
    exact ⟨rfl, rfl⟩
  · have h1 : encS r = Utf8.encode r := by simp [encS, h]
    have h2 : encE r = 0 := by simp [encE, h]
    rw [h1, h2]
    clear h1 h2
    have hb : 0 ≤ r ∧ r ≤ 1114111 := by simp [encB] at h; omega
    obtain ⟨hb0, hb1⟩ := hb
    go_enter Tryz.func108, Tryz.ntmps108
    go_wp2_with (go_at_call 70; refine (encodes_any _ _).mono ?_; rintro e w' ⟨rfl, rfl⟩)
    go_ret2
    exact ⟨rfl, rfl⟩

/-- A row of the call's own that is not empty, cell by cell. -/
theorem row_cells {w : World} {base : Nat} {e : TypeId} {size : Nat} {v : Value} {n : Nat} {xs : List Value} (h : w.ownsRow base e size v n xs) (hn : n ≠ 0) :
    ∃ g cap, v = .slice (some ⟨g, 0, none⟩) n cap ∧ base ≤ g ∧ g < w.heap.size ∧ n ≤ cap ∧ ∀ j u, xs[j]? = some u → w.cell? ⟨g, j, none⟩ = some u := by
  have hlt := h.lt
  have hcs := fun g => h.cells (g := g)
  rcases h.2 with ⟨_, rfl⟩ | ⟨g, cap, cur, rfl, h2, _, h4, _⟩
  · exact absurd rfl hn
  · refine ⟨g, cap, rfl, h2, (hlt g rfl).2, h4, fun j u hj => ?_⟩
    have := hcs g rfl j u hj
    by_cases hj0 : j = 0
    · subst hj0; simpa [Addr.add] using this
    · simpa [Addr.add, hj0] using this

theorem rest_fix : rest { data := #[97, 195, 169, 255] } 0 = [(0, 1, 97), (1, 2, 233), (3, 1, 65533)] := by
  rw [rest_at _ _ (by decide), show wd { data := #[97, 195, 169, 255] } 0 = 1 from rfl, show rn { data := #[97, 195, 169, 255] } 0 = 97 from rfl]
  rw [rest_at _ _ (by decide), show wd { data := #[97, 195, 169, 255] } (0 + 1) = 2 from rfl, show rn { data := #[97, 195, 169, 255] } (0 + 1) = 233 from rfl]
  rw [rest_at _ _ (by decide), show wd { data := #[97, 195, 169, 255] } (0 + 1 + 2) = 1 from rfl, show rn { data := #[97, 195, 169, 255] } (0 + 1 + 2) = 65533 from rfl]
  rw [rest_end _ _ (by decide)]
theorem bad_fix : badOf (rest { data := #[195, 169, 255] } 0) = 2 := by
  rw [rest_at _ _ (by decide), show wd { data := #[195, 169, 255] } 0 = 2 from rfl, show rn { data := #[195, 169, 255] } 0 = 233 from rfl]
  rw [rest_at _ _ (by decide), show wd { data := #[195, 169, 255] } (0 + 2) = 1 from rfl, show rn { data := #[195, 169, 255] } (0 + 2) = 65533 from rfl]
  rw [rest_end _ _ (by decide)]
  rfl
theorem enc_fix : encS 8364 = { data := #[226, 130, 172] } ∧ encE 8364 = 0 := ⟨rfl, rfl⟩

/-! ### Letter and Digit -/
def letB (r : Int) : Bool := decide ((97 ≤ r ∧ r ≤ 122) ∨ (65 ≤ r ∧ r ≤ 90) ∨ r = 95 ∨ (128 ≤ r ∧ r ≠ 65533 ∧ encB r = true))
def digB (r : Int) : Bool := decide (48 ≤ r ∧ r ≤ 57)
set_option maxHeartbeats 400000 in
theorem digit_any (r : Int) (w : World) : Calls Tryz.prog 47 #[.int .i64 r] w fun e w' => e = .returned (.bool (digB r)) ∧ w' = w := by
  go_enter Tryz.func47, Tryz.ntmps47
  go_wp2
  all_goals (go_ret; exact ⟨ret_bool (by first | (simp [digB]; done) | (simp [digB]; omega) | (rw [Bool.eq_iff_iff]; simp [digB]; omega)), rfl⟩)
set_option maxHeartbeats 400000 in
theorem letter_any (r : Int) (w : World) : Calls Tryz.prog 45 #[.int .i64 r] w fun e w' => e = .returned (.bool (letB r)) ∧ w' = w := by
  go_enter Tryz.func45, Tryz.ntmps45
  go_wp2_with (go_at_call 70; refine (encodes_any _ _).mono ?_; rintro e w' ⟨rfl, rfl⟩)
  all_goals (go_ret; refine ⟨ret_bool ?_, rfl⟩)
  all_goals first | (simp [letB]; done) | (simp [letB]; omega) | (rw [Bool.eq_iff_iff]; simp [letB]; omega) | (cases he : encB r <;> (rw [Bool.eq_iff_iff]; simp [letB, he]; try omega))
end Go.Proofs.YtlgkfhipobdcfabGreatDoor
