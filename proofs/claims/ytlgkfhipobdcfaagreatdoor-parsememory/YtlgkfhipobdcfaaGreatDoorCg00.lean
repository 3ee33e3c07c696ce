import Derived.Test.YtlgkfhipobdcfaaGreatDoorRows
import Derived.WalkKit
import Derived.ProofKit
import Derived.LaidMore
import Derived.OpenShut
import Derived.Stop.Joined
import Derived.Stop.LaidErr
import Derived.Lib.LaidTab
import Derived.Lib.ItoaNum
import Derived.Lib.DecodeN
import Derived.Lib.IndexBytes
import Derived.Shelf.Strings.Builder1
import Derived.Shelf.Small.Strs
import Derived.Shelf.LaysM
import Derived.Shelf.Strconv.Clone
import Derived.Shelf.Strings.Search1
import Derived.Shelf.Strings.Prefix
import Derived.Test.YtlgkfhipobdcfaaGreatDoorProg
import Derived.WalkSpells
import Derived.WalkLawsBesides
import Derived.WalkSmall
import Derived.Lib.OthersKept
import Derived.Deep.LoopGhost
namespace Go.Proofs.YtlgkfhipobdcfaaGreatDoor
open Go.ChangeShapes Go.WideShapes Go.ChangeAt Go.RowKit
theorem own : ownKnob Tryz.prog.godebug = none:=by kernel_rfl
def laid3 : List (String × DataW Unit) := [("math/bits.deBruijn32tab", Rows.laid_math_bits_deBruijn32tab), ("math/bits.deBruijn64tab", Rows.laid_math_bits_deBruijn64tab), ("internal/strconv.uint64pow10", Rows.laid_internal_strconv_uint64pow10)]
theorem door_met (os : Os) (args : Array Value) : laidMetH Tryz.prog laid3 ((World.doorLaid Tryz.prog 400 os).forCall (fun _ _=>0) ⟨#[],args,[]⟩).memory :=
  laidMetH_of_parts3 (fuel:=8) (laidMet_of_run' 8 (by kernel_rfl) (by kernel_rfl)) (by kernel_rfl) (by kernel_rfl)
theorem gPow : Tryz.prog.globalNamed "internal/strconv.uint64pow10" = some 1 := by kernel_rfl
theorem tPow : (Tryz.prog.globals[1]?).map (·.type) = some 163:=by kernel_rfl
theorem tab_of {W : World} (h : laidMetH Tryz.prog laid3 W) : Lib.TabIs Tryz.prog W "internal/strconv.uint64pow10" .u64 Lib.pow10Tab := by
  rw [MakeChecks.laidMetH_plain _ _ _ (by kernel_rfl)] at h
  exact Lib.tabIs_of_head gPow tPow Tryz.underlying163 Tryz.underlying140 (by kernel_rfl) (by kernel_rfl) (rest := []) (show laidMet Tryz.prog [("internal/strconv.uint64pow10", Lib.tabData .u64 Lib.pow10Tab)] W from h.tail.tail)
#print axioms tab_of
end Go.Proofs.YtlgkfhipobdcfaaGreatDoor


namespace Go.Proofs.YtlgkfhipobdcfaaGreatDoor
def wd (s : ByteArray) (p : Nat) : Nat:=(Utf8.decode s p).2
def rn (s : ByteArray) (p : Nat) : Nat:=(Utf8.decode s p).1
theorem byte_lt (s : ByteArray) (i : Nat) : (s.get! i).toNat < 256:=(s.get! i).toNat_lt
theorem decodeN_shape (n b0 b1 b2 b3 : Nat) (h0 : b0 < 256) (h1 : b1 < 256) :
    ((Lib.decodeN n b0 b1 b2 b3).1 < 128 → (Lib.decodeN n b0 b1 b2 b3).2 = 1) ∧
    (128 ≤ (Lib.decodeN n b0 b1 b2 b3).1 → (Lib.decodeN n b0 b1 b2 b3).1 < 2048 → (Lib.decodeN n b0 b1 b2 b3).2 = 2) ∧
    (2048 ≤ (Lib.decodeN n b0 b1 b2 b3).1 → (Lib.decodeN n b0 b1 b2 b3).1 < 65536 → (Lib.decodeN n b0 b1 b2 b3).1 ≠ 65533 → (Lib.decodeN n b0 b1 b2 b3).2 = 3) ∧
    (65536 ≤ (Lib.decodeN n b0 b1 b2 b3).1 → (Lib.decodeN n b0 b1 b2 b3).2 = 4) ∧
    ((Lib.decodeN n b0 b1 b2 b3).1 = 65533 → ((Lib.decodeN n b0 b1 b2 b3).2 = 3 ∧ 3 ≤ n ∧ b0 = 239 ∧ b1 = 191 ∧ b2 = 189) ∨ ((Lib.decodeN n b0 b1 b2 b3).2 = 1 ∧ ¬ (3 ≤ n ∧ b0 = 239 ∧ b1 = 191 ∧ b2 = 189))) ∧
    (Lib.decodeN n b0 b1 b2 b3).1 ≤ 1114111 ∧ 1 ≤ (Lib.decodeN n b0 b1 b2 b3).2 ∧ ((Lib.decodeN n b0 b1 b2 b3).2 ≤ n ∨ n = 0):=by
  unfold Lib.decodeN
  repeat' split
  all_goals (refine ⟨?_,?_,?_,?_,?_,?_,?_,?_⟩ <;> simp only <;> (try intros) <;> first | omega | trivial | (simp;omega))
theorem shape_at (s : ByteArray) (p : Nat) :
    (rn s p < 128 → wd s p = 1) ∧ (128 ≤ rn s p → rn s p < 2048 → wd s p = 2) ∧ (2048 ≤ rn s p → rn s p < 65536 → rn s p ≠ 65533 → wd s p = 3) ∧ (65536 ≤ rn s p → wd s p = 4) ∧
    (rn s p = 65533 → (wd s p = 3 ∧ 3 ≤ s.size - p ∧ (s.get! p).toNat = 239 ∧ (s.get! (p + 1)).toNat = 191 ∧ (s.get! (p + 2)).toNat = 189) ∨
      (wd s p = 1 ∧ ¬ (3 ≤ s.size - p ∧ (s.get! p).toNat = 239 ∧ (s.get! (p + 1)).toNat = 191 ∧ (s.get! (p + 2)).toNat = 189))) ∧
    rn s p ≤ 1114111 ∧ 1 ≤ wd s p ∧ (wd s p ≤ s.size - p ∨ s.size - p = 0):=by
  unfold rn wd
  rw [Lib.decode_at]
  exact decodeN_shape _ _ _ _ _ (byte_lt s p) (byte_lt s (p + 1))
theorem wd_pos (s : ByteArray) (p : Nat) : 1 ≤ wd s p:=(shape_at s p).2.2.2.2.2.2.1
theorem wd_le (s : ByteArray) (p : Nat) (h : p < s.size) : p + wd s p ≤ s.size:=by have:=(shape_at s p).2.2.2.2.2.2.2;omega
theorem rn_le (s : ByteArray) (p : Nat) : rn s p ≤ 1114111:=(shape_at s p).2.2.2.2.2.1
abbrev Rn:=Nat × Nat × Nat
def rest (s : ByteArray) (p : Nat) : List Rn:=if _h : p < s.size then (p,wd s p,rn s p) :: rest s (p + wd s p) else []
termination_by s.size - p
decreasing_by have:=wd_pos s p;omega
theorem rest_at (s : ByteArray) (p : Nat) (h : p < s.size) : rest s p = (p,wd s p,rn s p) :: rest s (p + wd s p):=by rw [rest];simp [h]
theorem rest_end (s : ByteArray) (p : Nat) (h : ¬ p < s.size) : rest s p = []:=by rw [rest];simp [h]
def runTo (go : List Rn → Bool) : List Rn → List Rn → List Rn
  | done,[]=>done
  | done,r :: l=>if go (done ++ [r]) then runTo go (done ++ [r]) l else done ++ [r]
theorem get_data (s : ByteArray) (i : Nat) : s.get! i = s.data.toList.getD i 0:=by
  obtain ⟨⟨l⟩⟩:=s
  simp [ByteArray.get!,getElem!_def,List.getD]
  cases l[i]? <;> rfl
theorem prefix_iff (s : ByteArray) (p : Nat) : ([239,191,189] : List UInt8).isPrefixOf (s.data.toList.drop p) = true ↔ (3 ≤ s.size - p ∧ (s.get! p).toNat = 239 ∧ (s.get! (p + 1)).toNat = 191 ∧ (s.get! (p + 2)).toNat = 189):=by
  have hsz : s.size - p = (s.data.toList.drop p).length:=by simp
  have e0 : s.get! p = (s.data.toList.drop p).getD 0 0:=by rw [get_data];simp [List.getD,List.getElem?_drop]
  have e1 : s.get! (p + 1) = (s.data.toList.drop p).getD 1 0:=by rw [get_data];simp [List.getD,List.getElem?_drop]
  have e2 : s.get! (p + 2) = (s.data.toList.drop p).getD 2 0:=by rw [get_data];simp [List.getD,List.getElem?_drop]
  rw [hsz,e0,e1,e2]
  generalize s.data.toList.drop p = l
  have inj : ∀ (x : UInt8) (n : Nat),n < 256 → (x.toNat = n ↔ UInt8.ofNat n = x):=fun x n hn=>⟨fun h=>by apply UInt8.toNat_inj.1;simp [h];omega,fun h=>by subst h;simp;omega⟩
  match l with
  | []=>simp
  | [a]=>simp
  | [a,b]=>simp
  | a :: b :: c :: t =>
    simp only [List.isPrefixOf,Bool.and_true,Bool.and_eq_true,beq_iff_eq,List.length_cons,List.getD_cons_zero,List.getD_cons_succ]
    rw [inj a 239 (by omega),inj b 191 (by omega),inj c 189 (by omega)]
    constructor
    · rintro ⟨h0,h1,h2⟩;exact ⟨by omega,h0,h1,h2⟩
    · rintro ⟨_,h0,h1,h2⟩;exact ⟨h0,h1,h2⟩
end Go.Proofs.YtlgkfhipobdcfaaGreatDoor


namespace Go.Proofs
open Go.Shelf
def Tryz.lays137_ren : Go.Shelf.Ren:=⟨fun | 137=>138 | 217=>151 | 266=>158 | n=>n,fun | 9=>9 | 5=>5 | 3=>3 | n=>n,fun | n=>n⟩
theorem Tryz.lays137 : Go.Proofs.Lays.n137 Tryz.prog Tryz.lays137_ren:={
  mixed:=by kernel_rfl
  f137:=Tryz.func138.trans (congrArg some (by kernel_rfl))
  f217:=Tryz.func151.trans (congrArg some (by kernel_rfl))
  f266:=Tryz.func158.trans (congrArg some (by kernel_rfl))
  t3:=Tryz.underlying3
  a3:=Tryz.isAgg3
  z3:=Tryz.sizeOf3
  v3:=Tryz.zeroValue3
  t5:=Tryz.underlying5
  a5:=Tryz.isAgg5
  z5:=Tryz.sizeOf5
  v5:=Tryz.zeroValue5
  t9:=Tryz.underlying9
  a9:=Tryz.isAgg9
  z9:=Tryz.sizeOf9
  v9:=Tryz.zeroValue9 }
open Go.RowKit in
theorem Tryz.strings_IndexByte (s : ByteArray) (c : Int) (w : World) :
    Calls Tryz.prog 138 #[.string s,.int .u8 c] w fun e w'=>e = .returned (.int .i64 (Lib.indexByte s.data.toList c.toNat.toUInt8)) ∧ w' = w:=Any.strings_IndexByte Tryz.lays137 s c w
def Tryz.laysM316_ren : Go.Shelf.Ren:=⟨fun | 316=>126 | n=>n,fun | 9=>9 | 3=>3 | 4=>4 | 37=>72 | 0=>0 | 127=>116 | 5=>5 | n=>n,fun | n=>n⟩
theorem Tryz.laysM316 : Go.Proofs.LaysM.n316 Tryz.prog Tryz.laysM316_ren:={
  mixed:=by kernel_rfl
  f316:=Tryz.func126.trans (congrArg some (by kernel_rfl))
  t0:=Tryz.underlying0
  a0:=Tryz.isAgg0
  z0:=Tryz.sizeOf0
  v0:=Tryz.zeroValue0
  t3:=Tryz.underlying3
  a3:=Tryz.isAgg3
  z3:=Tryz.sizeOf3
  v3:=Tryz.zeroValue3
  t4:=Tryz.underlying4
  a4:=Tryz.isAgg4
  z4:=Tryz.sizeOf4
  v4:=Tryz.zeroValue4
  t9:=Tryz.underlying9
  a9:=Tryz.isAgg9
  z9:=Tryz.sizeOf9
  v9:=Tryz.zeroValue9
  t37:=Tryz.underlying72
  a37:=Tryz.isAgg72
  z37:=Tryz.sizeOf72
  v37:=Tryz.zeroValue72
  t127:=Tryz.underlying116
  a127:=Tryz.isAgg116
  z127:=Tryz.sizeOf116
  v127:=Tryz.zeroValue116
  t5:=Tryz.underlying5
  a5:=Tryz.isAgg5
  z5:=Tryz.sizeOf5
  v5:=Tryz.zeroValue5
  i0:=by kernel_rfl
  i3:=by kernel_rfl
  i4:=by kernel_rfl
  i5:=by kernel_rfl
  i9:=by kernel_rfl
  i37:=by kernel_rfl
  i127:=by kernel_rfl }
open Go.RowKit in
theorem Tryz.stringslite_Clone (s : ByteArray) (w : World) (hlim : s.size ≤ 281474976710656) :
    Calls Tryz.prog 126 #[.string s] w fun e w'=>e = .returned (.string s) ∧ Below w.heap.size w w':=Any.stringslite_Clone Tryz.laysM316 s w hlim
def Tryz.lays206_ren : Go.Shelf.Ren:=⟨fun | 206=>117 | n=>n,fun | 9=>9 | 4=>4 | 3=>3 | n=>n,fun | n=>n⟩
def Tryz.lays99_ren : Go.Shelf.Ren:=⟨fun | 99=>84 | 206=>117 | n=>n,fun | 9=>9 | 4=>4 | 3=>3 | n=>n,fun | n=>n⟩
theorem Tryz.lays99 : Go.Proofs.Lays.n99 Tryz.prog Tryz.lays99_ren:={
  mixed:=by kernel_rfl
  f99:=Tryz.func84.trans (congrArg some (by kernel_rfl))
  f206:=Tryz.func117.trans (congrArg some (by kernel_rfl))
  t3:=Tryz.underlying3
  a3:=Tryz.isAgg3
  z3:=Tryz.sizeOf3
  v3:=Tryz.zeroValue3
  t4:=Tryz.underlying4
  a4:=Tryz.isAgg4
  z4:=Tryz.sizeOf4
  v4:=Tryz.zeroValue4
  t9:=Tryz.underlying9
  a9:=Tryz.isAgg9
  z9:=Tryz.sizeOf9
  v9:=Tryz.zeroValue9 }
open Go.RowKit Go.Lib in
theorem Tryz.strings_HasPrefix (s p : ByteArray) (w : World) :
    Calls Tryz.prog 84 #[.string s,.string p] w fun e w'=>e = .returned (.bool (Lib.hasPrefix s.data.toList p.data.toList)) ∧ w' = w:=Any.strings_HasPrefix Tryz.lays99 s p w
end Go.Proofs


namespace Go.Proofs.YtlgkfhipobdcfaaGreatDoor
open Go.RowKit
theorem ret1 {a b : Int} (h : a = b) : Ending.returned (.int .i64 a) = .returned (.int .i64 b):=by rw [h]
def encR (r : Rn) : Value:=.agg #[.int .i64 r.1,.int .i64 r.2.1,.int .i64 r.2.2]
set_option maxHeartbeats 400000 in
theorem size_core (x : ByteArray) (r : Int) (d : Nat) (q : Bool) (w : World) (C : ∀ w,Calls Tryz.prog 84 #[.string x,.string { data:=#[239,191,189] }] w fun e w'=>e = .returned (.bool q) ∧ w' = w)
    (h1 : r < 128 → d = 1) (h2 : 128 ≤ r → r < 2048 → d = 2) (h3 : 2048 ≤ r → r < 65536 → r ≠ 65533 → d = 3) (h4 : 65536 ≤ r → d = 4) (h5 : r = 65533 → (d = 3 ∧ q = true) ∨ (d = 1 ∧ q = false)) :
    Calls Tryz.prog 171 #[.string x,.int .i32 r] w fun e w'=>e = .returned (.int .i64 d) ∧ w' = w:=by
  by_cases a1 : r < 128
  · obtain rfl:=h1 a1
    clear C h1 h2 h3 h4 h5
    go_enter Tryz.func171,Tryz.ntmps171
    go_wp2
    go_ret
    exact ⟨rfl,rfl⟩
  · by_cases a2 : r < 2048
    · obtain rfl:=h2 (by omega) a2
      clear C h1 h2 h3 h4 h5
      go_enter Tryz.func171,Tryz.ntmps171
      go_wp2
      go_ret
      exact ⟨rfl,rfl⟩
    · by_cases a3 : r = 65533
      · obtain ⟨rfl,rfl⟩ | ⟨rfl,rfl⟩:=h5 a3
        all_goals
          subst a3
          clear h1 h2 h3 h4 h5
          go_enter Tryz.func171,Tryz.ntmps171
          go_wp2_with (go_at_call 84;refine (C _).mono ?_;rintro e w' ⟨rfl,rfl⟩)
          go_ret
          exact ⟨rfl,rfl⟩
      · have a3' : (r == 65533) = false:=by simpa using a3
        by_cases a4 : r < 65536
        · obtain rfl:=h3 (by omega) a4 a3
          clear C h1 h2 h3 h4 h5
          go_enter Tryz.func171,Tryz.ntmps171
          go_wp2
          go_ret
          exact ⟨rfl,rfl⟩
        · obtain rfl:=h4 (by omega)
          clear C h1 h2 h3 h4 h5
          go_enter Tryz.func171,Tryz.ntmps171
          go_wp2
          go_ret
          exact ⟨rfl,rfl⟩
theorem size_any (s : ByteArray) (p : Nat) (w : World) : Calls Tryz.prog 171 #[.string (s.extract p s.size),.int .i32 (rn s p)] w fun e w'=>e = .returned (.int .i64 (wd s p)) ∧ w' = w:=by
  obtain ⟨h1,h2,h3,h4,h5,_⟩:=shape_at s p
  have hx : Lib.hasPrefix (s.extract p s.size).data.toList [239,191,189] = decide (3 ≤ s.size - p ∧ (s.get! p).toNat = 239 ∧ (s.get! (p + 1)).toNat = 191 ∧ (s.get! (p + 2)).toNat = 189):=by
    rw [Lib.extract_to_end]
    rw [Bool.eq_iff_iff,decide_eq_true_eq]
    exact prefix_iff s p
  refine size_core _ _ _ (decide (3 ≤ s.size - p ∧ (s.get! p).toNat = 239 ∧ (s.get! (p + 1)).toNat = 191 ∧ (s.get! (p + 2)).toNat = 189)) w (fun w=>?_) (fun h=>h1 (by omega)) (fun h h'=>h2 (by omega) (by omega)) (fun h h' h''=>h3 (by omega) (by omega) (by omega)) (fun h=>h4 (by omega)) (fun h=>?_)
  · rw [← hx];exact Tryz.strings_HasPrefix _ _ w
  · rcases h5 (by omega) with ⟨a,b⟩ | ⟨a,b⟩
    · exact .inl ⟨a,decide_eq_true b⟩
    · exact .inr ⟨a,decide_eq_false b⟩
set_option maxHeartbeats 2000000 in
theorem each_any (s : ByteArray) (g : Nat) (lb : Array Value) (eg : ∀ args w,(callFunc g args).run Tryz.prog w = .ok (.enter g args) w) (w : World) (_hs : s.size ≤ 9223372036854775807)
    (go : List Rn → Bool) (I : List Rn → World → Prop)
    (h0 : I [] (w.alloc (.stringIter s 0)))
    (hit : ∀ done W p p',I done W → W.heap[w.heap.size]? = some (.stringIter s p) → I done (W.iterAt w.heap.size s p'))
    (hstep : ∀ done r l W,rest s 0 = done ++ r :: l → (done = [] ∨ go done = true) → I done W → w.heap.size < W.heap.size →
      Calls Tryz.prog g (#[encR r] ++ lb) W fun e W'=>e = .returned (.bool (go (done ++ [r]))) ∧ I (done ++ [r]) W' ∧ W'.heap[w.heap.size]? = W.heap[w.heap.size]?) :
    Calls Tryz.prog 164 #[.string s,.func (.func g) #[] lb] w fun e w'=>e = .returned (.tuple #[]) ∧ I (runTo go [] (rest s 0)) w':=by
  go_enter Tryz.func164,Tryz.ntmps164
  go_wp2
  go_loopg [] (s.size + 1) (fun gf wx=>∃ (pos : Nat) (done : List Rn),wx.heap[w.heap.size]? = some (.stringIter s pos) ∧ rest s 0 = done ++ rest s pos ∧ I done wx ∧ Hid (runTo go done (rest s pos) = runTo go [] (rest s 0)) ∧ Hid (done = [] ∨ go done = true) ∧ s.size < pos + gf)
  case atStart=>exact ⟨0,[],World.iter_heap w s 0,rfl,h0,rfl,.inl rfl,by omega⟩
  case round =>
    obtain ⟨pos,done,hi,hd,hI,hR,hG,hfu⟩:=hrel
    by_cases hps : pos < s.size
    · obtain ⟨g',rfl⟩ : ∃ g',gk = g' + 1:=⟨gk - 1,by omega⟩
      have hnx : ∀ ty,(Instr.next (.pointer (some ⟨w.heap.size,0,none⟩)) true ty).run Tryz.prog wr = .ok (.tuple #[.bool true,.int .i64 pos,.int .i32 (rn s pos)]) (wr.iterAt w.heap.size s (pos + wd s pos)):=fun ty=>Lib.run_next_any_at wr w.heap.size s pos ty hi hps
      have hwp:=wd_pos s pos
      have hwl:=wd_le s pos hps
      have hrl:=rn_le s pos
      have hi2:=Lib.iterAt_heap wr w.heap.size s pos (pos + wd s pos) hi
      have hI2:=hit done wr pos (pos + wd s pos) hI hi
      have hre:=rest_at s pos hps
      rw [hre] at hd
      have hst:=hstep done _ _ (wr.iterAt w.heap.size s (pos + wd s pos)) hd hG.out hI2 (Array.getElem?_eq_some_iff.1 hi2).1
      have hsz:=size_any s pos
      obtain ⟨W,hW⟩ : ∃ W,wr.iterAt w.heap.size s (pos + wd s pos) = W:=⟨_,rfl⟩
      rw [hW] at hnx hi2 hI2 hst
      have HR : Hid (runTo go done ((pos,wd s pos,rn s pos) :: rest s (pos + wd s pos)) = runTo go [] (rest s 0)):=by rw [← hre];exact hR.out
      have HD : Hid (rest s 0 = done ++ [(pos,wd s pos,rn s pos)] ++ rest s (pos + wd s pos)):=by show _ = _;rw [hd];simp
      clear hstep hit h0 hd hre hR hW hI hi hI2 hG
      unfold encR at hst
      cases hgo : go (done ++ [(pos,wd s pos,rn s pos)])
      · have HR2 : Hid (done ++ [(pos,wd s pos,rn s pos)] = runTo go [] (rest s 0)):=by have:=HR.out;rw [runTo,hgo] at this;exact this
        go_wp2_with (first
          | (go_at_call 171;refine (hsz _).mono ?_;rintro e w' ⟨rfl,rfl⟩)
          | (go_at_fn g;refine hst.mono ?_;rintro e W' ⟨rfl,hI3,hk3⟩))
        exact bodyPost_ret (v:=.tuple #[]) (by simp [results,Tryz.results164,go_sem]) rfl ⟨rfl,by rw [← HR2.out];assumption⟩
      · have HR2 : Hid (runTo go (done ++ [(pos,wd s pos,rn s pos)]) (rest s (pos + wd s pos)) = runTo go [] (rest s 0)):=by have:=HR.out;rw [runTo,hgo] at this;exact this
        go_wp2_with (first
          | (go_at_call 171;refine (hsz _).mono ?_;rintro e w' ⟨rfl,rfl⟩)
          | (go_at_fn g;refine hst.mono ?_;rintro e W' ⟨rfl,hI3,hk3⟩))
        go_roundg g'
        case measure=>omega
        case rel=>exact ⟨pos + wd s pos,_,by rw [hk3];exact hi2,HD.out,by assumption,HR2,.inr hgo,by omega⟩
    · have hnx : ∀ ty,(Instr.next (.pointer (some ⟨w.heap.size,0,none⟩)) true ty).run Tryz.prog wr = .ok (.tuple #[.bool false]) wr:=fun ty=>Lib.run_next_end_at wr w.heap.size s pos ty hi hps
      have hre:=rest_end s pos hps
      rw [hre] at hR
      have HR : Hid (done = runTo go [] (rest s 0)):=hR.out
      clear hstep hit h0 hd hre hR hG
      go_wp2
      go_end0
      exact ⟨rfl,by rw [← HR.out];assumption⟩
end Go.Proofs.YtlgkfhipobdcfaaGreatDoor


namespace Go.Proofs.YtlgkfhipobdcfaaGreatDoor
open Go.RowKit
structure Own (B k : Nat) (w W : World) (cs : List (Nat × Nat × Value)) : Prop where
  cell : ∀ c ∈ cs,W.cell? ⟨c.1,c.2.1,none⟩ = some c.2.2
  free : ∀ c ∈ cs,W.frozen? ⟨c.1,c.2.1,none⟩ = false
  low : ∀ c ∈ cs,B ≤ c.1 ∧ c.1 ≠ k ∧ c.1 < W.heap.size
  below : Below B w W
  iter : B ≤ k ∧ k < W.heap.size
theorem Own.iterAt {B k : Nat} {w W : World} {cs : List (Nat × Nat × Value)} (h : Own B k w W cs) (s : ByteArray) (p : Nat) : Own B k w (W.iterAt k s p) cs where
  cell c hc:=(World.cell?_of_block (Lib.iterAt_other W k c.1 s p (h.low c hc).2.1)).trans (h.cell c hc)
  free c hc:=(World.frozen?_of_block (Lib.iterAt_other W k c.1 s p (h.low c hc).2.1)).trans (h.free c hc)
  low c hc:=by rw [Lib.iterAt_size];exact h.low c hc
  below:=Lib.below_iterAt h.below h.iter.1 s p
  iter:=by rw [Lib.iterAt_size];exact h.iter
theorem Own.alloc {B k : Nat} {w W : World} {cs : List (Nat × Nat × Value)} (h : Own B k w W cs) (x : Obj) : Own B k w (W.alloc x) cs where
  cell c hc:=(((Below.refl _ W).alloc (Nat.le_refl _) x).cell (h.low c hc).2.2).trans (h.cell c hc)
  free c hc:=(((Below.refl _ W).alloc (Nat.le_refl _) x).frozen (h.low c hc).2.2).trans (h.free c hc)
  low c hc:=by have:=h.low c hc;simp;omega
  below:=h.below.alloc (by have:=h.iter;omega) x
  iter:=by have:=h.iter;simp;omega
theorem Own.set {B k : Nat} {w W : World} {cs : List (Nat × Nat × Value)} (h : Own B k w W cs) (b o : Nat) {v : Value} (hm : (b,o,v) ∈ cs) (v' : Value) :
    Own B k w (W.setCell ⟨b,o,none⟩ v') (cs.map fun c=>if c.1 = b ∧ c.2.1 = o then (c.1,c.2.1,v') else c) where
  cell c hc:=by
    obtain ⟨d,hd,rfl⟩:=List.mem_map.1 hc
    by_cases e : d.1 = b ∧ d.2.1 = o
    · rw [if_pos e]
      have:=h.cell _ hm
      simp only [e.1,e.2]
      exact World.cell?_setCell_same _ _ _ this
    · rw [if_neg e]
      rw [World.cell?_setCell_other _ _ _ _ (fun q=>e (by injection q with q1 q2;exact ⟨q1.symm,q2.symm⟩))]
      exact h.cell d hd
  free c hc:=by
    obtain ⟨d,hd,rfl⟩:=List.mem_map.1 hc
    rw [World.frozen?_setCell]
    by_cases e : d.1 = b ∧ d.2.1 = o
    · rw [if_pos e];exact h.free d hd
    · rw [if_neg e];exact h.free d hd
  low c hc:=by
    obtain ⟨d,hd,rfl⟩:=List.mem_map.1 hc
    have hz : (W.setCell ⟨b,o,none⟩ v').heap.size = W.heap.size:=by simp [World.setCell]
    rw [hz]
    by_cases e : d.1 = b ∧ d.2.1 = o
    · rw [if_pos e];exact h.low d hd
    · rw [if_neg e];exact h.low d hd
  below:=h.below.setCell (h.low _ hm).1 v'
  iter:=by
    have hz : (W.setCell ⟨b,o,none⟩ v').heap.size = W.heap.size:=by simp [World.setCell]
    rw [hz];exact h.iter
theorem iter_set {W : World} {b o k : Nat} (h : b ≠ k) (v : Value) : (W.setCell ⟨b,o,none⟩ v).heap[k]? = W.heap[k]?:=Below.heap_setCell W _ v k (fun e=>h e.symm)
theorem iter_alloc {W : World} {k : Nat} (h : k < W.heap.size) (x : Obj) : (W.alloc x).heap[k]? = W.heap[k]?:=Below.heap_alloc W x k h
theorem size_set (W : World) (a : Addr) (v : Value) : (W.setCell a v).heap.size = W.heap.size:=by simp [World.setCell]
theorem new_cell (W : World) (l : List Value) (t : TypeId) (o : Nat) (v : Value) (h : l[o]? = some v) : (W.alloc (.cells l.toArray t)).cell? ⟨W.heap.size,o,none⟩ = some v ∧ (W.alloc (.cells l.toArray t)).frozen? ⟨W.heap.size,o,none⟩ = false:=by
  have hh : (W.alloc (.cells l.toArray t)).heap[W.heap.size]? = some (.cells l.toArray t):=by
    show (W.heap.push _)[W.heap.size]? = _
    simp
  constructor
  · unfold World.cell?;rw [hh];simp [h]
  · unfold World.frozen?;rw [hh];simp
end Go.Proofs.YtlgkfhipobdcfaaGreatDoor


namespace Go.Proofs.YtlgkfhipobdcfaaGreatDoor
open Go.RowKit
theorem alloc_cell {W : World} {b : Nat} (h : b < W.heap.size) {o : Nat} {v : Option Value} (hc : W.cell? ⟨b,o,none⟩ = v) : ∀ x,(W.alloc x).cell? ⟨b,o,none⟩ = v:=fun x=>(((Below.refl _ W).alloc (Nat.le_refl _) x).cell h).trans hc
theorem alloc_frozen {W : World} {b : Nat} (h : b < W.heap.size) {o : Nat} {v : Bool} (hc : W.frozen? ⟨b,o,none⟩ = v) : ∀ x,(W.alloc x).frozen? ⟨b,o,none⟩ = v:=fun x=>(((Below.refl _ W).alloc (Nat.le_refl _) x).frozen h).trans hc
theorem ret_bool {a b : Bool} (h : a = b) : Ending.returned (.bool a) = .returned (.bool b):=by rw [h]
end Go.Proofs.YtlgkfhipobdcfaaGreatDoor


namespace Go.Proofs.YtlgkfhipobdcfaaGreatDoor
open Go.RowKit
theorem slice_shape {w : World} {base : Nat} {e : TypeId} {size : Nat} {v : Value} {n : Nat} {xs : List Value} (h : w.ownsRow base e size v n xs) : ∃ a c,v = .slice a n c:=by
  rcases h.2 with ⟨rfl,rfl⟩ | ⟨g,cap,cur,rfl,_⟩
  · exact ⟨_,_,rfl⟩
  · exact ⟨_,_,rfl⟩
theorem own_base {w : World} {base b' : Nat} {e : TypeId} {size : Nat} {v : Value} {n : Nat} {xs : List Value} (h : w.ownsRow base e size v n xs) (hb : b' ≤ base) : w.ownsRow b' e size v n xs:=by
  refine ⟨h.1,?_⟩
  rcases h.2 with h | ⟨g,cap,cur,h1,h2,r⟩
  · exact .inl h
  · exact .inr ⟨g,cap,cur,h1,by omega,r⟩
end Go.Proofs.YtlgkfhipobdcfaaGreatDoor


namespace Go.Proofs.YtlgkfhipobdcfaaGreatDoor
open Go.RowKit
def encB (r : Int) : Bool:=decide (0 ≤ r ∧ r ≤ 1114111 ∧ (r < 55296 ∨ 57343 < r))
set_option maxHeartbeats 400000 in
theorem encodes_any (r : Int) (w : World) : Calls Tryz.prog 118 #[.int .i64 r] w fun e w'=>e = .returned (.bool (encB r)) ∧ w' = w:=by
  go_enter Tryz.func118,Tryz.ntmps118
  go_wp2
  all_goals (go_ret;exact ⟨ret_bool (by first | (simp [encB];done) | (simp [encB];omega) | (rw [Bool.eq_iff_iff];simp [encB];omega)),rfl⟩)
set_option maxHeartbeats 400000 in
theorem good_any (r : Int) (w : World) : Calls Tryz.prog 68 #[.int .i64 r] w fun e w'=>e = .returned (.bool (encB r)) ∧ w' = w:=by
  go_enter Tryz.func68,Tryz.ntmps68
  go_wp2
  all_goals (go_ret;exact ⟨ret_bool (by first | (simp [encB];done) | (simp [encB];omega) | (rw [Bool.eq_iff_iff];simp [encB];omega)),rfl⟩)
def encS (r : Int) : ByteArray:=if encB r = true then Utf8.encode r else ⟨#[]⟩
def encE (r : Int) : Int:=if encB r = true then 0 else 3
set_option maxHeartbeats 400000 in
theorem encode_any (r : Int) (w : World) : Calls Tryz.prog 157 #[.int .i64 r] w fun e w'=>e = .returned (.tuple #[.string (encS r),.int .i64 (encE r)]) ∧ w' = w:=by
  cases h : encB r
  · have h1 : encS r = ⟨#[]⟩:=by simp [encS,h]
    have h2 : encE r = 3:=by simp [encE,h]
    rw [h1,h2]
    clear h1 h2
    go_enter Tryz.func157,Tryz.ntmps157
    go_wp2_with (go_at_call 118;refine (encodes_any _ _).mono ?_;rintro e w' ⟨rfl,rfl⟩)
    go_ret2
    exact ⟨rfl,rfl⟩
  · have h1 : encS r = Utf8.encode r:=by simp [encS,h]
    have h2 : encE r = 0:=by simp [encE,h]
    rw [h1,h2]
    clear h1 h2
    have hb : 0 ≤ r ∧ r ≤ 1114111:=by simp [encB] at h;omega
    obtain ⟨hb0,hb1⟩:=hb
    go_enter Tryz.func157,Tryz.ntmps157
    go_wp2_with (go_at_call 118;refine (encodes_any _ _).mono ?_;rintro e w' ⟨rfl,rfl⟩)
    go_ret2
    exact ⟨rfl,rfl⟩
def letB (r : Int) : Bool:=decide ((97 ≤ r ∧ r ≤ 122) ∨ (65 ≤ r ∧ r ≤ 90) ∨ r = 95 ∨ (128 ≤ r ∧ r ≠ 65533 ∧ encB r = true))
def digB (r : Int) : Bool:=decide (48 ≤ r ∧ r ≤ 57)
set_option maxHeartbeats 400000 in
theorem digit_any (r : Int) (w : World) : Calls Tryz.prog 89 #[.int .i64 r] w fun e w'=>e = .returned (.bool (digB r)) ∧ w' = w:=by
  go_enter Tryz.func89,Tryz.ntmps89
  go_wp2
  all_goals (go_ret;exact ⟨ret_bool (by first | (simp [digB];done) | (simp [digB];omega) | (rw [Bool.eq_iff_iff];simp [digB];omega)),rfl⟩)
set_option maxHeartbeats 400000 in
theorem rdigit_any (r : Int) (w : World) : Calls Tryz.prog 40 #[.int .i64 r] w fun e w'=>e = .returned (.bool (digB r)) ∧ w' = w:=by
  go_enter Tryz.func40,Tryz.ntmps40
  go_wp2
  all_goals (go_ret;exact ⟨ret_bool (by first | (simp [digB];done) | (simp [digB];omega) | (rw [Bool.eq_iff_iff];simp [digB];omega)),rfl⟩)
set_option maxHeartbeats 400000 in
theorem letter_any (r : Int) (w : World) : Calls Tryz.prog 87 #[.int .i64 r] w fun e w'=>e = .returned (.bool (letB r)) ∧ w' = w:=by
  go_enter Tryz.func87,Tryz.ntmps87
  go_wp2_with (go_at_call 118;refine (encodes_any _ _).mono ?_;rintro e w' ⟨rfl,rfl⟩)
  all_goals (go_ret;refine ⟨ret_bool ?_,rfl⟩)
  all_goals first | (simp [letB];done) | (simp [letB];omega) | (rw [Bool.eq_iff_iff];simp [letB];omega) | (cases he : encB r <;> (rw [Bool.eq_iff_iff];simp [letB,he];try omega))
set_option maxHeartbeats 400000 in
theorem rletter_any (r : Int) (w : World) : Calls Tryz.prog 37 #[.int .i64 r] w fun e w'=>e = .returned (.bool (letB r)) ∧ w' = w:=by
  go_enter Tryz.func37,Tryz.ntmps37
  go_wp2_with (go_at_call 68;refine (good_any _ _).mono ?_;rintro e w' ⟨rfl,rfl⟩)
  all_goals (go_ret;refine ⟨ret_bool ?_,rfl⟩)
  all_goals first | (simp [letB];done) | (simp [letB];omega) | (rw [Bool.eq_iff_iff];simp [letB];omega) | (cases he : encB r <;> (rw [Bool.eq_iff_iff];simp [letB,he];try omega))
end Go.Proofs.YtlgkfhipobdcfaaGreatDoor


namespace Go.Proofs.YtlgkfhipobdcfaaGreatDoor
open Go.RowKit
theorem get_extract (s : ByteArray) (a i : Nat) : (s.extract a s.size).get! i = s.get! (a + i):=by
  rw [get_data,get_data,Lib.extract_to_end]
  simp [List.getD,List.getElem?_drop]
theorem decode_extract (s : ByteArray) (a p : Nat) : Utf8.decode (s.extract a s.size) p = Utf8.decode s (a + p):=by
  rw [Lib.decode_at,Lib.decode_at,get_extract,get_extract,get_extract,get_extract]
  have h : (s.extract a s.size).size - p = s.size - (a + p):=by rw [ByteArray.size_extract];omega
  rw [h]
  simp only [Nat.add_assoc]
theorem wd_extract (s : ByteArray) (a p : Nat) : wd (s.extract a s.size) p = wd s (a + p):=by unfold wd;rw [decode_extract]
theorem rn_extract (s : ByteArray) (a p : Nat) : rn (s.extract a s.size) p = rn s (a + p):=by unfold rn;rw [decode_extract]
theorem enters36 : ∀ args w,(callFunc 165 args).run Tryz.prog w = .ok (.enter 165 args) w:=enters_of Tryz.func165 (by kernel_rfl) rfl
set_option maxHeartbeats 400000 in
theorem dec_step (b f : Nat) (W : World) (n x y z : Int) (u0 u1 u2 : Value) (hb : b < W.heap.size) (hf : f < W.heap.size) (hc : W.cell? ⟨b,0,none⟩ = some (.int .i64 n))
    (h0 : W.cell? ⟨f,0,none⟩ = some u0) (h1 : W.cell? ⟨f,1,none⟩ = some u1) (h2 : W.cell? ⟨f,2,none⟩ = some u2)
    (f0 : W.frozen? ⟨f,0,none⟩ = false) (f1 : W.frozen? ⟨f,1,none⟩ = false) (f2 : W.frozen? ⟨f,2,none⟩ = false) :
    Calls Tryz.prog 165 #[.agg #[.int .i64 x,.int .i64 y,.int .i64 z],.pointer (some ⟨b,0,none⟩),.pointer (some ⟨f,0,none⟩)] W fun e W'=>e = .returned (.bool false) ∧
      ∃ o,W' = (((W.setCell ⟨f,0,none⟩ (.int .i64 n)).setCell ⟨f,1,none⟩ (.int .i64 y)).setCell ⟨f,2,none⟩ (.int .i64 z)).alloc o:=by
  have hc1:=alloc_cell hb hc
  have k0:=alloc_cell hf h0
  have k1:=alloc_cell hf h1
  have k2:=alloc_cell hf h2
  have g0:=alloc_frozen hf f0
  have g1:=alloc_frozen hf f1
  have g2:=alloc_frozen hf f2
  go_enter Tryz.func165,Tryz.ntmps165
  go_wp2
  go_ret
  exact ⟨rfl,_,rfl⟩
theorem Own.start {B : Nat} {w W : World} {cs : List (Nat × Nat × Value)} (hc : ∀ c ∈ cs,W.cell? ⟨c.1,c.2.1,none⟩ = some c.2.2 ∧ W.frozen? ⟨c.1,c.2.1,none⟩ = false ∧ B ≤ c.1 ∧ c.1 < W.heap.size)
    (hb : Below B w W) (hB : B ≤ W.heap.size) (s : ByteArray) : Own B W.heap.size w (W.alloc (.stringIter s 0)) cs where
  cell c h:=alloc_cell (hc c h).2.2.2 (hc c h).1 _
  free c h:=alloc_frozen (hc c h).2.2.2 (hc c h).2.1 _
  low c h:=by have:=hc c h;simp;omega
  below:=hb.alloc hB _
  iter:=by simp;omega
def fst3 (n : Int) : List Rn → Int × Int × Int
  | []=>(0,0,0)
  | r :: _=>(n,r.2.1,r.2.2)
def decCells (B : Nat) (n : Int) (done : List Rn) : List (Nat × Nat × Value) :=
  [(B,0,.int .i64 n),(B + 1,0,.int .i64 0),(B + 1,1,.int .i64 0),(B + 1,2,.int .i64 0),(B + 2,0,.int .i64 (fst3 n done).1),(B + 2,1,.int .i64 (fst3 n done).2.1),(B + 2,2,.int .i64 (fst3 n done).2.2)]
def decW (w : World) (n : Int) : World:=((w.alloc (.cells #[.int .i64 n] 3)).alloc (.cells #[.int .i64 0,.int .i64 0,.int .i64 0] 150)).alloc (.cells #[.int .i64 0,.int .i64 0,.int .i64 0] 150)
theorem decW_size (w : World) (n : Int) : (decW w n).heap.size = w.heap.size + 3:=by simp [decW]
theorem decW_own (w : World) (n : Int) (s : ByteArray) : Own w.heap.size (w.heap.size + 3) w ((decW w n).alloc (.stringIter s 0)) (decCells w.heap.size n []):=by
  have key : ∀ c ∈ decCells w.heap.size n [],(decW w n).cell? ⟨c.1,c.2.1,none⟩ = some c.2.2 ∧ (decW w n).frozen? ⟨c.1,c.2.1,none⟩ = false ∧ w.heap.size ≤ c.1 ∧ c.1 < (decW w n).heap.size:=by
    intro c hc
    rw [decW_size]
    have n0:=new_cell w [.int .i64 n] 3 0 _ rfl
    have e1 : (w.alloc (.cells #[.int .i64 n] 3)).heap.size = w.heap.size + 1:=by simp
    have n1:=fun j v h=>new_cell (w.alloc (.cells #[.int .i64 n] 3)) [.int .i64 0,.int .i64 0,.int .i64 0] 150 j v h
    rw [e1] at n1
    have e2 : ((w.alloc (.cells #[.int .i64 n] 3)).alloc (.cells #[.int .i64 0,.int .i64 0,.int .i64 0] 150)).heap.size = w.heap.size + 2:=by simp
    have n2:=fun j v h=>new_cell ((w.alloc (.cells #[.int .i64 n] 3)).alloc (.cells #[.int .i64 0,.int .i64 0,.int .i64 0] 150)) [.int .i64 0,.int .i64 0,.int .i64 0] 150 j v h
    rw [e2] at n2
    simp only [decCells,fst3,List.mem_cons,List.not_mem_nil,or_false] at hc
    rcases hc with rfl | rfl | rfl | rfl | rfl | rfl | rfl
    · exact ⟨alloc_cell (by simp <;> omega) (alloc_cell (by simp <;> omega) n0.1 _) _,alloc_frozen (by simp <;> omega) (alloc_frozen (by simp <;> omega) n0.2 _) _,by simp <;> omega⟩
    · exact ⟨alloc_cell (by simp <;> omega) (n1 0 _ rfl).1 _,alloc_frozen (by simp <;> omega) (n1 0 _ rfl).2 _,by simp <;> omega⟩
    · exact ⟨alloc_cell (by simp <;> omega) (n1 1 _ rfl).1 _,alloc_frozen (by simp <;> omega) (n1 1 _ rfl).2 _,by simp <;> omega⟩
    · exact ⟨alloc_cell (by simp <;> omega) (n1 2 _ rfl).1 _,alloc_frozen (by simp <;> omega) (n1 2 _ rfl).2 _,by simp <;> omega⟩
    · exact ⟨(n2 0 _ rfl).1,(n2 0 _ rfl).2,by simp <;> omega⟩
    · exact ⟨(n2 1 _ rfl).1,(n2 1 _ rfl).2,by simp <;> omega⟩
    · exact ⟨(n2 2 _ rfl).1,(n2 2 _ rfl).2,by simp <;> omega⟩
  have h:=Own.start key ((((Below.refl _ w).alloc (Nat.le_refl _) _).alloc (by simp <;> omega) _).alloc (by simp <;> omega) _) (by rw [decW_size];omega) s
  rw [decW_size] at h
  exact h
set_option maxHeartbeats 1000000 in
theorem decode_each (x : ByteArray) (n : Int) (w : World) (hx : 0 < x.size) (hxs : x.size ≤ 9223372036854775807) :
    Calls Tryz.prog 164 #[.string x,.func (.func 165) #[] #[.pointer (some ⟨w.heap.size,0,none⟩),.pointer (some ⟨w.heap.size + 2,0,none⟩)]] (decW w n) fun e w'=>e = .returned (.tuple #[]) ∧
      Own w.heap.size (w.heap.size + 3) w w' (decCells w.heap.size n [(0,wd x 0,rn x 0)]):=by
  have HE:=each_any x 165 #[.pointer (some ⟨w.heap.size,0,none⟩),.pointer (some ⟨w.heap.size + 2,0,none⟩)] enters36 (decW w n) hxs (fun _=>false)
    (fun done W=>done.length ≤ 1 ∧ Own w.heap.size (w.heap.size + 3) w W (decCells w.heap.size n done))
    ⟨by simp,decW_own w n x⟩
    (fun done W p p' h _=>⟨h.1,by have:=h.2.iterAt x p';rw [decW_size];exact this⟩)
    (fun done r l W he hg h _=>by
      have hd : done = []:=by rcases hg with h | h;exact h;cases h
      subst hd
      obtain ⟨_,h⟩:=h
      have hm : ∀ c,c ∈ decCells w.heap.size n [] → c ∈ decCells w.heap.size n []:=fun _ h=>h
      have i0 : (w.heap.size,0,Value.int .i64 n) ∈ decCells w.heap.size n []:=by simp [decCells]
      have i4 : (w.heap.size + 2,0,Value.int .i64 0) ∈ decCells w.heap.size n []:=by simp [decCells,fst3]
      have i5 : (w.heap.size + 2,1,Value.int .i64 0) ∈ decCells w.heap.size n []:=by simp [decCells,fst3]
      have i6 : (w.heap.size + 2,2,Value.int .i64 0) ∈ decCells w.heap.size n []:=by simp [decCells,fst3]
      have hit:=h.iter.2
      refine (dec_step w.heap.size (w.heap.size + 2) W n r.1 r.2.1 r.2.2 _ _ _ (h.low _ i0).2.2 (h.low _ i4).2.2 (h.cell _ i0) (h.cell _ i4) (h.cell _ i5) (h.cell _ i6) (h.free _ i4) (h.free _ i5) (h.free _ i6)).mono fun e W' ⟨he,o,hW⟩=>?_
      subst hW
      refine ⟨he,⟨by simp,?_⟩,?_⟩
      · have s1:=h.set (w.heap.size + 2) 0 i4 (.int .i64 n)
        have s2:=s1.set (w.heap.size + 2) 1 (v:=.int .i64 0) (by simp [decCells,fst3]) (.int .i64 r.2.1)
        have s3:=(s2.set (w.heap.size + 2) 2 (v:=.int .i64 0) (by simp [decCells,fst3]) (.int .i64 r.2.2)).alloc o
        simpa [decCells,fst3] using s3
      · rw [decW_size,iter_alloc (by simp;omega),iter_set (by omega),iter_set (by omega),iter_set (by omega)])
  rw [rest_at x 0 hx] at HE
  simp only [runTo,Bool.false_eq_true,if_false,List.nil_append] at HE
  exact HE.mono fun e w' h=>⟨h.1,h.2.2⟩
set_option maxHeartbeats 1000000 in
theorem decode_no (s : ByteArray) (n : Int) (w : World) (h : n < 0 ∨ (s.size : Int) ≤ n) : Calls Tryz.prog 154 #[.string s,.int .i64 n] w fun e w'=>e = .returned (.tuple #[.agg #[.int .i64 0,.int .i64 0,.int .i64 0],.int .i64 1]) ∧ Below w.heap.size w w':=by
  rcases h with h | h
  · go_enter Tryz.func154,Tryz.ntmps154
    go_wp2
    exact bodyPost_ret (v:=.tuple #[.agg #[.int .i64 0,.int .i64 0,.int .i64 0],.int .i64 1]) (by simp [results,Tryz.results154,go_sem]) rfl ⟨rfl,((Below.refl _ _).alloc (Nat.le_refl _) _).alloc (by simp) _⟩
  · have h0 : ¬ n < 0:=by omega
    go_enter Tryz.func154,Tryz.ntmps154
    go_wp2
    exact bodyPost_ret (v:=.tuple #[.agg #[.int .i64 0,.int .i64 0,.int .i64 0],.int .i64 1]) (by simp [results,Tryz.results154,go_sem]) rfl ⟨rfl,((Below.refl _ _).alloc (Nat.le_refl _) _).alloc (by simp) _⟩
set_option maxHeartbeats 1000000 in
theorem decode_yes (s : ByteArray) (n : Nat) (w : World) (h : n < s.size) (hs : s.size ≤ 9223372036854775807) : Calls Tryz.prog 154 #[.string s,.int .i64 n] w fun e w'=>e = .returned (.tuple #[.agg #[.int .i64 n,.int .i64 (wd s n),.int .i64 (rn s n)],.int .i64 0]) ∧ Below w.heap.size w w':=by
  have hz : (s.extract n s.size).size = s.size - n:=by rw [ByteArray.size_extract];omega
  have HE:=decode_each (s.extract n s.size) n w (by omega) (by omega)
  rw [wd_extract,rn_extract] at HE
  simp only [Nat.add_zero] at HE
  clear hz
  unfold decW at HE
  go_enter Tryz.func154,Tryz.ntmps154
  go_wp2_with (go_at_call 164;refine HE.mono ?_;rintro e W ⟨rfl,hO⟩;have g0:=hO.cell _ (show (w.heap.size + 2,0,Value.int .i64 n) ∈ _ by simp [decCells,fst3]);have g1:=hO.cell _ (show (w.heap.size + 2,1,Value.int .i64 (wd s n)) ∈ _ by simp [decCells,fst3]);have g2:=hO.cell _ (show (w.heap.size + 2,2,Value.int .i64 (rn s n)) ∈ _ by simp [decCells,fst3]);have j0:=hO.cell _ (show (w.heap.size + 1,0,Value.int .i64 0) ∈ _ by simp [decCells]);have j1:=hO.cell _ (show (w.heap.size + 1,1,Value.int .i64 0) ∈ _ by simp [decCells]);have j2:=hO.cell _ (show (w.heap.size + 1,2,Value.int .i64 0) ∈ _ by simp [decCells]);have k0:=hO.free _ (show (w.heap.size + 1,0,Value.int .i64 0) ∈ _ by simp [decCells]);have k1:=hO.free _ (show (w.heap.size + 1,1,Value.int .i64 0) ∈ _ by simp [decCells]);have k2:=hO.free _ (show (w.heap.size + 1,2,Value.int .i64 0) ∈ _ by simp [decCells]))
  refine bodyPost_ret (v:=.tuple #[.agg #[.int .i64 n,.int .i64 (wd s n),.int .i64 (rn s n)],.int .i64 0]) (by simp [results,Tryz.results154,go_sem,j0,j1,j2]) rfl ⟨rfl,?_⟩
  exact ((hO.below.setCell (by simp) _).setCell (by simp) _).setCell (by simp) _
end Go.Proofs.YtlgkfhipobdcfaaGreatDoor
