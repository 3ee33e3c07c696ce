import Derived.Lib.DecodeN
import Derived.Lib.IndexBytes
import Derived.Shelf.Strings.Builder1
import Derived.Shelf.Small.Strs
import Derived.Shelf.LaysM
import Derived.Shelf.Strconv.Clone
import Derived.Shelf.Strings.Search1
import Derived.Shelf.Strings.Prefix
import Derived.Test.YtkjbgggghigapaaGreatProg
import Derived.Test.YtkjbgggghigapaaGreatRows
import Derived.WalkKit
import Derived.WalkSpells
import Derived.WalkLawsBesides
import Derived.WalkSmall
import Derived.Lib.OthersKept
import Derived.Deep.LoopGhost
namespace Go.Proofs.YtkjbgggghigapaaGreat
def wd (s:ByteArray) (p:Nat):Nat:=(Utf8.decode s p).2
def rn (s:ByteArray) (p:Nat):Nat:=(Utf8.decode s p).1
theorem byte_lt (s:ByteArray) (i:Nat):(s.get! i).toNat<256:=(s.get! i).toNat_lt
theorem decodeN_shape (n b0 b1 b2 b3:Nat) (h0:b0<256) (h1:b1<256):
 ((Lib.decodeN n b0 b1 b2 b3).1<128→(Lib.decodeN n b0 b1 b2 b3).2=1)∧
 (128≤(Lib.decodeN n b0 b1 b2 b3).1→(Lib.decodeN n b0 b1 b2 b3).1<2048→(Lib.decodeN n b0 b1 b2 b3).2=2)∧
 (2048≤(Lib.decodeN n b0 b1 b2 b3).1→(Lib.decodeN n b0 b1 b2 b3).1<65536→(Lib.decodeN n b0 b1 b2 b3).1≠65533→(Lib.decodeN n b0 b1 b2 b3).2=3)∧
 (65536≤(Lib.decodeN n b0 b1 b2 b3).1→(Lib.decodeN n b0 b1 b2 b3).2=4)∧
 ((Lib.decodeN n b0 b1 b2 b3).1=65533→((Lib.decodeN n b0 b1 b2 b3).2=3∧3≤n∧b0=239∧b1=191∧b2=189)∨((Lib.decodeN n b0 b1 b2 b3).2=1∧¬(3≤n∧b0=239∧b1=191∧b2=189)))∧
 (Lib.decodeN n b0 b1 b2 b3).1≤1114111∧1≤(Lib.decodeN n b0 b1 b2 b3).2∧((Lib.decodeN n b0 b1 b2 b3).2≤n∨n=0):=by
 unfold Lib.decodeN
 repeat' split
 all_goals (refine ⟨?_,?_,?_,?_,?_,?_,?_,?_⟩<;>simp only<;>(try intros)<;>first | omega | trivial | (simp;omega))
theorem shape_at (s:ByteArray) (p:Nat):
 (rn s p<128→wd s p=1)∧(128≤rn s p→rn s p<2048→wd s p=2)∧(2048≤rn s p→rn s p<65536→rn s p≠65533→wd s p=3)∧(65536≤rn s p→wd s p=4)∧
 (rn s p=65533→(wd s p=3∧3≤s.size - p∧(s.get! p).toNat=239∧(s.get! (p+1)).toNat=191∧(s.get! (p+2)).toNat=189)∨
  (wd s p=1∧¬(3≤s.size - p∧(s.get! p).toNat=239∧(s.get! (p+1)).toNat=191∧(s.get! (p+2)).toNat=189)))∧
 rn s p≤1114111∧1≤wd s p∧(wd s p≤s.size - p∨s.size - p=0):=by
 unfold rn wd
 rw[Lib.decode_at]
 exact decodeN_shape _ _ _ _ _ (byte_lt s p) (byte_lt s (p+1))
theorem wd_pos (s:ByteArray) (p:Nat):1≤wd s p:=(shape_at s p).2.2.2.2.2.2.1
theorem wd_le (s:ByteArray) (p:Nat) (h:p<s.size):p+wd s p≤s.size:=by have:=(shape_at s p).2.2.2.2.2.2.2;omega
theorem rn_le (s:ByteArray) (p:Nat):rn s p≤1114111:=(shape_at s p).2.2.2.2.2.1
abbrev Rn:=Nat×Nat×Nat
def rest (s:ByteArray) (p:Nat):List Rn:=if _h:p<s.size then (p,wd s p,rn s p)::rest s (p+wd s p) else []
termination_by s.size - p
decreasing_by have:=wd_pos s p;omega
theorem get_data (s:ByteArray) (i:Nat):s.get! i=s.data.toList.getD i 0:=by
 obtain ⟨⟨l⟩⟩:=s
 simp[ByteArray.get!,getElem!_def,List.getD]
 cases l[i]?<;>rfl
end Go.Proofs.YtkjbgggghigapaaGreat


namespace Go.Proofs
open Go.Shelf
def Tryz.lays137_ren:Go.Shelf.Ren:=⟨fun | 137=>139 | 217=>157 | 266=>163 | n=>n,fun | 9=>9 | 5=>5 | 3=>3 | n=>n,fun | n=>n⟩
theorem Tryz.lays137:Go.Proofs.Lays.n137 Tryz.prog Tryz.lays137_ren:={
 mixed:=by kernel_rfl
 f137:=Tryz.func139.trans (congrArg some (by kernel_rfl))
 f217:=Tryz.func157.trans (congrArg some (by kernel_rfl))
 f266:=Tryz.func163.trans (congrArg some (by kernel_rfl))
 t3:=Tryz.underlying3
 a3:=Tryz.isAgg3
 z3:=Tryz.sizeOf3
 v3:=Tryz.zeroValue3
 t5:=Tryz.underlying5
 a5:=Tryz.isAgg5
 z5:=Tryz.sizeOf5
 v5:=Tryz.zeroValue5
 t9:=Tryz.underlying9
 a9:=Tryz.isAgg9
 z9:=Tryz.sizeOf9
 v9:=Tryz.zeroValue9}
open Go.RowKit in
theorem Tryz.strings_IndexByte (s:ByteArray) (c:Int) (w:World):
 Calls Tryz.prog 139 #[.string s,.int .u8 c] w fun e w'=>e= .returned (.int .i64 (Lib.indexByte s.data.toList c.toNat.toUInt8))∧w'=w:=Any.strings_IndexByte Tryz.lays137 s c w
def Tryz.laysM316_ren:Go.Shelf.Ren:=⟨fun | 316=>123 | n=>n,fun | 9=>9 | 3=>3 | 4=>4 | 37=>118 | 0=>0 | 127=>167 | 5=>5 | n=>n,fun | n=>n⟩
theorem Tryz.laysM316:Go.Proofs.LaysM.n316 Tryz.prog Tryz.laysM316_ren:={
 mixed:=by kernel_rfl
 f316:=Tryz.func123.trans (congrArg some (by kernel_rfl))
 t0:=Tryz.underlying0
 a0:=Tryz.isAgg0
 z0:=Tryz.sizeOf0
 v0:=Tryz.zeroValue0
 t3:=Tryz.underlying3
 a3:=Tryz.isAgg3
 z3:=Tryz.sizeOf3
 v3:=Tryz.zeroValue3
 t4:=Tryz.underlying4
 a4:=Tryz.isAgg4
 z4:=Tryz.sizeOf4
 v4:=Tryz.zeroValue4
 t9:=Tryz.underlying9
 a9:=Tryz.isAgg9
 z9:=Tryz.sizeOf9
 v9:=Tryz.zeroValue9
 t37:=Tryz.underlying118
 a37:=Tryz.isAgg118
 z37:=Tryz.sizeOf118
 v37:=Tryz.zeroValue118
 t127:=Tryz.underlying167
 a127:=Tryz.isAgg167
 z127:=Tryz.sizeOf167
 v127:=Tryz.zeroValue167
 t5:=Tryz.underlying5
 a5:=Tryz.isAgg5
 z5:=Tryz.sizeOf5
 v5:=Tryz.zeroValue5
 i0:=by kernel_rfl
 i3:=by kernel_rfl
 i4:=by kernel_rfl
 i5:=by kernel_rfl
 i9:=by kernel_rfl
 i37:=by kernel_rfl
 i127:=by kernel_rfl}
open Go.RowKit in
theorem Tryz.stringslite_Clone (s:ByteArray) (w:World) (hlim:s.size≤281474976710656):
 Calls Tryz.prog 123 #[.string s] w fun e w'=>e= .returned (.string s)∧Below w.heap.size w w':=Any.stringslite_Clone Tryz.laysM316 s w hlim
def Tryz.lays206_ren:Go.Shelf.Ren:=⟨fun | 206=>114 | n=>n,fun | 9=>9 | 4=>4 | 3=>3 | n=>n,fun | n=>n⟩
def Tryz.lays99_ren:Go.Shelf.Ren:=⟨fun | 99=>82 | 206=>114 | n=>n,fun | 9=>9 | 4=>4 | 3=>3 | n=>n,fun | n=>n⟩
theorem Tryz.lays99:Go.Proofs.Lays.n99 Tryz.prog Tryz.lays99_ren:={
 mixed:=by kernel_rfl
 f99:=Tryz.func82.trans (congrArg some (by kernel_rfl))
 f206:=Tryz.func114.trans (congrArg some (by kernel_rfl))
 t3:=Tryz.underlying3
 a3:=Tryz.isAgg3
 z3:=Tryz.sizeOf3
 v3:=Tryz.zeroValue3
 t4:=Tryz.underlying4
 a4:=Tryz.isAgg4
 z4:=Tryz.sizeOf4
 v4:=Tryz.zeroValue4
 t9:=Tryz.underlying9
 a9:=Tryz.isAgg9
 z9:=Tryz.sizeOf9
 v9:=Tryz.zeroValue9}
open Go.RowKit Go.Lib in
theorem Tryz.strings_HasPrefix (s p:ByteArray) (w:World):
 Calls Tryz.prog 82 #[.string s,.string p] w fun e w'=>e= .returned (.bool (Lib.hasPrefix s.data.toList p.data.toList))∧w'=w:=Any.strings_HasPrefix Tryz.lays99 s p w
end Go.Proofs


namespace Go.Proofs.YtkjbgggghigapaaGreat
open Go.RowKit
theorem ret1 {a b:Int} (h:a=b):Ending.returned (.int .i64 a)= .returned (.int .i64 b):=by rw[h]
end Go.Proofs.YtkjbgggghigapaaGreat


namespace Go.Proofs.YtkjbgggghigapaaGreat
open Go.RowKit
structure Own (B k:Nat) (w W:World) (cs:List (Nat×Nat×Value)):Prop where
 cell:∀c∈cs,W.cell? ⟨c.1,c.2.1,none⟩=some c.2.2
 free:∀c∈cs,W.frozen? ⟨c.1,c.2.1,none⟩=false
 low:∀c∈cs,B≤c.1∧c.1≠k∧c.1<W.heap.size
 below:Below B w W
 iter:B≤k∧k<W.heap.size
theorem size_set (W:World) (a:Addr) (v:Value):(W.setCell a v).heap.size=W.heap.size:=by simp[World.setCell]
theorem new_cell (W:World) (l:List Value) (t:TypeId) (o:Nat) (v:Value) (h:l[o]?=some v):(W.alloc (.cells l.toArray t)).cell? ⟨W.heap.size,o,none⟩=some v∧(W.alloc (.cells l.toArray t)).frozen? ⟨W.heap.size,o,none⟩=false:=by
 have hh:(W.alloc (.cells l.toArray t)).heap[W.heap.size]?=some (.cells l.toArray t):=by
  show (W.heap.push _)[W.heap.size]?=_
  simp
 constructor
 ·unfold World.cell?;rw[hh];simp[h]
 ·unfold World.frozen?;rw[hh];simp
end Go.Proofs.YtkjbgggghigapaaGreat


namespace Go.Proofs.YtkjbgggghigapaaGreat
open Go.RowKit
theorem alloc_cell {W:World} {b:Nat} (h:b<W.heap.size) {o:Nat} {v:Option Value} (hc:W.cell? ⟨b,o,none⟩=v):∀x,(W.alloc x).cell? ⟨b,o,none⟩=v:=fun x=>(((Below.refl _ W).alloc (Nat.le_refl _) x).cell h).trans hc
theorem alloc_frozen {W:World} {b:Nat} (h:b<W.heap.size) {o:Nat} {v:Bool} (hc:W.frozen? ⟨b,o,none⟩=v):∀x,(W.alloc x).frozen? ⟨b,o,none⟩=v:=fun x=>(((Below.refl _ W).alloc (Nat.le_refl _) x).frozen h).trans hc
theorem ret_bool {a b:Bool} (h:a=b):Ending.returned (.bool a)= .returned (.bool b):=by rw[h]
end Go.Proofs.YtkjbgggghigapaaGreat


namespace Go.Proofs.YtkjbgggghigapaaGreat
open Go.RowKit
theorem slice_shape {w:World} {base:Nat} {e:TypeId} {size:Nat} {v:Value} {n:Nat} {xs:List Value} (h:w.ownsRow base e size v n xs):∃a c,v= .slice a n c:=by
 rcases h.2 with ⟨rfl,rfl⟩ | ⟨g,cap,cur,rfl,_⟩
 ·exact ⟨_,_,rfl⟩
 ·exact ⟨_,_,rfl⟩
theorem own_base {w:World} {base b':Nat} {e:TypeId} {size:Nat} {v:Value} {n:Nat} {xs:List Value} (h:w.ownsRow base e size v n xs) (hb:b'≤base):w.ownsRow b' e size v n xs:=by
 refine ⟨h.1,?_⟩
 rcases h.2 with h | ⟨g,cap,cur,h1,h2,r⟩
 ·exact .inl h
 ·exact .inr ⟨g,cap,cur,h1,by omega,r⟩
end Go.Proofs.YtkjbgggghigapaaGreat


namespace Go.Proofs.YtkjbgggghigapaaGreat
open Go.RowKit
def encB (r:Int):Bool:=decide (0≤r∧r≤1114111∧(r<55296∨57343<r))
set_option maxHeartbeats 400000 in
theorem encodes_any (r:Int) (w:World):Calls Tryz.prog 115 #[.int .i64 r] w fun e w'=>e= .returned (.bool (encB r))∧w'=w:=by
 go_enter Tryz.func115,Tryz.ntmps115
 go_wp2
 all_goals (go_ret;exact ⟨ret_bool (by first | (simp[encB];done) | (simp[encB];omega) | (rw[Bool.eq_iff_iff];simp[encB];omega)),rfl⟩)
def encS (r:Int):ByteArray:=if encB r=true then Utf8.encode r else ⟨#[]⟩
def encE (r:Int):Int:=if encB r=true then 0 else 3
set_option maxHeartbeats 400000 in
theorem encode_any (r:Int) (w:World):Calls Tryz.prog 162 #[.int .i64 r] w fun e w'=>e= .returned (.tuple #[.string (encS r),.int .i64 (encE r)])∧w'=w:=by
 cases h:encB r
 ·have h1:encS r=⟨#[]⟩:=by simp[encS,h]
  have h2:encE r=3:=by simp[encE,h]
  rw[h1,h2]
  clear h1 h2
  go_enter Tryz.func162,Tryz.ntmps162
  go_wp2_with (go_at_call 115;refine (encodes_any _ _).mono ?_;rintro e w' ⟨rfl,rfl⟩)
  go_ret2
  exact ⟨rfl,rfl⟩
 ·have h1:encS r=Utf8.encode r:=by simp[encS,h]
  have h2:encE r=0:=by simp[encE,h]
  rw[h1,h2]
  clear h1 h2
  have hb:0≤r∧r≤1114111:=by simp[encB] at h;omega
  obtain ⟨hb0,hb1⟩:=hb
  go_enter Tryz.func162,Tryz.ntmps162
  go_wp2_with (go_at_call 115;refine (encodes_any _ _).mono ?_;rintro e w' ⟨rfl,rfl⟩)
  go_ret2
  exact ⟨rfl,rfl⟩
def letB (r:Int):Bool:=decide ((97≤r∧r≤122)∨(65≤r∧r≤90)∨r=95∨(128≤r∧r≠65533∧encB r=true))
def digB (r:Int):Bool:=decide (48≤r∧r≤57)
set_option maxHeartbeats 400000 in
theorem digit_any (r:Int) (w:World):Calls Tryz.prog 87 #[.int .i64 r] w fun e w'=>e= .returned (.bool (digB r))∧w'=w:=by
 go_enter Tryz.func87,Tryz.ntmps87
 go_wp2
 all_goals (go_ret;exact ⟨ret_bool (by first | (simp[digB];done) | (simp[digB];omega) | (rw[Bool.eq_iff_iff];simp[digB];omega)),rfl⟩)
set_option maxHeartbeats 400000 in
theorem letter_any (r:Int) (w:World):Calls Tryz.prog 85 #[.int .i64 r] w fun e w'=>e= .returned (.bool (letB r))∧w'=w:=by
 go_enter Tryz.func85,Tryz.ntmps85
 go_wp2_with (go_at_call 115;refine (encodes_any _ _).mono ?_;rintro e w' ⟨rfl,rfl⟩)
 all_goals (go_ret;refine ⟨ret_bool ?_,rfl⟩)
 all_goals first | (simp[letB];done) | (simp[letB];omega) | (rw[Bool.eq_iff_iff];simp[letB];omega) | (cases he:encB r<;>(rw[Bool.eq_iff_iff];simp[letB,he];try omega))
end Go.Proofs.YtkjbgggghigapaaGreat


namespace Go.Proofs.YtkjbgggghigapaaGreat
open Go.RowKit
theorem get_extract (s:ByteArray) (a i:Nat):(s.extract a s.size).get! i=s.get! (a+i):=by
 rw[get_data,get_data,Lib.extract_to_end]
 simp[List.getD,List.getElem?_drop]
theorem decode_extract (s:ByteArray) (a p:Nat):Utf8.decode (s.extract a s.size) p=Utf8.decode s (a+p):=by
 rw[Lib.decode_at,Lib.decode_at,get_extract,get_extract,get_extract,get_extract]
 have h:(s.extract a s.size).size - p=s.size - (a+p):=by rw[ByteArray.size_extract];omega
 rw[h]
 simp only[Nat.add_assoc]
theorem wd_extract (s:ByteArray) (a p:Nat):wd (s.extract a s.size) p=wd s (a+p):=by unfold wd;rw[decode_extract]
theorem rn_extract (s:ByteArray) (a p:Nat):rn (s.extract a s.size) p=rn s (a+p):=by unfold rn;rw[decode_extract]
def fst3 (n:Int):List Rn→Int×Int×Int
 | []=>(0,0,0)
 | r::_=>(n,r.2.1,r.2.2)
end Go.Proofs.YtkjbgggghigapaaGreat


namespace Go.Proofs.YtkjbgggghigapaaGreat
open Go.RowKit
def encL (r:Nat):List Nat:=
 if r<128 then [r]
 else if r<2048 then [192+r / 64,128+r % 64]
 else if r<65536 then [224+r / 4096,128+r / 64 % 64,128+r % 64]
 else [240+r / 262144,128+r / 4096 % 64,128+r / 64 % 64,128+r % 64]
theorem encB_iff (r:Int):encB r=true↔0≤r∧r≤1114111∧(r<55296∨57343<r):=by simp[encB]
theorem encB_valid (r:Int) (h:encB r=true):Utf8.valid r=true:=by
 rw[encB_iff] at h
 simp[Utf8.valid];omega
theorem encode_list (r:Int) (h:encB r=true):(Utf8.encode r).toList=(encL r.toNat).map UInt8.ofNat:=by
 rw[ByteArray.toList_eq]
 unfold Utf8.encode encL
 simp only[encB_valid r h,if_true]
 split
 ·rfl
 ·split
  ·rfl
  ·split<;>rfl
end Go.Proofs.YtkjbgggghigapaaGreat





namespace Go.Proofs.YtkjbgggghigapaaGreat.W
open Go.RowKit
def dgV (c:Int):Int:=if 48≤c∧c≤57 then c - 48 else if 97≤c∧c≤102 then c - 87 else if 65≤c∧c≤70 then c - 55 else 0
def dgB (c:Int):Bool:=decide (48≤c∧c≤57) || decide (97≤c∧c≤102) || decide (65≤c∧c≤70)
theorem dgV_bound (c:Int):0≤dgV c∧dgV c≤15:=by unfold dgV;repeat' split;all_goals omega
def hv (l:List UInt8):Int:=l.foldl (fun m c=>(m * 16+dgV c.toNat) % 18446744073709551616) 0
def allHex (l:List UInt8):Bool:=l.all fun c=>dgB c.toNat
def hexE (l:List UInt8):Int:=if l.isEmpty || !allHex l then 4 else 0
def hexN (l:List UInt8):Int:=if l.isEmpty || !allHex l then 0 else hv l
def dv (l:List UInt8):Nat:=l.foldl (fun m c=>m * 10+(dgV c.toNat).toNat) 0
def allDec (l:List UInt8):Bool:=l.all fun c=>decide (48≤(c.toNat:Int)∧(c.toNat:Int)≤57)
def decE (l:List UInt8) (most:Int):Int:=if l.isEmpty || !allDec l then 4 else if most<dv l then 14 else 0
def decN (l:List UInt8) (most:Int):Int:=if l.isEmpty || !allDec l then 0 else if most<dv l then 0 else dv l
theorem take_snoc (s:ByteArray) (k:Nat) (h:k<s.size):s.data.toList.take (k+1)=s.data.toList.take k++[s[k]]:=by
 rw[List.take_succ_eq_append_getElem (by simpa using h)];rfl
theorem take_all (s:ByteArray) (k:Nat) (h:¬k<s.size):s.data.toList.take k=s.data.toList:=List.take_of_length_le (by simp;omega)
theorem hv_snoc (l:List UInt8) (c:UInt8):hv (l++[c])=(hv l * 16+dgV c.toNat) % 18446744073709551616:=by simp[hv]
theorem hv_bound (l:List UInt8):0≤hv l∧hv l≤18446744073709551615:=by
 rcases List.eq_nil_or_concat l with h | ⟨l',c,rfl⟩
 ·subst h;simp[hv]
 ·rw[List.concat_eq_append,hv_snoc];omega
theorem allHex_snoc (l:List UInt8) (c:UInt8):allHex (l++[c])=(allHex l && dgB c.toNat):=by simp[allHex]
theorem dv_snoc (l:List UInt8) (c:UInt8):dv (l++[c])=dv l * 10+(dgV c.toNat).toNat:=by simp[dv]
theorem allDec_snoc (l:List UInt8) (c:UInt8):allDec (l++[c])=(allDec l && decide (48≤(c.toNat:Int)∧(c.toNat:Int)≤57)):=by simp[allDec]
theorem mem_at (s:ByteArray) (k:Nat) (h:k<s.size):s[k]∈s.data.toList:=Array.getElem_mem_toList (xs:=s.data) h
theorem not_all {s:ByteArray} {k:Nat} (h:k<s.size) {p:UInt8→Bool} (hp:p s[k]=false):s.data.toList.all p=false:=by
 rw[List.all_eq_false]
 exact ⟨_,mem_at s k h,by simp[hp]⟩
theorem empty_data {s:ByteArray} (h:s.toList.isEmpty=false):s.data.toList.isEmpty=false:=by rw[←ByteArray.toList_eq];exact h
theorem ret_ub {a b:Int} {c d:Bool} (h:a=b) (h':c=d):Ending.returned (.tuple #[.int .u64 a,.bool c])= .returned (.tuple #[.int .u64 b,.bool d]):=by rw[h,h']
theorem ret_ui {a b c d:Int} (h:a=b) (h':c=d):Ending.returned (.tuple #[.int .u64 a,.int .i64 c])= .returned (.tuple #[.int .u64 b,.int .i64 d]):=by rw[h,h']
set_option maxHeartbeats 400000 in
theorem digit_any (c:Int) (w:World) (h0:0≤c) (h1:c≤255):Calls Tryz.prog 160 #[.int .u8 c] w fun e w'=>e= .returned (.tuple #[.int .u64 (dgV c),.bool (dgB c)])∧w'=w:=by
 go_enter Tryz.func160,Tryz.ntmps160
 go_wp2
 all_goals go_ret2
 all_goals (refine ⟨ret_ub ?_ ?_,rfl⟩)
 all_goals first | (unfold dgV;(repeat' split)<;>omega) | (symm;simp[dgB];omega)
set_option maxHeartbeats 400000 in
theorem hex_none (s:ByteArray) (w:World) (hne:s.toList.isEmpty=true):Calls Tryz.prog 152 #[.string s] w fun e w'=>e= .returned (.tuple #[.int .u64 0,.int .i64 4])∧w'=w:=by
 go_enter Tryz.func152,Tryz.ntmps152
 go_wp2
 go_ret2
 exact ⟨rfl,rfl⟩
set_option maxHeartbeats 400000 in
theorem hex_some (s:ByteArray) (w:World) (hs:s.size≤maxLen) (hne:s.toList.isEmpty=false):Calls Tryz.prog 152 #[.string s] w fun e w'=>e= .returned (.tuple #[.int .u64 (hexN s.data.toList),.int .i64 (hexE s.data.toList)])∧w'=w:=by
 unfold maxLen at hs
 go_enter Tryz.func152,Tryz.ntmps152
 go_wp2
 go_loop [4,12] (fun n i=>∃k:Nat,k≤s.size∧i= .int .i64 k∧Hid (allHex (s.data.toList.take k)=true)∧∃m:Int,0≤m∧m≤18446744073709551615∧Hid (m=hv (s.data.toList.take k))∧n= .int .u64 m) (fun _ i=>s.size - (intOf i).toNat)
 case atStart=>exact ⟨0,Nat.zero_le _,rfl,by simp[allHex,Hid],0,by omega,by omega,by simp[hv,Hid],rfl⟩
 case round=>
  obtain ⟨k,hk,rfl,hA,m,hm0,hm1,hM,rfl⟩:=hrel
  by_cases hlt:k<s.size
  ·cases hd:dgB s[k].toNat
   ·have hx:allHex s.data.toList=false:=not_all hlt hd
    have HX:Hid (allHex s.data.toList=false):=hx
    clear hx
    go_wp2_with (go_at_call 160;refine (digit_any _ _ (by omega) (by have:=s[k].toNat_lt;omega)).mono ?_;rintro e w' ⟨rfl,rfl⟩)
    go_ret2
    exact ⟨ret_ui (by simp[hexN,HX.out]) (by simp[hexE,HX.out]),rfl⟩
   ·have hb:=dgV_bound s[k].toNat
    have HS:Hid (hv (s.data.toList.take (k+1))=(m * 16+dgV s[k].toNat) % 18446744073709551616):=by
     show _=_
     rw[take_snoc s k hlt,hv_snoc,←hM.out]
    have HA:Hid (allHex (s.data.toList.take (k+1))=true):=by
     show _=_
     rw[take_snoc s k hlt,allHex_snoc,hA.out,hd];rfl
    go_wp2_with (go_at_call 160;refine (digit_any _ _ (by omega) (by have:=s[k].toNat_lt;omega)).mono ?_;rintro e w' ⟨rfl,rfl⟩)
    go_round
    case rel=>
     refine ⟨k+1,by omega,by go_num,HA,_,?_,?_,?_,rfl⟩
     ·rw[IntKind.wrap_u64];omega
     ·rw[IntKind.wrap_u64];omega
     ·show _=_
      rw[HS.out];simp only[IntKind.wrap_u64];omega
    case measure=>simp[intOf];omega
  ·have HT:=take_all s k hlt
   rw[HT] at hA hM
   clear HT
   go_wp2
   go_ret2
   exact ⟨ret_ui (by rw[hM.out];simp[hexN,hA.out,empty_data hne]) (by simp[hexE,hA.out,empty_data hne]),rfl⟩
theorem hex_any (s:ByteArray) (w:World) (hs:s.size≤maxLen):Calls Tryz.prog 152 #[.string s] w fun e w'=>e= .returned (.tuple #[.int .u64 (hexN s.data.toList),.int .i64 (hexE s.data.toList)])∧w'=w:=by
 cases h:s.toList.isEmpty
 ·exact hex_some s w hs h
 ·have h':s.data.toList.isEmpty=true:=by rw[←ByteArray.toList_eq];exact h
  have e1:hexN s.data.toList=0:=by simp[hexN,h']
  have e2:hexE s.data.toList=4:=by simp[hexE,h']
  rw[e1,e2]
  exact hex_none s w h
end Go.Proofs.YtkjbgggghigapaaGreat.W


namespace Go.Proofs.YtkjbgggghigapaaGreat.W
open Go.RowKit
theorem dec_val (c : Int) (h : 48 ≤ c ∧ c ≤ 57) : dgB c = true ∧ dgV c = c - 48:=by
  constructor
  · simp [dgB,h]
  · simp [dgV,h]
set_option maxHeartbeats 400000 in
theorem dec_none (s : ByteArray) (most : Int) (w : World) (hne : s.toList.isEmpty = true) : Calls Tryz.prog 153 #[.string s,.int .u64 most] w fun e w'=>e = .returned (.tuple #[.int .u64 0,.int .i64 4]) ∧ w' = w:=by
  go_enter Tryz.func153,Tryz.ntmps153
  go_wp2
  go_ret2
  exact ⟨rfl,rfl⟩
def DecAt (l : List UInt8) (most m : Int) (big : Bool) : Prop:=(big = false → m = dv l ∧ m ≤ most) ∧ (big = true → most < dv l)
theorem decAt_step (l : List UInt8) (c : UInt8) (most m : Int) (big : Bool) (h : DecAt l most m big) (hd : 48 ≤ (c.toNat : Int) ∧ (c.toNat : Int) ≤ 57) (hm : 0 ≤ m) (hmost : most ≤ 9223372036854775808) (hlo : 9 ≤ most) :
    DecAt (l ++ [c]) most (IntKind.u64.wrap (IntKind.u64.wrap (m * 10) + ((c.toNat : Int) - 48))) (big || decide ((most - ((c.toNat : Int) - 48)) / 10 < m)):=by
  obtain ⟨h1,h2⟩:=h
  have e:=dv_snoc l c
  rw [(dec_val _ hd).2] at e
  constructor
  · intro hb
    simp only [Bool.or_eq_false_iff,decide_eq_false_iff_not] at hb
    obtain ⟨rfl,hle⟩:=h1 hb.1
    have h3 : (dv l : Int) * 10 + ((c.toNat : Int) - 48) ≤ most:=by omega
    have h4 : ((dv l : Int) * 10) % 18446744073709551616 = (dv l : Int) * 10:=by omega
    have h5 : ((dv l : Int) * 10 + ((c.toNat : Int) - 48)) % 18446744073709551616 = (dv l : Int) * 10 + ((c.toNat : Int) - 48):=by omega
    simp only [IntKind.wrap_u64,h4,h5]
    rw [e]
    exact ⟨by omega,h3⟩
  · intro hb
    simp only [Bool.or_eq_true,decide_eq_true_eq] at hb
    rw [e]
    rcases hb with hb | hb
    · have:=h2 hb;omega
    · cases big with
      | false=>obtain ⟨rfl,hle⟩:=h1 rfl;omega
      | true=>have:=h2 rfl;omega
set_option maxHeartbeats 1000000 in
theorem dec_some (s : ByteArray) (most : Int) (w : World) (hs : s.size ≤ maxLen) (hne : s.toList.isEmpty = false) (hlo : 9 ≤ most) (hmost : most ≤ 9223372036854775808) :
    Calls Tryz.prog 153 #[.string s,.int .u64 most] w fun e w'=>e = .returned (.tuple #[.int .u64 (decN s.data.toList most),.int .i64 (decE s.data.toList most)]) ∧ w' = w:=by
  unfold maxLen at hs
  go_enter Tryz.func153,Tryz.ntmps153
  go_wp2
  go_loop [6,7,15] (fun n b i=>∃ k : Nat,k ≤ s.size ∧ i = .int .i64 k ∧ Hid (allDec (s.data.toList.take k) = true) ∧ ∃ (m : Int) (big : Bool),0 ≤ m ∧ m ≤ 18446744073709551615 ∧ Hid (DecAt (s.data.toList.take k) most m big) ∧ n = .int .u64 m ∧ b = .bool big) (fun _ _ i=>s.size - (intOf i).toNat)
  case atStart=>exact ⟨0,Nat.zero_le _,rfl,by simp [allDec,Hid],0,false,by omega,by omega,by simp [dv,DecAt,Hid];omega,rfl,rfl⟩
  case round =>
    obtain ⟨k,hk,rfl,hA,m,big,hm0,hm1,hM,rfl,rfl⟩:=hrel
    by_cases hlt : k < s.size
    · by_cases hd : 48 ≤ (s[k].toNat : Int) ∧ (s[k].toNat : Int) ≤ 57
      · have HS:=decAt_step _ s[k] most m big hM.out hd hm0 hmost hlo
        rw [← take_snoc s k hlt] at HS
        have HS' : Hid (DecAt (s.data.toList.take (k + 1)) most (IntKind.u64.wrap (IntKind.u64.wrap (m * 10) + ((s[k].toNat : Int) - 48))) (big || decide ((most - ((s[k].toNat : Int) - 48)) / 10 < m))):=HS
        have HA : Hid (allDec (s.data.toList.take (k + 1)) = true):=by
          show _ = _
          rw [take_snoc s k hlt,allDec_snoc,hA.out,decide_eq_true hd];rfl
        obtain ⟨hv1,hv2⟩:=dec_val _ hd
        obtain ⟨hd1,hd2⟩:=hd
        clear HS hA hM
        have hfit : 0 ≤ IntKind.u64.wrap (IntKind.u64.wrap (m * 10) + ((s[k].toNat : Int) - 48)) ∧ IntKind.u64.wrap (IntKind.u64.wrap (m * 10) + ((s[k].toNat : Int) - 48)) ≤ 18446744073709551615:=by
          generalize IntKind.u64.wrap (m * 10) + ((s[k].toNat : Int) - 48) = z
          rw [IntKind.wrap_u64];omega
        have HF : Hid _:=hfit
        clear hfit
        cases big
        all_goals
          go_wp2_with (go_at_call 160;refine (digit_any _ _ (by omega) (by have:=s[k].toNat_lt;omega)).mono ?_;rintro e w' ⟨rfl,rfl⟩)
          go_round
          case rel=>exact ⟨k + 1,by omega,by go_num,HA,_,_,HF.out.1,HF.out.2,by simpa using HS',rfl,rfl⟩
          case measure=>simp [intOf];omega
      · have hx : allDec s.data.toList = false:=not_all hlt (decide_eq_false hd)
        have HX : Hid (allDec s.data.toList = false):=hx
        clear hx hA hM
        have hv : dgB s[k].toNat = false ∨ 9 < dgV s[k].toNat:=by
          generalize (s[k].toNat : Int) = c at hd
          by_cases h : dgB c = true
          · right
            simp [dgB] at h
            unfold dgV
            repeat' split
            all_goals omega
          · left;simpa using h
        have HD : Hid (¬ (48 ≤ (s[k].toNat : Int) ∧ (s[k].toNat : Int) ≤ 57)):=hd
        clear hd
        rcases hv with hv | hv
        · go_wp2_with (go_at_call 160;refine (digit_any _ _ (by omega) (by have:=s[k].toNat_lt;omega)).mono ?_;rintro e w' ⟨rfl,rfl⟩)
          go_ret2
          exact ⟨ret_ui (by simp [decN,HX.out]) (by simp [decE,HX.out]),rfl⟩
        · cases hb : dgB s[k].toNat
          all_goals
            go_wp2_with (go_at_call 160;refine (digit_any _ _ (by omega) (by have:=s[k].toNat_lt;omega)).mono ?_;rintro e w' ⟨rfl,rfl⟩)
            go_ret2
            exact ⟨ret_ui (by simp [decN,HX.out]) (by simp [decE,HX.out]),rfl⟩
    · have HT:=take_all s k hlt
      rw [HT] at hA hM
      clear HT
      cases big
      · go_wp2
        go_ret2
        obtain ⟨rfl,hle⟩:=hM.out.1 rfl
        exact ⟨ret_ui (by simp [decN,hA.out,empty_data hne];omega) (by simp [decE,hA.out,empty_data hne];omega),rfl⟩
      · go_wp2
        go_ret2
        have hlt:=hM.out.2 rfl
        exact ⟨ret_ui (by simp [decN,hA.out,empty_data hne];omega) (by simp [decE,hA.out,empty_data hne];omega),rfl⟩
theorem dec_any (s : ByteArray) (most : Int) (w : World) (hs : s.size ≤ maxLen) (hlo : 9 ≤ most) (hmost : most ≤ 9223372036854775808) :
    Calls Tryz.prog 153 #[.string s,.int .u64 most] w fun e w'=>e = .returned (.tuple #[.int .u64 (decN s.data.toList most),.int .i64 (decE s.data.toList most)]) ∧ w' = w:=by
  cases h : s.toList.isEmpty
  · exact dec_some s most w hs h hlo hmost
  · have h' : s.data.toList.isEmpty = true:=by rw [← ByteArray.toList_eq];exact h
    have e1 : decN s.data.toList most = 0:=by simp [decN,h']
    have e2 : decE s.data.toList most = 4:=by simp [decE,h']
    rw [e1,e2]
    exact dec_none s most w h
def hexP (l : List UInt8) : Bool:=match l with | a :: b :: _=>decide (a = 48) && (decide (b = 120) || decide (b = 88)) | _=>false
def numN (l : List UInt8) (most : Int) : Int:=if hexP l then hexN (l.drop 2) else decN l most
def numE (l : List UInt8) (most : Int) : Int:=if hexP l then hexE (l.drop 2) else decE l most
theorem hexP_iff (s : ByteArray) : hexP s.data.toList = true ↔ ∃ h : 2 ≤ s.size,(s[0]'(by omega)).toNat = 48 ∧ ((s[1]'(by omega)).toNat = 120 ∨ (s[1]'(by omega)).toNat = 88):=by
  obtain ⟨⟨l⟩⟩:=s
  match l with
  | []=>exact ⟨fun h=>by simp [hexP] at h,fun ⟨h,_⟩=>absurd h (by show ¬ 2 ≤ 0;omega)⟩
  | [a]=>exact ⟨fun h=>by simp [hexP] at h,fun ⟨h,_⟩=>absurd h (by show ¬ 2 ≤ 1;omega)⟩
  | a :: b :: t =>
    have e : ∀ (x : UInt8) (n : Nat) (hn : n < 256),(x.toNat = n) ↔ x = UInt8.ofNat n:=fun x n hn=>⟨fun h=>by apply UInt8.toNat_inj.1;simp [h];omega,fun h=>by subst h;simp;omega⟩
    have e0 : (⟨⟨a :: b :: t⟩⟩ : ByteArray)[0]'(by simp [ByteArray.size]) = a:=rfl
    have e1 : (⟨⟨a :: b :: t⟩⟩ : ByteArray)[1]'(by simp [ByteArray.size]) = b:=rfl
    simp only [hexP,Bool.and_eq_true,Bool.or_eq_true,decide_eq_true_eq]
    constructor
    · rintro ⟨rfl,rfl | rfl⟩
      · exact ⟨by simp [ByteArray.size],rfl,.inl rfl⟩
      · exact ⟨by simp [ByteArray.size],rfl,.inr rfl⟩
    · rintro ⟨_,h0,h1⟩
      rw [e0] at h0
      rw [e1] at h1
      exact ⟨(e a 48 (by omega)).1 h0,h1.imp (e b 120 (by omega)).1 (e b 88 (by omega)).1⟩
set_option maxHeartbeats 1000000 in
theorem numeral_any (s : ByteArray) (most : Int) (w : World) (hs : s.size ≤ maxLen) (hlo : 9 ≤ most) (hmost : most ≤ 9223372036854775808) :
    Calls Tryz.prog 137 #[.string s,.int .u64 most] w fun e w'=>e = .returned (.tuple #[.int .u64 (numN s.data.toList most),.int .i64 (numE s.data.toList most)]) ∧ w' = w:=by
  have hs':=hs
  unfold maxLen at hs'
  have HX : Hid _:=hexP_iff s
  have he : (s.extract 2 s.size).size ≤ maxLen:=by
    rw [ByteArray.size_extract];unfold maxLen;omega
  have HE : Hid ((s.data.toList.drop 2).take (s.size - 2) = s.data.toList.drop 2):=List.take_of_length_le (by simp)
  by_cases h2 : 2 ≤ s.size
  · go_enter Tryz.func137,Tryz.ntmps137
    go_wp2_with (first | (go_at_call 153;refine (dec_any _ _ _ hs hlo hmost).mono ?_;rintro e w' ⟨rfl,rfl⟩) | (go_at_call 152;refine (hex_any _ _ he).mono ?_;rintro e w' ⟨rfl,rfl⟩))
    · go_ret2
      have hp:=HX.out.2 ⟨h2,by omega,.inl (by omega)⟩
      exact ⟨ret_ui (by rw [HE.out];simp [numN,hp]) (by rw [HE.out];simp [numE,hp]),rfl⟩
    · go_ret2
      have h6 : ((s[1].toNat : Int) == 120) = true ∨ ((s[1].toNat : Int) == 88) = true:=by assumption
      have hp:=HX.out.2 ⟨h2,by omega,by simp only [beq_iff_eq] at h6;omega⟩
      exact ⟨ret_ui (by rw [HE.out];simp [numN,hp]) (by rw [HE.out];simp [numE,hp]),rfl⟩
    · go_ret2
      have h6 : ((s[1].toNat : Int) == 120) = false ∧ ((s[1].toNat : Int) == 88) = false:=by assumption
      have hp : hexP s.data.toList = false:=by
        rw [← Bool.not_eq_true]
        intro h
        obtain ⟨_,q0,q1⟩:=HX.out.1 h
        simp only [beq_eq_false_iff_ne] at h6
        omega
      exact ⟨ret_ui (by simp [numN,hp]) (by simp [numE,hp]),rfl⟩
    · go_ret2
      have hp : hexP s.data.toList = false:=by
        rw [← Bool.not_eq_true]
        intro h
        obtain ⟨_,q0,q1⟩:=HX.out.1 h
        omega
      exact ⟨ret_ui (by simp [numN,hp]) (by simp [numE,hp]),rfl⟩
  · have hp : hexP s.data.toList = false:=by
      rw [← Bool.not_eq_true]
      intro h
      exact h2 (HX.out.1 h).1
    have e1 : numN s.data.toList most = decN s.data.toList most:=by simp [numN,hp]
    have e2 : numE s.data.toList most = decE s.data.toList most:=by simp [numE,hp]
    rw [e1,e2]
    clear e1 e2 hp HX
    go_enter Tryz.func137,Tryz.ntmps137
    go_wp2_with (go_at_call 153;refine (dec_any _ _ _ hs hlo hmost).mono ?_;rintro e w' ⟨rfl,rfl⟩)
    go_ret2
    exact ⟨rfl,rfl⟩
def parN (l : List UInt8) : Int:=wrap64 (numN l 9223372036854775807)
def parE (l : List UInt8) : Int:=numE l 9223372036854775807
set_option maxHeartbeats 400000 in
theorem parse_any (s : ByteArray) (w : World) (hs : s.size ≤ maxLen) :
    Calls Tryz.prog 119 #[.string s] w fun e w'=>e = .returned (.tuple #[.int .i64 (parN s.data.toList),.int .i64 (parE s.data.toList)]) ∧ w' = w:=by
  go_enter Tryz.func119,Tryz.ntmps119
  go_wp2_with (go_at_call 137;refine (numeral_any _ _ _ hs (by omega) (by omega)).mono ?_;rintro e w' ⟨rfl,rfl⟩)
  go_ret2
  exact ⟨rfl,rfl⟩
end Go.Proofs.YtkjbgggghigapaaGreat.W


namespace Go.Proofs.YtkjbgggghigapaaGreat
open Go.RowKit
def rnL (l:List UInt8):Nat:=rn ⟨l.toArray⟩ 0
def wdL (l:List UInt8):Nat:=wd ⟨l.toArray⟩ 0
theorem extract_eq (s:ByteArray) (p:Nat):s.extract p s.size=⟨(s.data.toList.drop p).toArray⟩:=by
 have h:=Lib.extract_to_end s p
 apply ByteArray.ext
 rw[←h]
theorem rn_drop (s:ByteArray) (p:Nat):rn s p=rnL (s.data.toList.drop p):=by
 unfold rnL;rw[←extract_eq];have:=rn_extract s p 0;simpa using this.symm
theorem wd_drop (s:ByteArray) (p:Nat):wd s p=wdL (s.data.toList.drop p):=by
 unfold wdL;rw[←extract_eq];have:=wd_extract s p 0;simpa using this.symm
theorem sz_list (l:List UInt8):(⟨l.toArray⟩:ByteArray).size=l.length:=by simp[ByteArray.size]
theorem get_list (l:List UInt8) (i:Nat):(⟨l.toArray⟩:ByteArray).get! i=l.getD i 0:=by rw[get_data]
theorem dec_list (l:List UInt8):(rnL l,wdL l)=Lib.decodeN l.length (l.getD 0 0).toNat (l.getD 1 0).toNat (l.getD 2 0).toNat (l.getD 3 0).toNat:=by
 unfold rnL wdL rn wd
 rw[Lib.decode_at]
 simp only[Nat.sub_zero,sz_list,get_list,Nat.zero_add]
theorem wdL_pos (l:List UInt8):1≤wdL l:=wd_pos _ _
theorem wdL_le (l:List UInt8) (h:l≠[]):wdL l≤l.length:=by
 have h1:0<l.length:=List.length_pos_iff.2 h
 have:=wd_le ⟨l.toArray⟩ 0 (by rw[sz_list];exact h1)
 rw[sz_list] at this
 simpa [wdL] using this
theorem toN (c:UInt8) (n:Nat) (h:n<256):c.toNat=n↔c=UInt8.ofNat n:=
 ⟨fun e=>by apply UInt8.toNat_inj.1;simp[e];omega,fun e=>by subst e;simp;omega⟩
theorem asc (c:UInt8) (t:List UInt8) (h:c.toNat<128):rnL (c::t)=c.toNat∧wdL (c::t)=1:=by
 have:=dec_list (c::t)
 simp only[List.getD_cons_zero] at this
 have e:Lib.decodeN (c::t).length c.toNat ((c::t).getD 1 0).toNat ((c::t).getD 2 0).toNat ((c::t).getD 3 0).toNat=(c.toNat,1):=by
  unfold Lib.decodeN;rw[if_pos h]
 rw[e] at this
 exact ⟨congrArg Prod.fst this,congrArg Prod.snd this⟩
theorem decodeN_hi (n b0 b1 b2 b3:Nat) (h:128≤b0):128≤(Lib.decodeN n b0 b1 b2 b3).1:=by
 unfold Lib.decodeN
 repeat' split
 all_goals simp only
 all_goals omega
theorem hi (c:UInt8) (t:List UInt8) (h:128≤c.toNat):128≤rnL (c::t):=by
 have:=congrArg Prod.fst (dec_list (c::t))
 simp only[List.getD_cons_zero] at this
 rw[this]
 exact decodeN_hi _ _ _ _ _ h
theorem rn_lt (c:UInt8) (t:List UInt8) (h:rnL (c::t)<128):c.toNat=rnL (c::t)∧wdL (c::t)=1:=by
 rcases Nat.lt_or_ge c.toNat 128 with h1 | h1
 ·have:=asc c t h1;exact ⟨this.1.symm,this.2⟩
 ·have:=hi c t h1;omega
theorem decodeN_bytes (n b0 b1 b2 b3:Nat) (h:128≤b0):
 (2≤(Lib.decodeN n b0 b1 b2 b3).2→128≤b1)∧(3≤(Lib.decodeN n b0 b1 b2 b3).2→128≤b2)∧(4≤(Lib.decodeN n b0 b1 b2 b3).2→128≤b3)∧(Lib.decodeN n b0 b1 b2 b3).2≤4:=by
 unfold Lib.decodeN
 repeat' split
 all_goals (refine ⟨?_,?_,?_,?_⟩<;>simp only<;>(try intros)<;>omega)
theorem hi_bytes (c:UInt8) (t:List UInt8) (h:128≤c.toNat):∀x∈(c::t).take (wdL (c::t)),128≤x.toNat:=by
 have e:=congrArg Prod.snd (dec_list (c::t))
 simp only[List.getD_cons_zero] at e
 obtain ⟨h1,h2,h3,h4⟩:=decodeN_bytes (c::t).length c.toNat ((c::t).getD 1 0).toNat ((c::t).getD 2 0).toNat ((c::t).getD 3 0).toNat h
 rw[←e] at h1 h2 h3 h4
 have hl:=wdL_le (c::t) (by simp)
 intro x hx
 obtain ⟨i,hi,rfl⟩:=List.getElem_of_mem hx
 rw[List.getElem_take]
 rw[List.length_take] at hi
 have key:∀j (hj:j<(c::t).length),(c::t)[j]=(c::t).getD j 0:=fun j hj=>by rw[List.getD_eq_getElem?_getD,List.getElem?_eq_getElem hj];rfl
 rw[key i (by omega)]
 match i,hi with
 | 0,_=>simpa using h
 | 1,hi=>exact h1 (by omega)
 | 2,hi=>exact h2 (by omega)
 | 3,hi=>exact h3 (by omega)
 | i+4,hi=>omega
def spn (f:Nat→Bool):List UInt8→Nat
 | []=>0
 | c::t=>if f (rnL (c::t)) then wdL (c::t)+spn f (t.drop (wdL (c::t) - 1)) else 0
termination_by l=>l.length
decreasing_by simp;omega
theorem drop_wd (c:UInt8) (t:List UInt8) (n:Nat) (h:1≤n):t.drop (n - 1)=(c::t).drop n:=by
 obtain ⟨m,rfl⟩:∃m,n=m+1:=⟨n - 1,by omega⟩
 simp
theorem spn_yes (f:Nat→Bool) (l:List UInt8) (h:l≠[]) (hf:f (rnL l)=true):spn f l=wdL l+spn f (l.drop (wdL l)):=by
 match l,h with
 | c::t,_=>rw[spn,if_pos hf,drop_wd c t _ (wdL_pos _)]
theorem spn_no (f:Nat→Bool) (l:List UInt8) (h:l≠[]) (hf:f (rnL l)=false):spn f l=0:=by
 match l,h with
 | c::t,_=>rw[spn,hf];rfl
theorem spn_nil (f:Nat→Bool):spn f []=0:=by rw[spn]
theorem spn_le (f:Nat→Bool) (l:List UInt8):spn f l≤l.length:=by
 by_cases h:l=[]
 ·subst h;rw[spn_nil];simp
 ·cases hf:f (rnL l)
  ·rw[spn_no f l h hf];omega
  ·rw[spn_yes f l h hf]
   have h1:=wdL_le l h
   have h2:=spn_le f (l.drop (wdL l))
   rw[List.length_drop] at h2
   omega
termination_by l.length
decreasing_by
 have:=List.length_pos_iff.2 h;have:=wdL_pos l
 rw[List.length_drop];omega
def inNm (r:Nat):Bool:=letB r || digB r
def wordL:List (List UInt8):=[[97,110,100],[98,114,101,97,107],[100,111],[101,108,115,101],[101,108,115,101,105,102],[101,110,100],[102,97,108,115,101],[102,111,114],[102,117,110,99,116,105,111,110],[105,102],[105,110],[108,111,99,97,108],[110,105,108],[110,111,116],[111,114],[114,101,116,117,114,110],[116,104,101,110],[116,114,117,101],[119,104,105,108,101]]
def wordB (l:List UInt8):Bool:=wordL.contains l
def sgn2:List (List UInt8):=[[61,61],[126,61],[60,61],[62,61],[47,47],[46,46]]
def sgn1:List UInt8:=[43,45,42,37,60,62,61,35,40,41,123,125,91,93,59,44,46]
def sgz (l:List UInt8):Nat:=if sgn2.contains (l.take 2) then 2 else if sgn1.contains (l.headD 0) then 1 else 0
def hxs (m:Nat) (l:List UInt8):List UInt8:=(l.take m).takeWhile fun c=>W.dgB c.toNat
def dgs (m:Nat) (l:List UInt8):List UInt8:=(l.take m).takeWhile fun c=>decide (48≤(c.toNat:Int)∧(c.toNat:Int)≤57)
def escX (u:List UInt8):List UInt8×Nat:=if (hxs 2 u).length=2 then ([UInt8.ofNat (W.hv (hxs 2 u)).toNat],3) else ([],0)
def escU (u:List UInt8):List UInt8×Nat:=
 if u.headD 0=123∧hxs 8 (u.drop 1)≠[]∧encB (W.hv (hxs 8 (u.drop 1)))=true∧(u.drop (1+(hxs 8 (u.drop 1)).length)).headD 0=125
 then ((encS (W.hv (hxs 8 (u.drop 1)))).data.toList,(hxs 8 (u.drop 1)).length+3) else ([],0)
def escD (t:List UInt8):List UInt8×Nat:=if dgs 3 t=[]∨255<W.dv (dgs 3 t) then ([],0) else ([UInt8.ofNat (W.dv (dgs 3 t))],(dgs 3 t).length)
def esc:List UInt8→List UInt8×Nat
 | []=>([],0)
 | c::u=>
   if c.toNat=110 then ([10],1) else if c.toNat=116 then ([9],1) else if c.toNat=114 then ([13],1)
   else if c.toNat=92∨c.toNat=34∨c.toNat=39 then ([c],1)
   else if c.toNat=120 then escX u
   else if c.toNat=117 then escU u
   else escD (c::u)
inductive QR
 | ok (v:List UInt8) (n:Nat)
 | bad (c:Int) (o:Nat)
def qt (q:UInt8) (l:List UInt8) (i:Nat) (acc:List UInt8):QR:=
 match l with
 | []=>.bad 4 0
 | c::t=>
   if c.toNat=10 then .bad 4 0
   else if c=q then (if 10000<acc.length then .bad 14 0 else .ok acc (i+1))
   else if c.toNat=92 then
    if t=[] then .bad 4 0
    else if (esc t).2=0 then .bad 4 i
    else qt q (t.drop (esc t).2) (i+1+(esc t).2) (acc++(esc t).1)
   else qt q t (i+1) (acc++[c])
termination_by l.length
decreasing_by all_goals (simp;try omega)
inductive St
 | skip (n:Nat)
 | tok (k:Int) (t:List UInt8) (v:Int) (n:Nat)
 | bad (c:Int) (o:Nat)
def stp (l:List UInt8):St:=
 if rnL l=32∨rnL l=9∨rnL l=10∨rnL l=13 then .skip 1
 else if Lib.hasPrefix l [45,45] then .skip (spn (fun r=>decide (r≠10)) l)
 else if letB (rnL l) then
  if 40<spn inNm l then .bad 14 0
  else .tok (if wordB (l.take (spn inNm l)) then 2 else 1) (l.take (spn inNm l)) 0 (spn inNm l)
 else if digB (rnL l) then
  if W.parE (l.take (spn inNm l))≠0 then .bad (W.parE (l.take (spn inNm l))) 0
  else .tok 3 (l.take (spn inNm l)) (W.parN (l.take (spn inNm l))) (spn inNm l)
 else if rnL l=39∨rnL l=34 then
  match qt (l.headD 0) (l.drop 1) 1 [] with
  | .ok v n=>.tok 4 v 0 n
  | .bad c o=>.bad c o
 else if sgz l=0 then .bad 4 0
 else .tok 5 (l.take (sgz l)) 0 (sgz l)
structure Tok where
 k:Int
 t:List UInt8
 v:Int
 p:Nat
inductive Res
 | ok (ts:List Tok)
 | bad (c:Int) (p:Nat)
def scn (l:List UInt8) (p:Nat) (acc:List Tok):Res:=
 match l with
 | []=>.ok (acc++[⟨6,[],0,p⟩])
 | c::u=>
   match stp (c::u) with
   | .skip n=>scn (u.drop (n - 1)) (p+n) acc
   | .tok k t v n=>scn (u.drop (n - 1)) (p+n) (acc++[⟨k,t,v,p⟩])
   | .bad d o=>.bad d (p+o)
termination_by l.length
decreasing_by all_goals (simp;try omega)
theorem sgz_le (l:List UInt8):sgz l≤2∧(sgz l≤l.length):=by
 unfold sgz
 split
 ·rename_i h
  have :l.take 2∈sgn2:=by simpa using h
  have h2:(l.take 2).length=2:=by
   simp only[sgn2,List.mem_cons,List.not_mem_nil,or_false] at this
   rcases this with e | e | e | e | e | e<;>rw[e]<;>rfl
  rw[List.length_take] at h2
  omega
 ·split
  ·rename_i h
   refine ⟨by omega,?_⟩
   cases l with
   | nil=>simp[sgn1] at h
   | cons a l=>simp
  ·omega
theorem qt_le (q:UInt8) (l:List UInt8) (i:Nat) (acc:List UInt8):∀v n,qt q l i acc= .ok v n→i+1≤n∧n≤i+l.length:=by
 match l with
 | []=>intro v n h;rw[qt] at h;cases h
 | c::t=>
   intro v n h
   rw[qt] at h
   split at h
   ·cases h
   ·split at h
    ·split at h
     ·cases h
     ·cases h;simp
    ·split at h
     ·split at h
      ·cases h
      ·split at h
       ·cases h
       ·rename_i h1 h2 h3 h4 h5
        have:=qt_le q (t.drop (esc t).2) _ _ v n h
        rw[List.length_drop] at this
        simp only[List.length_cons]
        have ht:0<t.length:=List.length_pos_iff.2 h4
        by_cases hd:(esc t).2≤t.length
        ·omega
        ·exfalso
         rw[List.drop_of_length_le (by omega),qt] at h
         cases h
     ·have:=qt_le q t _ _ v n h
      simp only[List.length_cons]
      omega
termination_by l.length
decreasing_by all_goals (simp;try omega)
theorem stp_pos (l:List UInt8) (hl:l≠[]):(∀n,stp l= .skip n→1≤n∧n≤l.length)∧(∀k t v n,stp l= .tok k t v n→1≤n∧n≤l.length):=by
 have hlen:=List.length_pos_iff.2 hl
 have hsp:∀f,f (rnL l)=true→1≤spn f l∧spn f l≤l.length:=fun f hf=>by
  refine ⟨?_,spn_le f l⟩
  rw[spn_yes f l hl hf];have:=wdL_pos l;omega
 unfold stp
 split
 ·exact ⟨fun n h=>(by cases h;omega),fun k t v n h=>(by cases h)⟩
 ·split
  ·rename_i h1 h2
   refine ⟨fun n h=>?_,fun k t v n h=>(by cases h)⟩
   cases h
   exact hsp _ (by simp;intro e;exact h1 (.inr (.inr (.inl e))))
  ·split
   ·rename_i h3
    split
    ·exact ⟨fun n h=>(by cases h),fun k t v n h=>(by cases h)⟩
    ·refine ⟨fun n h=>(by cases h),fun k t v n h=>?_⟩
     cases h
     exact hsp _ (by unfold inNm;rw[h3];rfl)
   ·split
    ·rename_i h3
     split
     ·exact ⟨fun n h=>(by cases h),fun k t v n h=>(by cases h)⟩
     ·refine ⟨fun n h=>(by cases h),fun k t v n h=>?_⟩
      cases h
      exact hsp _ (by unfold inNm;rw[h3];simp)
    ·split
     ·have:=qt_le (l.headD 0) (l.drop 1) 1 []
      cases hq:qt (l.headD 0) (l.drop 1) 1 [] with
      | ok v n=>
        refine ⟨fun n h=>(by cases h),fun k t v' n' h=>?_⟩
        cases h
        have:=this _ _ hq
        rw[List.length_drop] at this
        omega
      | bad c o=>exact ⟨fun n h=>(by cases h),fun k t v n h=>(by cases h)⟩
     ·split
      ·exact ⟨fun n h=>(by cases h),fun k t v n h=>(by cases h)⟩
      ·refine ⟨fun n h=>(by cases h),fun k t v n h=>?_⟩
       cases h
       have:=sgz_le l
       omega
theorem scn_nil (p:Nat) (acc:List Tok):scn [] p acc= .ok (acc++[⟨6,[],0,p⟩]):=by rw[scn]
theorem scn_skip {l:List UInt8} (hl:l≠[]) {n:Nat} (h:stp l= .skip n) (p:Nat) (acc:List Tok):scn l p acc=scn (l.drop n) (p+n) acc:=by
 have hp:=((stp_pos l hl).1 n h).1
 match l,hl with
 | c::u,_=>rw[scn,h];simp only;rw[drop_wd c u n hp]
theorem scn_tok {l:List UInt8} (hl:l≠[]) {k:Int} {t:List UInt8} {v:Int} {n:Nat} (h:stp l= .tok k t v n) (p:Nat) (acc:List Tok):scn l p acc=scn (l.drop n) (p+n) (acc++[⟨k,t,v,p⟩]):=by
 have hp:=((stp_pos l hl).2 k t v n h).1
 match l,hl with
 | c::u,_=>rw[scn,h];simp only;rw[drop_wd c u n hp]
theorem scn_bad {l:List UInt8} (hl:l≠[]) {c:Int} {o:Nat} (h:stp l= .bad c o) (p:Nat) (acc:List Tok):scn l p acc= .bad c (p+o):=by
 match l,hl with
 | x::u,_=>rw[scn,h]
end Go.Proofs.YtkjbgggghigapaaGreat


namespace Go.Proofs.YtkjbgggghigapaaGreat
inductive F
 | nil
 | cons (k:Int) (t:List UInt8) (n p:Int) (ks r:F)
def F.app:F→F→F
 | .nil,g=>g
 | .cons k t n p ks r,g=>.cons k t n p ks (r.app g)
def F.len:F→Nat
 | .nil=>0
 | .cons _ _ _ _ _ r=>r.len+1
def F.at:F→Int
 | .nil=>0
 | .cons _ _ _ p _ _=>p
def F.kind:F→Int
 | .nil=>0
 | .cons k _ _ _ _ _=>k
def F.text:F→List UInt8
 | .nil=>[]
 | .cons _ t _ _ _ _=>t
def one (k:Int) (t:List UInt8) (n p:Int) (ks:F):F:=.cons k t n p ks .nil
theorem F.len_app:∀f g:F,(f.app g).len=f.len+g.len
 | .nil,g=>by simp[F.app,F.len]
 | .cons k t n p ks r,g=>by simp only[F.app,F.len,F.len_app r g];omega
def wds:Nat→List UInt8
 | 1=>[59] | 2=>[114,101,116,117,114,110] | 3=>[102,117,110,99,116,105,111,110] | 4=>[101,110,100] | 5=>[101,108,115,101]
 | 6=>[101,108,115,101,105,102] | 7=>[100,111] | 8=>[119,104,105,108,101] | 9=>[105,102] | 10=>[102,111,114]
 | 11=>[108,111,99,97,108] | 12=>[98,114,101,97,107] | 13=>[116,104,101,110] | 14=>[61] | 15=>[44]
 | 16=>[105,110] | 17=>[40] | 18=>[41] | 19=>[91] | 20=>[93]
 | 21=>[46] | 22=>[123] | 23=>[125] | 24=>[110,111,116] | 25=>[35]
 | 26=>[45] | 27=>[110,105,108] | 28=>[116,114,117,101] | 29=>[102,97,108,115,101] | 30=>[111,114]
 | 31=>[97,110,100] | 32=>[60] | 33=>[62] | 34=>[60,61] | 35=>[62,61]
 | 36=>[126,61] | 37=>[61,61] | 38=>[46,46] | 39=>[43] | 40=>[42]
 | 41=>[47,47] | 42=>[37] | _=>[]
def code (t:List UInt8):Nat:=((List.range 42).find? fun i=>wds (i+1)==t).elim 0 (· +1)
def rd (t:Tok) (w:List UInt8):Bool:=(t.k==2 || t.k==5) && t.t==w
def cls (t:Tok):Nat:=if t.k=2∨t.k=5 then code t.t else if t.k=1 then 51 else if t.k=3 then 53 else if t.k=4 then 54 else if t.k=6 then 56 else 50
theorem code_wds':∀c∈List.range 43,1≤c→code (wds c)=c:=by decide
theorem code_wds (c:Nat) (h:1≤c) (h2:c≤42):code (wds c)=c:=code_wds' c (List.mem_range.2 (by omega)) h
theorem code_inv (t:List UInt8) (c:Nat) (h:code t=c) (hc:c≠0):wds c=t∧c≤42:=by
 unfold code at h
 cases hf:(List.range 42).find? fun i=>wds (i+1)==t with
 | none=>rw[hf] at h;exact absurd h.symm hc
 | some i=>
   rw[hf] at h
   have h1:=List.find?_some hf
   have h2:=List.mem_of_find?_eq_some hf
   simp at h1 h2 h
   subst h
   exact ⟨h1,by omega⟩
theorem code_le (t:List UInt8):code t≤42:=by
 by_cases h:code t=0
 ·omega
 ·exact (code_inv t _ rfl h).2
theorem rd_cls (t:Tok) (c:Nat) (h1:1≤c) (h2:c≤42):rd t (wds c)=decide (cls t=c):=by
 unfold rd cls
 by_cases hk:t.k=2∨t.k=5
 ·rw[if_pos hk]
  have :(t.k==2 || t.k==5)=true:=by simpa using hk
  rw[this,Bool.true_and]
  by_cases ht:t.t=wds c
  ·rw[ht,code_wds c h1 h2];simp
  ·have :¬code t.t=c:=fun h=>ht (code_inv _ _ h (by omega)).1.symm
   simp[ht,this]
 ·rw[if_neg hk]
  have h0:(t.k==2 || t.k==5)=false:=by simpa using hk
  rw[h0,Bool.false_and]
  symm
  simp only[decide_eq_false_iff_not]
  split
  ·omega
  ·split
   ·omega
   ·split
    ·omega
    ·split<;>omega
theorem cls_kind (t:Tok) (c:Nat) (h:cls t=c) (h1:51≤c):t.k=c - 50:=by
 unfold cls at h
 have:=code_le t.t
 split at h
 ·omega
 ·split at h
  ·omega
  ·split at h
   ·omega
   ·split at h
    ·omega
    ·split at h<;>omega
theorem cls_of_kind (t:Tok) (c:Nat) (h:t.k=c) (hc:c=1∨c=3∨c=4∨c=6):cls t=50+c:=by
 unfold cls
 rcases hc with rfl | rfl | rfl | rfl<;>simp[h]
def bnd (c:Nat):Nat:=
 if c=30 then 1 else if c=31 then 2 else if 32≤c∧c≤37 then 3 else if c=38 then 4 else if c=39∨c=26 then 5 else if 40≤c∧c≤42 then 6 else 0
inductive PR
 | ok (f:F) (l:List Tok)
 | bad (p:Int)
 | out
def PR.bind (x:PR) (k:F→List Tok→PR):PR:=
 match x with
 | .ok f l=>k f l
 | .bad p=>.bad p
 | .out=>.out
inductive J
 | blk (c:Bool) | bk (c:Bool) (a:F) | stat | lst (a:F) | nms (a:F) | ifs (a:F) | asg (a:F)
 | ex (a:Nat) | exl (a:Nat) (f:F) | opd | suf | sufl (f:F) | tab (a:F) | fld
def hc:List Tok→Nat
 | []=>56
 | t::_=>cls t
def ha:List Tok→Int
 | []=>0
 | t::_=>t.p
def ht:List Tok→List UInt8
 | []=>[]
 | t::_=>t.t
def hv:List Tok→Int
 | []=>0
 | t::_=>t.v
def need (c:Nat) (l:List Tok) (k:List Tok→PR):PR:=if hc l=c then k l.tail else .bad (ha l)
def nam (q:Int) (l:List Tok) (k:F→List Tok→PR):PR:=if hc l=51 then k (one q (ht l) 0 (ha l) .nil) l.tail else .bad (ha l)
def closes (l:List Tok):Bool:=hc l=56∨hc l=4∨hc l=5∨hc l=6
section
variable (rec:J→List Tok→PR)
def bodyP (l:List Tok) (k:F→List Tok→PR):PR:=need 7 l fun l=>(rec (.blk false) l).bind fun f l=>need 4 l fun l=>k f l
def lastP (l:List Tok):PR:=
 if hc l.tail=1 then .ok (one 30 [] 0 (ha l) .nil) l.tail.tail
 else if closes l.tail then .ok (one 30 [] 0 (ha l) .nil) l.tail
 else (rec (.lst .nil) l.tail).bind fun f m=>.ok (one 30 [] 0 (ha l) f) (if hc m=1 then m.tail else m)
def parP (l:List Tok):PR:=if hc l=18 then .ok .nil l else nam 6 l fun f l=>rec (.nms f) l
def funP (l:List Tok):PR:=
 nam 6 l.tail fun m l1=>need 17 l1 fun l1=>(parP rec l1).bind fun ps l1=>need 18 l1 fun l1=>
  (rec (.blk false) l1).bind fun b l1=>need 4 l1 fun l1=>.ok (one 31 m.text ps.len (ha l) (ps.app b)) l1
def whileP (l:List Tok):PR:=(rec (.ex 0) l.tail).bind fun e l1=>bodyP rec l1 fun b l1=>.ok (one 25 [] 0 (ha l) (e.app b)) l1
def ifP (l:List Tok):PR:=(rec (.ifs .nil) l.tail).bind fun f l1=>.ok (one 24 [] 0 (ha l) f) l1
def brP (a:F) (l:List Tok):PR:=(rec (.ex 0) l).bind fun e l=>need 13 l fun l=>(rec (.blk false) l).bind fun b l=>.ok ((a.app e).app b) l
def numP (at':Int) (a:F) (l:List Tok):PR:=
 (rec (.ex 0) l).bind fun e1 l=>need 15 l fun l=>(rec (.ex 0) l).bind fun e2 l=>
  if hc l=15 then (rec (.ex 0) l.tail).bind fun e3 l=>bodyP rec l fun b l=>.ok (one 26 [] 0 at' ((((a.app e1).app e2).app e3).app b)) l
  else bodyP rec l fun b l=>.ok (one 26 [] 0 at' (((a.app e1).app e2).app b)) l
def forP (l:List Tok):PR:=
 nam 6 l.tail fun m l1=>
  if hc l1=14 then numP rec (ha l) m l1.tail
  else (rec (.nms m) l1).bind fun ns l1=>need 16 l1 fun l1=>(rec (.lst ns) l1).bind fun f l1=>bodyP rec l1 fun b l1=>.ok (one 27 [] ns.len (ha l) (f.app b)) l1
def locP (l:List Tok):PR:=
 nam 6 l.tail fun m l1=>(rec (.nms m) l1).bind fun ns l1=>
  if hc l1=14 then (rec (.lst ns) l1.tail).bind fun f l1=>.ok (one 21 [] ns.len (ha l) f) l1
  else .ok (one 21 [] ns.len (ha l) ns) l1
def tgt (f:F) (k:PR):PR:=if f.kind=6∨f.kind=7 then k else .bad f.at
def asgP (l:List Tok):PR:=
 (rec .suf l).bind fun f l1=>
  if hc l1=14∨hc l1=15 then
   tgt f ((rec (.asg f) l1).bind fun ts l1=>need 14 l1 fun l1=>(rec (.lst ts) l1).bind fun g l1=>.ok (one 22 [] ts.len f.at g) l1)
  else if f.kind=8 then .ok (one 23 [] 0 f.at f) l1 else .bad (ha l1)
def argP (a:F) (l:List Tok):PR:=if hc l=18 then .ok a l.tail else (rec (.lst a) l).bind fun f l=>need 18 l fun l=>.ok f l
def stemP (l:List Tok):PR:=
 if hc l=17 then (rec (.ex 0) l.tail).bind fun e l1=>need 18 l1 fun l1=>.ok (one 9 [] 0 (ha l) e) l1
 else nam 6 l fun f l=>.ok f l
def tabP (l:List Tok):PR:=(rec (.tab .nil) l.tail).bind fun f l1=>need 23 l1 fun l1=>.ok (one 12 [] 0 (ha l) f) l1
def stp':J→List Tok→PR
 | .blk c,l=>(rec (.bk c .nil) l).bind fun f l1=>.ok (one 20 [] 0 (ha l) f) l1
 | .bk c a,l=>
   if hc l=1 then rec (.bk c a) l.tail
   else if hc l=2 then (lastP rec l).bind fun f l=>.ok (a.app f) l
   else if c=true∧hc l=3 then (funP rec l).bind fun f l=>rec (.bk c (a.app f)) l
   else if closes l then .ok a l
   else (rec .stat l).bind fun f l=>rec (.bk c (a.app f)) l
 | .stat,l=>
   if hc l=7 then bodyP rec l fun b l1=>.ok (one 28 [] 0 (ha l) b) l1
   else if hc l=8 then whileP rec l
   else if hc l=9 then ifP rec l
   else if hc l=10 then forP rec l
   else if hc l=11 then locP rec l
   else if hc l=12 then .ok (one 29 [] 0 (ha l) .nil) l.tail
   else asgP rec l
 | .lst a,l=>(rec (.ex 0) l).bind fun f l=>if hc l=15 then rec (.lst (a.app f)) l.tail else .ok (a.app f) l
 | .nms a,l=>if hc l=15 then nam 6 l.tail fun f l=>rec (.nms (a.app f)) l else .ok a l
 | .ifs a,l=>(brP rec a l).bind fun f l=>
   if hc l=6 then rec (.ifs f) l.tail
   else if hc l=5 then (rec (.blk false) l.tail).bind fun b l=>need 4 l fun l=>.ok (f.app b) l
   else need 4 l fun l=>.ok f l
 | .asg a,l=>if hc l=15 then (rec .suf l.tail).bind fun f l=>tgt f (rec (.asg (a.app f)) l) else .ok a l
 | .ex a,l=>(rec .opd l).bind fun f l=>rec (.exl a f) l
 | .exl a f,l=>
   if a<bnd (hc l) then (rec (.ex (if bnd (hc l)=4 then 3 else bnd (hc l))) l.tail).bind fun g l1=>rec (.exl a (one 11 (ht l) 0 f.at (f.app g))) l1
   else .ok f l
 | .opd,l=>
   if hc l=51∨hc l=17 then rec .suf l
   else if hc l=22 then tabP rec l
   else if hc l=24∨hc l=25∨hc l=26 then (rec .opd l.tail).bind fun f l1=>.ok (one 10 (ht l) 0 (ha l) f) l1
   else if hc l=53 then .ok (one 4 [] (hv l) (ha l) .nil) l.tail
   else if hc l=54 then .ok (one 5 (ht l) 0 (ha l) .nil) l.tail
   else if hc l=27 then .ok (one 1 [] 0 (ha l) .nil) l.tail
   else if hc l=28 then .ok (one 2 [] 0 (ha l) .nil) l.tail
   else if hc l=29 then .ok (one 3 [] 0 (ha l) .nil) l.tail
   else .bad (ha l)
 | .suf,l=>(stemP rec l).bind fun f l=>rec (.sufl f) l
 | .sufl f,l=>
   if hc l=19 then (rec (.ex 0) l.tail).bind fun k l=>need 20 l fun l=>rec (.sufl (one 7 [] 0 f.at (f.app k))) l
   else if hc l=21 then nam 5 l.tail fun k l=>rec (.sufl (one 7 [] 0 f.at (f.app k))) l
   else if hc l=17 then (argP rec f l.tail).bind fun g l=>rec (.sufl (one 8 [] 0 f.at g)) l
   else .ok f l
 | .tab a,l=>
   if hc l=23 then .ok a l
   else (rec .fld l).bind fun f l=>if hc l=15∨hc l=1 then rec (.tab (a.app f)) l.tail else .ok (a.app f) l
 | .fld,l=>
   if hc l=19 then (rec (.ex 0) l.tail).bind fun k l1=>need 20 l1 fun l1=>need 14 l1 fun l1=>(rec (.ex 0) l1).bind fun v l1=>.ok (one 14 [] 0 (ha l) (k.app v)) l1
   else if hc l=51∧hc l.tail=14 then (rec (.ex 0) l.tail.tail).bind fun v l1=>.ok (one 14 [] 0 (ha l) ((one 5 (ht l) 0 (ha l) .nil).app v)) l1
   else (rec (.ex 0) l).bind fun v l1=>.ok (one 13 [] 0 (ha l) v) l1
end
def pr:Nat→J→List Tok→PR
 | 0=>fun _ _=>.out
 | n+1=>stp' (pr n)
theorem pr_succ (n:Nat) (j:J) (l:List Tok):pr (n+1) j l=stp' (pr n) j l:=rfl
theorem bind_out {x:PR} {k:F→List Tok→PR} (h:x.bind k≠ .out):x≠ .out:=by
 intro e;rw[e] at h;exact h rfl
end Go.Proofs.YtkjbgggghigapaaGreat
