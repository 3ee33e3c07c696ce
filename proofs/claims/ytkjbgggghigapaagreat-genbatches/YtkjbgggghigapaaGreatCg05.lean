import Derived.Test.YtkjbgggghigapaaGreatCg04
import Derived.Defers
import Derived.Recover
import Derived.Laws.StructEq
namespace Go.Proofs.YtkjbgggghigapaaGreat
open Go.RowKit
def TO (b B:Nat) (s:ByteArray) (ts:List Tok) (V:World) (p:Nat):St→Ending→World→Prop
 | .skip n,e,W'=>e= .returned (.int .i64 ((p+n:Nat):Int))∧SC b B s ts W'∧Kp b B V W'
 | .tok k t v n,e,W'=>e= .returned (.int .i64 ((p+n:Nat):Int))∧SC b B s (ts++[⟨k,t,v,p⟩]) W'∧Kp b B V W'
 | .bad c x,e,W'=>e=refu c ((p+x:Nat):Int)∧Kp b B V W'
theorem stp_blank (l:List UInt8) (r:Nat) (hr:rnL l=r) (h:r=32∨r=9∨r=10∨r=13):stp l= .skip 1:=by
 unfold stp;rw[hr,if_pos h]
theorem stp_comment (l:List UInt8) (r:Nat) (hr:rnL l=r) (h:¬(r=32∨r=9∨r=10∨r=13)) (hc:Lib.hasPrefix l [45,45]=true):stp l= .skip (spn (fun r=>decide (r≠10)) l):=by
 unfold stp;rw[hr,if_neg h,if_pos hc]
theorem stp_name (l:List UInt8) (r:Nat) (hr:rnL l=r) (h:¬(r=32∨r=9∨r=10∨r=13)) (hc:Lib.hasPrefix l [45,45]=false) (hl:letB r=true):
 stp l=if 40<spn inNm l then .bad 14 0 else .tok (if wordB (l.take (spn inNm l)) then 2 else 1) (l.take (spn inNm l)) 0 (spn inNm l):=by
 unfold stp;rw[hr,if_neg h,hc,if_neg (by simp),if_pos hl]
theorem stp_number (l:List UInt8) (r:Nat) (hr:rnL l=r) (h:¬(r=32∨r=9∨r=10∨r=13)) (hc:Lib.hasPrefix l [45,45]=false) (hl:letB r=false) (hd:digB r=true):
 stp l=if W.parE (l.take (spn inNm l))≠0 then .bad (W.parE (l.take (spn inNm l))) 0 else .tok 3 (l.take (spn inNm l)) (W.parN (l.take (spn inNm l))) (spn inNm l):=by
 unfold stp;rw[hr,if_neg h,hc,if_neg (by simp),hl,if_neg (by simp),if_pos hd]
theorem stp_quote (l:List UInt8) (r:Nat) (hr:rnL l=r) (h:¬(r=32∨r=9∨r=10∨r=13)) (hc:Lib.hasPrefix l [45,45]=false) (hl:letB r=false) (hd:digB r=false) (hq:r=39∨r=34):
 stp l=match qt (l.headD 0) (l.drop 1) 1 [] with | .ok v n=>.tok 4 v 0 n | .bad c o=>.bad c o:=by
 unfold stp;rw[hr,if_neg h,hc,if_neg (by simp),hl,if_neg (by simp),hd,if_neg (by simp),if_pos hq];rfl
theorem stp_sign (l:List UInt8) (r:Nat) (hr:rnL l=r) (h:¬(r=32∨r=9∨r=10∨r=13)) (hc:Lib.hasPrefix l [45,45]=false) (hl:letB r=false) (hd:digB r=false) (hq:¬(r=39∨r=34)):
 stp l=if sgz l=0 then .bad 4 0 else .tok 5 (l.take (sgz l)) 0 (sgz l):=by
 unfold stp;rw[hr,if_neg h,hc,if_neg (by simp),hl,if_neg (by simp),hd,if_neg (by simp),if_neg hq]
set_option maxRecDepth 20000 in
set_option maxHeartbeats 2000000 in
theorem take_blank (b B:Nat) (s:ByteArray) (ts:List Tok) (V:World) (h:SC b B s ts V) (p:Nat) (hp:p<s.size) (hs:s.size≤20000) (hts:ts.length≤p) (r:Nat) (hr:rn s p=r) (hbl:r=32∨r=9∨r=10∨r=13):
 Calls Tryz.prog 61 #[.pointer (some ⟨b,0,none⟩),.int .i64 p,.int .i32 r] V fun e W'=>TO b B s ts V p (stp (LD s p)) e W':=by
 have _:=(⟨hp,hs,hts⟩:_∧_∧_)
 have hsrc:=h.src
 have hB:=h.lt
 have hrl:r≤1114111:=by rw[←hr];exact rn_le s p
 have hrL:rnL (LD s p)=r:=by rw[←hr,rn_drop];rfl
 rw[stp_blank _ r hrL hbl]
 clear hr hrL
 rcases hbl with rfl | rfl | rfl | rfl
 all_goals
  go_enter Tryz.func61,Tryz.ntmps61
  go_wp2
  go_ret
  exact ⟨rfl,h,Kp.refl _ _ _⟩
set_option maxRecDepth 20000 in
set_option maxHeartbeats 2000000 in
theorem take_comment (b B:Nat) (s:ByteArray) (ts:List Tok) (V:World) (h:SC b B s ts V) (p:Nat) (hp:p<s.size) (hs:s.size≤20000) (hts:ts.length≤p) (r:Nat) (hr:rn s p=r) (hbl:¬(r=32∨r=9∨r=10∨r=13)) (hc:Lib.hasPrefix (LD s p) [45,45]=true):
 Calls Tryz.prog 61 #[.pointer (some ⟨b,0,none⟩),.int .i64 p,.int .i32 r] V fun e W'=>TO b B s ts V p (stp (LD s p)) e W':=by
 have _:=(⟨hp,hs,hts⟩:_∧_∧_)
 have hsrc:=h.src
 have hB:=h.lt
 have hrl:r≤1114111:=by rw[←hr];exact rn_le s p
 have hrL:rnL (LD s p)=r:=by rw[←hr,rn_drop];rfl
 have b1:((r:Int)==32)=false:=by rw[beq_eq_false_iff_ne];omega
 have b2:((r:Int)==9)=false:=by rw[beq_eq_false_iff_ne];omega
 have b3:((r:Int)==10)=false:=by rw[beq_eq_false_iff_ne];omega
 have b4:((r:Int)==13)=false:=by rw[beq_eq_false_iff_ne];omega
 have CP:=fun w=>Tryz.strings_HasPrefix (s.extract p s.size) ⟨#[45,45]⟩ w
 rw[ext_end,show (⟨#[45,45]⟩:ByteArray).data.toList=[45,45] from rfl,hc] at CP
 rw[stp_comment _ r hrL hbl hc]
 have C1:=fun w=>span_any (s.extract p s.size) 84 (fun r=>decide (r≠10)) enters38 (fun r w _=>inComment_any r w) w (by have:=ext_size s p s.size hs;unfold maxLen at this;omega)
 rw[ext_end] at C1
 have hl:=spn_le (fun r=>decide (r≠10)) (LD s p)
 rw[LD_len] at hl
 obtain ⟨n,hn⟩:∃n,spn (fun r=>decide (r≠10)) (LD s p)=n:=⟨_,rfl⟩
 rw[hn] at C1 hl⊢
 clear hr hrL hbl hc hn
 go_enter Tryz.func61,Tryz.ntmps61
 go_wp2_with (first
  | (go_at_call 82;refine (CP _).mono ?_;rintro e w' ⟨rfl,rfl⟩)
  | (go_at_call 83;refine (C1 _).mono ?_;rintro e w' ⟨rfl,h2⟩))
 go_ret
 exact ⟨rfl,h.below h2,Kp.of_below h2 hB.2⟩
set_option maxRecDepth 20000 in
set_option maxHeartbeats 2000000 in
theorem take_name (b B:Nat) (s:ByteArray) (ts:List Tok) (V:World) (h:SC b B s ts V) (p:Nat) (hp:p<s.size) (hs:s.size≤20000) (hts:ts.length≤p) (r:Nat) (hr:rn s p=r) (hbl:¬(r=32∨r=9∨r=10∨r=13)) (hc:Lib.hasPrefix (LD s p) [45,45]=false) (hl:letB r=true):
 Calls Tryz.prog 61 #[.pointer (some ⟨b,0,none⟩),.int .i64 p,.int .i32 r] V fun e W'=>TO b B s ts V p (stp (LD s p)) e W':=by
 have _:=(⟨hp,hs,hts⟩:_∧_∧_)
 have hsrc:=h.src
 have hB:=h.lt
 have hrl:r≤1114111:=by rw[←hr];exact rn_le s p
 have hrL:rnL (LD s p)=r:=by rw[←hr,rn_drop];rfl
 have b1:((r:Int)==32)=false:=by rw[beq_eq_false_iff_ne];omega
 have b2:((r:Int)==9)=false:=by rw[beq_eq_false_iff_ne];omega
 have b3:((r:Int)==10)=false:=by rw[beq_eq_false_iff_ne];omega
 have b4:((r:Int)==13)=false:=by rw[beq_eq_false_iff_ne];omega
 have CP:=fun w=>Tryz.strings_HasPrefix (s.extract p s.size) ⟨#[45,45]⟩ w
 rw[ext_end,show (⟨#[45,45]⟩:ByteArray).data.toList=[45,45] from rfl,hc] at CP
 rw[stp_name _ r hrL hbl hc hl]
 by_cases hn:40<spn inNm (LD s p)
 ·rw[if_pos hn]
  have CS:=name_bad b B s ts V h p hp hs hn
  clear hr hrL hbl hc hn
  go_enter Tryz.func61,Tryz.ntmps61
  go_wp2_with (first
   | (go_at_call 82;refine (CP _).mono ?_;rintro e w' ⟨rfl,rfl⟩)
   | (go_at_call 85;refine (letter_any _ _).mono ?_;rintro e w' ⟨rfl,rfl⟩)
   | (go_at_call 86;refine CS.mono ?_;rintro e w' ⟨he,h2⟩;unfold refu at he;subst he))
  exact ⟨rfl,rfl,h2⟩
 ·rw[if_neg hn]
  have CS:=name_ok b B s ts V h p hp hs hts hn
  obtain ⟨k,hk⟩:∃k:Int,(if wordB ((LD s p).take (spn inNm (LD s p))) then 2 else 1)=k:=⟨_,rfl⟩
  rw[hk] at CS⊢
  clear hk
  clear hr hrL hbl hc hn
  go_enter Tryz.func61,Tryz.ntmps61
  go_wp2_with (first
   | (go_at_call 82;refine (CP _).mono ?_;rintro e w' ⟨rfl,rfl⟩)
   | (go_at_call 85;refine (letter_any _ _).mono ?_;rintro e w' ⟨rfl,rfl⟩)
   | (go_at_call 86;refine CS.mono ?_;rintro e w' ⟨rfl,h1,h2⟩))
  go_ret
  exact ⟨rfl,h1,h2⟩
set_option maxRecDepth 20000 in
set_option maxHeartbeats 2000000 in
theorem take_number (b B:Nat) (s:ByteArray) (ts:List Tok) (V:World) (h:SC b B s ts V) (p:Nat) (hp:p<s.size) (hs:s.size≤20000) (hts:ts.length≤p) (r:Nat) (hr:rn s p=r) (hbl:¬(r=32∨r=9∨r=10∨r=13)) (hc:Lib.hasPrefix (LD s p) [45,45]=false) (hl:letB r=false) (hd:digB r=true):
 Calls Tryz.prog 61 #[.pointer (some ⟨b,0,none⟩),.int .i64 p,.int .i32 r] V fun e W'=>TO b B s ts V p (stp (LD s p)) e W':=by
 have _:=(⟨hp,hs,hts⟩:_∧_∧_)
 have hsrc:=h.src
 have hB:=h.lt
 have hrl:r≤1114111:=by rw[←hr];exact rn_le s p
 have hrL:rnL (LD s p)=r:=by rw[←hr,rn_drop];rfl
 have b1:((r:Int)==32)=false:=by rw[beq_eq_false_iff_ne];omega
 have b2:((r:Int)==9)=false:=by rw[beq_eq_false_iff_ne];omega
 have b3:((r:Int)==10)=false:=by rw[beq_eq_false_iff_ne];omega
 have b4:((r:Int)==13)=false:=by rw[beq_eq_false_iff_ne];omega
 have CP:=fun w=>Tryz.strings_HasPrefix (s.extract p s.size) ⟨#[45,45]⟩ w
 rw[ext_end,show (⟨#[45,45]⟩:ByteArray).data.toList=[45,45] from rfl,hc] at CP
 rw[stp_number _ r hrL hbl hc hl hd]
 obtain ⟨n,hn⟩:∃n,spn inNm (LD s p)=n:=⟨_,rfl⟩
 rw[hn]
 obtain ⟨e0,he0⟩:∃e0,W.parE ((LD s p).take n)=e0:=⟨_,rfl⟩
 obtain ⟨v0,hv0⟩:∃v0,W.parN ((LD s p).take n)=v0:=⟨_,rfl⟩
 have CS:=number_any b B s ts V h p hp hs hts e0 v0 n hn he0 hv0
 rw[he0,hv0]
 clear hr hrL hbl hc hn he0 hv0
 by_cases hz:e0=0
 ·rw[if_neg (by simpa using hz)]
  go_enter Tryz.func61,Tryz.ntmps61
  go_wp2_with (first
   | (go_at_call 82;refine (CP _).mono ?_;rintro e w' ⟨rfl,rfl⟩)
   | (go_at_call 85;refine (letter_any _ _).mono ?_;rintro e w' ⟨rfl,rfl⟩)
   | (go_at_call 87;refine (digit_any _ _).mono ?_;rintro e w' ⟨rfl,rfl⟩)
   | (go_at_call 88;refine CS.mono ?_;rintro e w' ⟨_,hA⟩;obtain ⟨he,h1,h2⟩:=hA hz;subst he))
  go_ret
  exact ⟨rfl,h1,h2⟩
 ·rw[if_pos hz]
  go_enter Tryz.func61,Tryz.ntmps61
  go_wp2_with (first
   | (go_at_call 82;refine (CP _).mono ?_;rintro e w' ⟨rfl,rfl⟩)
   | (go_at_call 85;refine (letter_any _ _).mono ?_;rintro e w' ⟨rfl,rfl⟩)
   | (go_at_call 87;refine (digit_any _ _).mono ?_;rintro e w' ⟨rfl,rfl⟩)
   | (go_at_call 88;refine CS.mono ?_;rintro e w' ⟨hA,_⟩;obtain ⟨he,h2⟩:=hA hz;unfold refu at he;subst he))
  exact ⟨rfl,rfl,h2⟩
set_option maxRecDepth 20000 in
set_option maxHeartbeats 2000000 in
theorem take_quote (b B:Nat) (s:ByteArray) (ts:List Tok) (V:World) (h:SC b B s ts V) (p:Nat) (hp:p<s.size) (hs:s.size≤20000) (hts:ts.length≤p) (r:Nat) (hr:rn s p=r) (hbl:¬(r=32∨r=9∨r=10∨r=13)) (hc:Lib.hasPrefix (LD s p) [45,45]=false) (hl:letB r=false) (hd:digB r=false) (hq:r=39∨r=34):
 Calls Tryz.prog 61 #[.pointer (some ⟨b,0,none⟩),.int .i64 p,.int .i32 r] V fun e W'=>TO b B s ts V p (stp (LD s p)) e W':=by
 have _:=(⟨hp,hs,hts⟩:_∧_∧_)
 have hsrc:=h.src
 have hB:=h.lt
 have hrl:r≤1114111:=by rw[←hr];exact rn_le s p
 have hrL:rnL (LD s p)=r:=by rw[←hr,rn_drop];rfl
 have b1:((r:Int)==32)=false:=by rw[beq_eq_false_iff_ne];omega
 have b2:((r:Int)==9)=false:=by rw[beq_eq_false_iff_ne];omega
 have b3:((r:Int)==10)=false:=by rw[beq_eq_false_iff_ne];omega
 have b4:((r:Int)==13)=false:=by rw[beq_eq_false_iff_ne];omega
 have CP:=fun w=>Tryz.strings_HasPrefix (s.extract p s.size) ⟨#[45,45]⟩ w
 rw[ext_end,show (⟨#[45,45]⟩:ByteArray).data.toList=[45,45] from rfl,hc] at CP
 rw[stp_quote _ r hrL hbl hc hl hd hq]
 obtain ⟨c,hcc⟩:=LD_cons s p hp
 have hcr:c.toNat=r:=rn_head s p c _ hcc r (by omega) hr
 rw[hcc]
 simp only[List.headD_cons,List.drop_succ_cons,List.drop_zero]
 have CQ:=quoted_any b B s ts V h p hp hs (by omega) c r hcr hq
 obtain ⟨R,hR⟩:∃R,qt c (LD s (p+1)) 1 []=R:=⟨_,rfl⟩
 rw[hR] at CQ⊢
 clear hr hrL hcc hcr hR hbl hc hl hd b1 b2 b3 b4
 have l1:letB 39=false:=by decide
 have l2:digB 39=false:=by decide
 have l3:letB 34=false:=by decide
 have l4:digB 34=false:=by decide
 rcases hq with rfl | rfl
 all_goals
  simp only[Int.cast_ofNat_Int] at CQ
  cases R with
  | ok v n=>
    go_enter Tryz.func61,Tryz.ntmps61
    go_wp2_with (first
     | (go_at_call 82;refine (CP _).mono ?_;rintro e w' ⟨rfl,rfl⟩)
     | (go_at_call 85;refine (letter_any _ _).mono ?_;rintro e w' ⟨rfl,rfl⟩)
     | (go_at_call 87;refine (digit_any _ _).mono ?_;rintro e w' ⟨rfl,rfl⟩)
     | (go_at_call 89;refine CQ.mono ?_;rintro e w' ⟨rfl,h1,h2⟩))
    go_ret
    exact ⟨rfl,h1,h2⟩
  | bad d n=>
    go_enter Tryz.func61,Tryz.ntmps61
    go_wp2_with (first
     | (go_at_call 82;refine (CP _).mono ?_;rintro e w' ⟨rfl,rfl⟩)
     | (go_at_call 85;refine (letter_any _ _).mono ?_;rintro e w' ⟨rfl,rfl⟩)
     | (go_at_call 87;refine (digit_any _ _).mono ?_;rintro e w' ⟨rfl,rfl⟩)
     | (go_at_call 89;refine CQ.mono ?_;rintro e w' ⟨he,h2⟩;unfold refu at he;subst he))
    exact ⟨rfl,rfl,h2⟩
set_option maxRecDepth 20000 in
set_option maxHeartbeats 2000000 in
theorem take_sign (b B:Nat) (s:ByteArray) (ts:List Tok) (V:World) (h:SC b B s ts V) (p:Nat) (hp:p<s.size) (hs:s.size≤20000) (hts:ts.length≤p) (r:Nat) (hr:rn s p=r) (hbl:¬(r=32∨r=9∨r=10∨r=13)) (hc:Lib.hasPrefix (LD s p) [45,45]=false) (hl:letB r=false) (hd:digB r=false) (hq:¬(r=39∨r=34)):
 Calls Tryz.prog 61 #[.pointer (some ⟨b,0,none⟩),.int .i64 p,.int .i32 r] V fun e W'=>TO b B s ts V p (stp (LD s p)) e W':=by
 have _:=(⟨hp,hs,hts⟩:_∧_∧_)
 have hsrc:=h.src
 have hB:=h.lt
 have hrl:r≤1114111:=by rw[←hr];exact rn_le s p
 have hrL:rnL (LD s p)=r:=by rw[←hr,rn_drop];rfl
 have b1:((r:Int)==32)=false:=by rw[beq_eq_false_iff_ne];omega
 have b2:((r:Int)==9)=false:=by rw[beq_eq_false_iff_ne];omega
 have b3:((r:Int)==10)=false:=by rw[beq_eq_false_iff_ne];omega
 have b4:((r:Int)==13)=false:=by rw[beq_eq_false_iff_ne];omega
 have CP:=fun w=>Tryz.strings_HasPrefix (s.extract p s.size) ⟨#[45,45]⟩ w
 rw[ext_end,show (⟨#[45,45]⟩:ByteArray).data.toList=[45,45] from rfl,hc] at CP
 rw[stp_sign _ r hrL hbl hc hl hd hq]
 have b5:((r:Int)==39)=false:=by rw[beq_eq_false_iff_ne];omega
 have b6:((r:Int)==34)=false:=by rw[beq_eq_false_iff_ne];omega
 obtain ⟨n,hn⟩:∃n,sgz (LD s p)=n:=⟨_,rfl⟩
 have CS:=sign_any b B s ts V h p hp hs hts n hn
 rw[hn]
 clear hr hrL hbl hc hq hn
 by_cases hz:n=0
 ·rw[if_pos hz]
  go_enter Tryz.func61,Tryz.ntmps61
  go_wp2_with (first
   | (go_at_call 82;refine (CP _).mono ?_;rintro e w' ⟨rfl,rfl⟩)
   | (go_at_call 85;refine (letter_any _ _).mono ?_;rintro e w' ⟨rfl,rfl⟩)
   | (go_at_call 87;refine (digit_any _ _).mono ?_;rintro e w' ⟨rfl,rfl⟩)
   | (go_at_call 90;refine CS.mono ?_;rintro e w' ⟨hA,_⟩;obtain ⟨he,h2⟩:=hA hz;unfold refu at he;subst he))
  exact ⟨rfl,rfl,h2⟩
 ·rw[if_neg hz]
  go_enter Tryz.func61,Tryz.ntmps61
  go_wp2_with (first
   | (go_at_call 82;refine (CP _).mono ?_;rintro e w' ⟨rfl,rfl⟩)
   | (go_at_call 85;refine (letter_any _ _).mono ?_;rintro e w' ⟨rfl,rfl⟩)
   | (go_at_call 87;refine (digit_any _ _).mono ?_;rintro e w' ⟨rfl,rfl⟩)
   | (go_at_call 90;refine CS.mono ?_;rintro e w' ⟨_,hA⟩;obtain ⟨he,h1,h2⟩:=hA hz;subst he))
  go_ret
  exact ⟨rfl,h1,h2⟩
theorem take_any (b B:Nat) (s:ByteArray) (ts:List Tok) (V:World) (h:SC b B s ts V) (p:Nat) (hp:p<s.size) (hs:s.size≤20000) (hts:ts.length≤p) (r:Nat) (hr:rn s p=r):
 Calls Tryz.prog 61 #[.pointer (some ⟨b,0,none⟩),.int .i64 p,.int .i32 r] V fun e W'=>TO b B s ts V p (stp (LD s p)) e W':=by
 by_cases hbl:r=32∨r=9∨r=10∨r=13
 ·exact take_blank b B s ts V h p hp hs hts r hr hbl
 cases hc:Lib.hasPrefix (LD s p) [45,45]
 ·cases hl:letB r
  ·cases hd:digB r
   ·by_cases hq:r=39∨r=34
    ·exact take_quote b B s ts V h p hp hs hts r hr hbl hc hl hd hq
    ·exact take_sign b B s ts V h p hp hs hts r hr hbl hc hl hd hq
   ·exact take_number b B s ts V h p hp hs hts r hr hbl hc hl hd
  ·exact take_name b B s ts V h p hp hs hts r hr hbl hc hl
 ·exact take_comment b B s ts V h p hp hs hts r hr hbl hc
end Go.Proofs.YtkjbgggghigapaaGreat


namespace Go.Proofs.YtkjbgggghigapaaGreat
open Go.RowKit
inductive Ch (s:ByteArray):Nat→Nat→Prop
 | refl (p:Nat):Ch s p p
 | step (p q:Nat):p<s.size→Ch s (p+wd s p) q→Ch s p q
theorem Ch.le {s:ByteArray} {p q:Nat} (h:Ch s p q):p≤q:=by
 induction h with
 | refl=>exact Nat.le_refl _
 | step p q _ _ ih=>omega
theorem Ch.trans {s:ByteArray} {p q r:Nat} (h:Ch s p q) (k:Ch s q r):Ch s p r:=by
 induction h with
 | refl=>exact k
 | step p q hp _ ih=>exact .step p r hp (ih k)
theorem Ch.out {s:ByteArray} {p q:Nat} (h:Ch s p q) (hn:p≠q):p<s.size∧Ch s (p+wd s p) q:=by
 cases h with
 | refl=>exact absurd rfl hn
 | step _ _ hp k=>exact ⟨hp,k⟩
theorem Ch.end {s:ByteArray} {p q:Nat} (h:Ch s p q) (hp:¬p<s.size):q=p:=by
 cases h with
 | refl=>rfl
 | step _ _ h1 _=>exact absurd h1 hp
theorem ch_asc (s:ByteArray):∀(n p:Nat),p+n≤s.size→(∀i c,p≤i→i<p+n→(LD s i).head?=some c→c.toNat<128)→Ch s p (p+n)
 | 0,p,_,_=>.refl p
 | n+1,p,h,hx=>by
   obtain ⟨c,hc⟩:=LD_cons s p (by omega)
   have h1:=hx p c (Nat.le_refl _) (by omega) (by rw[hc];rfl)
   have hw:wd s p=1:=by
    rw[wd_drop]
    show wdL (LD s p)=1
    rw[hc];exact (asc c _ h1).2
   refine .step _ _ (by omega) ?_
   rw[hw]
   have:=ch_asc s n (p+1) (by omega) (fun i c h2 h3=>hx i c (by omega) (by omega))
   have e:p+1+n=p+(n+1):=by omega
   rw[e] at this
   exact this
theorem ch_spn (s:ByteArray) (f:Nat→Bool) (p:Nat):Ch s p (p+spn f (LD s p)):=by
 by_cases h:p<s.size
 ·cases hf:f (rnL (LD s p))
  ·rw[spn_no f _ (LD_ne s p h) hf];exact .refl p
  ·rw[spn_yes f _ (LD_ne s p h) hf,LD_drop]
   have hw:wdL (LD s p)=wd s p:=(wd_drop s p).symm
   rw[hw]
   have:=ch_spn s f (p+wd s p)
   rw[Nat.add_assoc] at this
   exact .step _ _ h this
 ·rw[LD_nil s p h,spn_nil];exact .refl p
termination_by s.size - p
decreasing_by have:=wd_pos s p;omega
theorem ch_qt (s:ByteArray) (q:UInt8) (hq:q.toNat<128) (o a:Nat) (acc:List UInt8) (v:List UInt8) (n:Nat) (hoa:o<a) (h:qt q (LD s a) (a - o) acc= .ok v n):Ch s a (o+n):=by
 by_cases ha:a<s.size
 ·obtain ⟨c,hc⟩:=LD_cons s a ha
  have hwd:wd s a=wdL (LD s a):=wd_drop s a
  have hwl:=wd_le s a ha
  have hwp:=wd_pos s a
  rcases Nat.lt_or_ge c.toNat 128 with h1 | h1
  ·have hw1:wd s a=1:=by rw[hwd,hc];exact (asc c _ h1).2
   rw[hc] at h
   by_cases h10:c.toNat=10
   ·rw[qt_nl q c _ _ _ h10] at h;cases h
   by_cases hcq:c=q
   ·rw[qt_end q c _ _ _ hcq (by rw[←hcq];exact h10)] at h
    split at h
    ·cases h
    ·cases h
     refine .step _ _ ha ?_
     rw[hw1]
     have e:o+(a - o+1)=a+1:=by omega
     rw[e];exact .refl _
   by_cases h92:c.toNat=92
   ·rw[qt_esc q c _ _ _ h92 (fun e=>hcq (UInt8.toNat_inj.1 (by omega)))] at h
    split at h
    ·cases h
    ·split at h
     ·cases h
     ·rename_i k1 k2
      obtain ⟨t1,t2⟩:=esc_take (LD s (a+1))
      rw[LD_len] at t1
      rw[LD_drop] at h
      have e:a - o+1+(esc (LD s (a+1))).2=a+1+(esc (LD s (a+1))).2 - o:=by omega
      rw[e] at h
      have ih:=ch_qt s q hq o (a+1+(esc (LD s (a+1))).2) _ v n (by omega) h
      refine .step _ _ ha ?_
      rw[hw1]
      refine Ch.trans (ch_asc s (esc (LD s (a+1))).2 (a+1) (by omega) (fun i d g1 g2 g3=>?_)) ih
      apply t2
      have h4:(LD s (a+1)).drop (i - (a+1))=LD s i:=by rw[LD_drop];congr 1;omega
      have h6:d∈((LD s (a+1)).take (esc (LD s (a+1))).2).drop (i - (a+1)):=by
       rw[List.drop_take,h4]
       cases hL:LD s i with
       | nil=>rw[hL] at g3;cases g3
       | cons y z=>
         rw[hL] at g3
         have :y=d:=by simpa using g3
         subst this
         obtain ⟨m,hm⟩:∃m,(esc (LD s (a+1))).2 - (i - (a+1))=m+1:=⟨(esc (LD s (a+1))).2 - (i - (a+1)) - 1,by omega⟩
         rw[hm];simp
      exact List.mem_of_mem_drop h6
   ·have hp:=qt_pass q 1 (c::LD s (a+1)) (a - o) acc (by simp) (fun x hx=>by
     simp at hx;subst hx;exact ⟨h10,hcq,h92⟩)
    rw[hp] at h
    simp only[List.drop_succ_cons,List.drop_zero] at h
    have e:a - o+1=a+1 - o:=by omega
    rw[e] at h
    have ih:=ch_qt s q hq o (a+1) _ v n (by omega) h
    refine .step _ _ ha ?_
    rw[hw1];exact ih
  ·have hb:=hi_bytes c (LD s (a+1)) h1
   rw[←hc,←hwd] at hb
   have hp:=qt_pass q (wd s a) (LD s a) (a - o) acc (by rw[LD_len];omega) (fun x hx=>by
    have:=hb x hx
    exact ⟨by omega,fun e=>by rw[e] at this;omega,by omega⟩)
   rw[hp,LD_drop] at h
   have e:a - o+wd s a=a+wd s a - o:=by omega
   rw[e] at h
   exact .step _ _ ha (ch_qt s q hq o (a+wd s a) _ v n (by omega) h)
 ·rw[LD_nil s a ha,qt_nil] at h;cases h
termination_by s.size - a
decreasing_by all_goals omega
theorem ch_sgz (s:ByteArray) (p:Nat):Ch s p (p+sgz (LD s p)):=by
 obtain ⟨h1,h2⟩:=sgz_le (LD s p)
 rw[LD_len] at h2
 by_cases hz:sgz (LD s p)=0
 ·rw[hz];exact .refl p
 ·refine ch_asc s (sgz (LD s p)) p (by omega) (fun i c g1 g2 g3=>?_)
  unfold sgz at g2 hz
  have h4:(LD s p).drop (i - p)=LD s i:=by rw[LD_drop];congr 1;omega
  split at g2
  ·rename_i hm
   have hmem:(LD s p).take 2∈sgn2:=by simpa using hm
   have hall:∀x∈(LD s p).take 2,x.toNat<128:=by
    simp only[sgn2,List.mem_cons,List.not_mem_nil,or_false] at hmem
    rcases hmem with e | e | e | e | e | e<;>rw[e]<;>decide
   apply hall
   have h6:c∈((LD s p).take 2).drop (i - p):=by
    rw[List.drop_take,h4]
    cases hL:LD s i with
    | nil=>rw[hL] at g3;cases g3
    | cons y z=>
      rw[hL] at g3
      have :y=c:=by simpa using g3
      subst this
      obtain ⟨m,hm⟩:∃m,2 - (i - p)=m+1:=⟨2 - (i - p) - 1,by omega⟩
      rw[hm];simp
   exact List.mem_of_mem_drop h6
  ·split at g2
   ·rename_i hm
    have :i=p:=by omega
    subst this
    cases hL:LD s i with
    | nil=>rw[hL] at g3;cases g3
    | cons y z=>
      rw[hL] at g3 hm
      have :y=c:=by simpa using g3
      subst this
      have hmem:y∈sgn1:=by simpa using hm
      revert hmem
      have hd:∀x∈sgn1,x.toNat<128:=by decide
      exact hd y
   ·omega
theorem ch_stp (s:ByteArray) (p:Nat) (hp:p<s.size):(∀n,stp (LD s p)= .skip n→Ch s (p+wd s p) (p+n))∧(∀k t v n,stp (LD s p)= .tok k t v n→Ch s (p+wd s p) (p+n)):=by
 have hne:=LD_ne s p hp
 have hpos:=stp_pos (LD s p) hne
 have key:∀n,1≤n→Ch s p (p+n)→Ch s (p+wd s p) (p+n):=fun n hn h=>(h.out (by omega)).2
 obtain ⟨c,hc⟩:=LD_cons s p hp
 constructor
 ·intro n h
  have h1:=(hpos.1 n h).1
  refine key n h1 ?_
  unfold stp at h
  split at h
  ·rename_i hb
   cases h
   have hr:rnL (LD s p)<128:=by omega
   rw[hc] at hr
   have hw:wd s p=1:=by
    rw[wd_drop];show wdL (LD s p)=1
    rw[hc];exact (rn_lt c _ hr).2
   refine .step _ _ hp ?_
   rw[hw];exact .refl _
  ·split at h
   ·cases h;exact ch_spn s _ p
   ·split at h
    ·split at h<;>cases h
    ·split at h
     ·split at h<;>cases h
     ·split at h
      ·split at h<;>cases h
      ·split at h<;>cases h
 ·intro k t v n h
  have h1:=(hpos.2 k t v n h).1
  refine key n h1 ?_
  unfold stp at h
  split at h
  ·cases h
  ·split at h
   ·cases h
   ·split at h
    ·split at h
     ·cases h
     ·cases h;exact ch_spn s _ p
    ·split at h
     ·split at h
      ·cases h
      ·cases h;exact ch_spn s _ p
     ·split at h
      ·rename_i hq
       split at h
       ·rename_i v' n' hqt
        cases h
        have hr:rnL (LD s p)<128:=by omega
        have hr2:=hr
        rw[hc] at hr2
        have hcr:=rn_lt c _ hr2
        rw[←hc] at hcr
        have hw:wd s p=1:=by rw[wd_drop];exact hcr.2
        rw[hc] at hqt
        simp only[List.headD_cons,List.drop_succ_cons,List.drop_zero] at hqt
        have e:p+1 - p=1:=by omega
        have:=ch_qt s c (by omega) p (p+1) [] _ _ (by omega) (by rw[e];exact hqt)
        refine .step _ _ hp ?_
        rw[hw];exact this
       ·cases h
      ·split at h
       ·cases h
       ·cases h;exact ch_sgz s p
end Go.Proofs.YtkjbgggghigapaaGreat


namespace Go.Proofs.YtkjbgggghigapaaGreat
open Go.RowKit
def RO (b B:Nat) (s:ByteArray) (V:World) (N:Nat):Res→Ending→World→Prop
 | .ok ts,e,W'=>e= .returned (.tuple #[])∧SC b B s ts W'∧Kp b N V W'
 | .bad c p,e,W'=>e=refu c p∧Kp b N V W'
theorem Kp.mono {b B B':Nat} {x y:World} (h:Kp b B x y) (hB:B'≤B):Kp b B' x y:=⟨h.os,h.tape,h.output,h.size,fun k hk hn=>h.block k (by omega) hn⟩
theorem Kp.iterAt {b B k:Nat} {x y:World} (h:Kp b B x y) (hk:B≤k) (s:ByteArray) (p:Nat):Kp b B x (y.iterAt k s p):=
 h.trans ⟨rfl,rfl,rfl,by rw[Lib.iterAt_size];exact Nat.le_refl _,fun j hj _=>Lib.iterAt_other y k j s p (by omega)⟩
theorem SC.drew {b B:Nat} {s:ByteArray} {ts:List Tok} {W:World} (h:SC b B s ts W):SC b B s ts W.drew:=⟨h.src,h.tok,h.free,h.lt⟩
set_option maxRecDepth 20000 in
set_option maxHeartbeats 4000000 in
theorem scan_any (b:Nat) (s:ByteArray) (V:World) (hsrc:V.cell? ⟨b,0,none⟩=some (.string s)) (htok:V.cell? ⟨b,1,none⟩=some (.slice none 0 0)) (hfr:V.frozen? ⟨b,1,none⟩=false) (hbV:b<V.heap.size) (hs:s.size≤20000):
 Calls Tryz.prog 41 #[.pointer (some ⟨b,0,none⟩)] V fun e W'=>RO b (V.heap.size+1) s V V.heap.size (scn (LD s 0) 0 []) e W':=by
 obtain ⟨R,hR⟩:∃R,scn (LD s 0) 0 []=R:=⟨_,rfl⟩
 rw[hR]
 have HR0:Hid (scn (LD s 0) 0 []=R):=hR
 clear hR
 have hSC0:SC b (V.heap.size+1) s [] (V.alloc (.stringIter s 0)):=
  ⟨alloc_cell hbV hsrc _,⟨_,alloc_cell hbV htok _,World.ownsRow_nil _ _ _ _⟩,alloc_frozen hbV hfr _,by omega,by simp⟩
 go_enter Tryz.func41,Tryz.ntmps41
 go_wp2
 go_loopg [2] (s.size+1) (fun gf v2 wx=>∃(pos T:Nat) (ts:List Tok),pos≤s.size∧wx.heap[V.heap.size]?=some (.stringIter s pos)∧v2= .int .i64 T∧Hid (Ch s pos T)∧SC b (V.heap.size+1) s ts wx∧Kp b V.heap.size V wx∧ts.length≤T∧Hid (scn (LD s T) T ts=R)∧s.size<pos+gf)
 case atStart=>exact ⟨0,0,[],Nat.zero_le _,World.iter_heap V s 0,rfl,.refl 0,hSC0,Kp.of_below ((Below.refl _ _).alloc (Nat.le_refl _) _) (Nat.le_refl _),Nat.le_refl _,HR0,by omega⟩
 case round=>
  obtain ⟨pos,T,ts,hple,hi,rfl,hCh,hSC,hK,htl,hR,hfu⟩:=hrel
  have hpT:=hCh.out.le
  by_cases hps:pos<s.size
  ·obtain ⟨g',rfl⟩:∃g',gk=g'+1:=⟨gk - 1,by omega⟩
   have hnx:∀ty,(Instr.next (.pointer (some ⟨V.heap.size,0,none⟩)) true ty).run Tryz.prog wr= .ok (.tuple #[.bool true,.int .i64 pos,.int .i32 (rn s pos)]) (wr.iterAt V.heap.size s (pos+wd s pos)):=fun ty=>Lib.run_next_any_at wr V.heap.size s pos ty hi hps
   have hwp:=wd_pos s pos
   have hwl:=wd_le s pos hps
   have hi2:=Lib.iterAt_heap wr V.heap.size s pos (pos+wd s pos) hi
   have hSC2:=hSC.iterAt (p':=pos+wd s pos) hi (by omega)
   have hK2:=hK.iterAt (Nat.le_refl _) s (pos+wd s pos)
   obtain ⟨W,hW⟩:∃W,wr.iterAt V.heap.size s (pos+wd s pos)=W:=⟨_,rfl⟩
   rw[hW] at hnx hi2 hSC2 hK2
   clear hi hSC hK hW
   by_cases hsk:pos<T
   ·have HC:Hid (Ch s (pos+wd s pos) T):=(hCh.out.out (by omega)).2
    clear hCh
    go_wp2
    go_roundg g'
    case measure=>omega
    case rel=>exact ⟨pos+wd s pos,T,ts,hwl,hi2,rfl,HC,hSC2,hK2,htl,hR,by omega⟩
   ·have hTp:T=pos:=by omega
    subst hTp
    have CT:=take_any b (V.heap.size+1) s ts W hSC2 T hps hs (by omega) (rn s T) rfl
    have hch:=ch_stp s T hps
    have hpp:=stp_pos (LD s T) (LD_ne s T hps)
    cases hst:stp (LD s T) with
    | skip n=>
      rw[hst] at CT
      have HC:Hid (Ch s (T+wd s T) (T+n)):=hch.1 n hst
      have HR:Hid (scn (LD s (T+n)) (T+n) ts=R):=by
       show _=_
       rw[←hR.out,scn_skip (LD_ne s T hps) hst,LD_drop]
      have hnn:=(hpp.1 n hst).1
      clear hch hpp hst hR hCh
      go_wp2_with (go_at_call 61;refine CT.mono ?_;rintro e w2 ⟨rfl,h1,h2⟩)
      go_roundg g'
      case measure=>omega
      case rel=>exact ⟨T+wd s T,T+n,ts,hwl,(h2.block _ (by omega) (by omega)).trans hi2,by go_num,HC,h1,hK2.trans (h2.mono (by omega)),by omega,HR,by omega⟩
    | tok k t v n=>
      rw[hst] at CT
      have HC:Hid (Ch s (T+wd s T) (T+n)):=hch.2 k t v n hst
      have HR:Hid (scn (LD s (T+n)) (T+n) (ts++[⟨k,t,v,T⟩])=R):=by
       show _=_
       rw[←hR.out,scn_tok (LD_ne s T hps) hst,LD_drop]
      have hnn:=(hpp.2 k t v n hst).1
      clear hch hpp hst hR hCh
      go_wp2_with (go_at_call 61;refine CT.mono ?_;rintro e w2 ⟨rfl,h1,h2⟩)
      go_roundg g'
      case measure=>omega
      case rel=>exact ⟨T+wd s T,T+n,_,hwl,(h2.block _ (by omega) (by omega)).trans hi2,by go_num,HC,h1,hK2.trans (h2.mono (by omega)),by simp;omega,HR,by omega⟩
    | bad c x=>
      rw[hst] at CT
      have HR:Hid (R= .bad c (T+x)):=by
       show _=_
       rw[←hR.out,scn_bad (LD_ne s T hps) hst]
      clear hch hpp hst hR hCh
      go_wp2_with (go_at_call 61;refine CT.mono ?_;rintro e w2 ⟨he,h2⟩;unfold refu at he;subst he)
      exact ⟨rfl,by rw[HR.out];exact ⟨rfl,hK2.trans (h2.mono (by omega))⟩⟩
  ·have hnx:∀ty,(Instr.next (.pointer (some ⟨V.heap.size,0,none⟩)) true ty).run Tryz.prog wr= .ok (.tuple #[.bool false]) wr:=fun ty=>Lib.run_next_end_at wr V.heap.size s pos ty hi hps
   have hTe:T=pos:=hCh.out.end hps
   subst hTe
   have hTs:T=s.size:=by omega
   have HR:Hid (R= .ok (ts++[⟨6,[],0,s.size⟩])):=by
    show _=_
    rw[←hR.out,LD_nil s T hps,scn_nil,hTs]
   have CA:=fun w (hw:SC b (V.heap.size+1) s ts w)=>add_any b (V.heap.size+1) s ts w hw 6 0 s.size s.size (Nat.le_refl _) (Nat.le_refl _) hs (by omega)
   have et:(s.data.toList.drop s.size).take (s.size - s.size)=[]:=by simp
   rw[et] at CA
   have hsrcW:=hSC.src
   have hbw:b<wr.heap.size:=by have:=hSC.lt;omega
   clear hR hCh hTs et
   go_wp2_with fail
   go_region_held3 (fun w'=>w'.cell? ⟨b,0,none⟩=some (.string s)) (first | go_keep | exact h1.src) ((go_at_call 62;refine (CA _ (by first | exact hSC | exact hSC.drew)).mono ?_;rintro e w1 ⟨rfl,h1,h2⟩))
   go_wp2
   go_end0
   rw[HR.out]
   exact ⟨rfl,h1,hK.trans ((Kp.undrew h2).mono (by omega))⟩
end Go.Proofs.YtkjbgggghigapaaGreat


namespace Go.Proofs.YtkjbgggghigapaaGreat
open Go.RowKit
theorem ta_yes (v:Value) (w:World):(Instr.typeAssert (.iface 107 v) 20 107 true).run Tryz.prog w= .ok (.tuple #[v,.bool true]) w:=by
 have hu:=Tryz.underlying107
 unfold Instr.typeAssert
 simp_all[run_underlying hu,go_sem,Result.andThen]
theorem ta_nil (w:World):(Instr.typeAssert .nilIface 20 107 true).run Tryz.prog w= .ok (.tuple #[.agg #[.int .i64 0,.int .i64 0],.bool false]) w:=by
 have hu:=Tryz.underlying107
 have hz:∀w,(zeroValue 107).run Tryz.prog w= .ok (.agg #[.int .i64 0,.int .i64 0]) w:=fun w=>by kernel_rfl
 unfold Instr.typeAssert
 simp_all[run_underlying hu,go_sem,Result.andThen]
set_option maxHeartbeats 1000000 in
theorem catch_idle (a:Nat) (w:World):
 CallsD Tryz.prog 40 #[.pointer (some ⟨a,0,none⟩),.pointer (some ⟨a+1,0,none⟩)] .returning w fun e u' w'=>e= .returned (.tuple #[])∧u'= .returning∧Below w.heap.size w w':=by
 have hta:=ta_nil
 refine callsD_of_wpS Tryz.func40 rfl fun c₀ cs hu=>?_
 apply wpS_seq
 apply wpS_region
 simp[wpOpsS,go_sem,recoverD,hu,Tryz.ntmps40,Exit.thenS,hta]
 refine wpS_of_wp ?_
 change Code.wp Tryz.prog _ _ ⟨#[.pointer (some ⟨a,0,none⟩),.pointer (some ⟨a+1,0,none⟩),.pointer (some ⟨w.heap.size,0,none⟩),.bool false,.tuple #[.agg #[.int .i64 0,.int .i64 0],.bool false],.nilIface,.tuple #[.agg #[.int .i64 0,.int .i64 0],.bool false],.agg #[.int .i64 0,.int .i64 0],.bool false,undef,undef],[]⟩ _
 go_wp2
 refine ⟨rfl,.returning,by cases c₀;simp_all,.tuple #[],by simp[results,Tryz.results40,go_sem],rfl,rfl,(Below.refl _ _).alloc (Nat.le_refl _) _⟩
theorem arr11 (p0 p1 v2 v3 v4 v5 v6 v7 v8:Value):#[p0,p1]++(((((((Array.replicate 9 undef).setIfInBounds 3 v5).setIfInBounds 4 v6).setIfInBounds 2 v4).setIfInBounds 5 v7).setIfInBounds 6 v8).setIfInBounds 0 v2).setIfInBounds 1 v3=#[p0,p1,v2,v3,v4,v5,v6,v7,v8,undef,undef]:=by kernel_rfl
set_option maxHeartbeats 1000000 in
theorem catch_panicking (a:Nat) (c x:Int) (older:List PanicEntry) (w:World) (u0 u1 u2:Value) (h0:w.cell? ⟨a,0,none⟩=some u0) (f0:w.frozen? ⟨a,0,none⟩=false) (h1:w.cell? ⟨a+1,0,none⟩=some u1) (f1:w.frozen? ⟨a+1,0,none⟩=false) (h2:w.cell? ⟨a+1,1,none⟩=some u2) (f2:w.frozen? ⟨a+1,1,none⟩=false) (hlt:a+1<w.heap.size):
 CallsD Tryz.prog 40 #[.pointer (some ⟨a,0,none⟩),.pointer (some ⟨a+1,0,none⟩)] (.panicking ({v:=.iface 107 (.agg #[.int .i64 c,.int .i64 x]),recovered:=false}::older)) w fun e u' w'=>
  e= .returned (.tuple #[])∧u'= .panicking ({v:=.iface 107 (.agg #[.int .i64 c,.int .i64 x]),recovered:=true}::older)∧w'.cell? ⟨a,0,none⟩=some (.slice none 0 0)∧w'.cell? ⟨a+1,0,none⟩=some (.int .i64 c)∧w'.cell? ⟨a+1,1,none⟩=some (.int .i64 x)∧Below a w w':=by
 have hta:=ta_yes
 have g0:=alloc_cell (W:=w) (b:=a) (by omega) h0 (.cells #[.int .i64 c,.int .i64 x] 107)
 have g1:=alloc_cell (W:=w) (b:=a+1) hlt h1 (.cells #[.int .i64 c,.int .i64 x] 107)
 have g2:=alloc_cell (W:=w) (b:=a+1) hlt h2 (.cells #[.int .i64 c,.int .i64 x] 107)
 have k0:=alloc_frozen (W:=w) (b:=a) (by omega) f0 (.cells #[.int .i64 c,.int .i64 x] 107)
 have k1:=alloc_frozen (W:=w) (b:=a+1) hlt f1 (.cells #[.int .i64 c,.int .i64 x] 107)
 have k2:=alloc_frozen (W:=w) (b:=a+1) hlt f2 (.cells #[.int .i64 c,.int .i64 x] 107)
 refine callsD_of_wpS Tryz.func40 rfl fun c₀ cs hu=>?_
 apply wpS_seq
 apply wpS_region
 simp[wpOpsS,go_sem,recoverD,hu,Tryz.ntmps40,Exit.thenS,hta]
 refine wpS_of_wp ?_
 rw[arr11]
 go_wp2
 go_region
 all_goals
  refine ⟨rfl,.panicking ({v:=.iface 107 (.agg #[.int .i64 c,.int .i64 x]),recovered:=true}::older),by cases c₀;simp_all,.tuple #[],by simp[results,Tryz.results40,go_sem],rfl,rfl,?_⟩
  refine ⟨by simp[go_sem,g0],by simp[go_sem,g1],by simp[go_sem,g2],?_⟩
  exact (((((Below.refl a w).alloc (by omega) _).setCell (Nat.le_refl _) _).setCell (Nat.le_succ _) _).setCell (Nat.le_succ _) _).drew
def scT (l:List UInt8):List Tok×Int×Int:=
 if 20000<l.length then ([],14,-1) else match scn l 0 [] with | .ok ts=>(ts,0,0) | .bad c p=>([],c,p)
set_option maxHeartbeats 2000000 in
theorem Scan_big (s:ByteArray) (w:World) (hb:20000<s.size) (hs:s.size≤9223372036854775807):
 Calls Tryz.prog 27 #[.string s] w fun e W'=>e= .returned (.tuple #[.slice none 0 0,.agg #[.int .i64 14,.int .i64 (-1)]])∧Below w.heap.size w W':=by
 have hmf:∀(fn:Go.Fn) (first cap:Array Value) (w:World),(Instr.makeFunc fn first cap).run Tryz.prog w= .ok (.func fn first cap) w:=fun _ _ _ _=>rfl
 go_enter_defers Tryz.func27,Tryz.ntmps27
 go_wp2
 simp[bodyPostD,Leaves,results,Tryz.results27,go_sem]
 exact ((Below.refl _ w).alloc (Nat.le_refl _) _).alloc (by simp) _
set_option maxHeartbeats 2000000 in
theorem Scan_small (s:ByteArray) (w:World) (hs:s.size≤20000) (R:Res) (hR:scn (LD s 0) 0 []=R):
 Calls Tryz.prog 27 #[.string s] w fun e W'=>∃v ts c p,e= .returned (.tuple #[v,.agg #[.int .i64 c,.int .i64 p]])∧(ts,c,p)=(match R with | .ok ts=>(ts,0,0) | .bad c p=>([],c,(p:Int)))∧W'.ownsRow w.heap.size 114 4 v ts.length (cellsT ts)∧Below w.heap.size w W':=by
 have hmf:∀(fn:Go.Fn) (first cap:Array Value) (w:World),(Instr.makeFunc fn first cap).run Tryz.prog w= .ok (.func fn first cap) w:=fun _ _ _ _=>rfl
 obtain ⟨V,hV⟩:∃V,((w.alloc (.cells #[.slice none 0 0] 88)).alloc (.cells #[.int .i64 0,.int .i64 0] 28)).alloc (.cells #[.string s,.slice none 0 0] 110)=V:=⟨_,rfl⟩
 have hVs:V.heap.size=w.heap.size+3:=by rw[←hV];simp
 have CS:=scan_any (w.heap.size+2) s V (by rw[←hV];simp[go_sem]) (by rw[←hV];simp[go_sem]) (by rw[←hV];simp[go_sem]) (by omega) hs
 rw[hR] at CS
 have hBV:Below w.heap.size w V:=by rw[←hV];exact (((Below.refl _ w).alloc (Nat.le_refl _) _).alloc (by simp) _).alloc (by simp;omega) _
 have c0:V.cell? ⟨w.heap.size,0,none⟩=some (.slice none 0 0):=by rw[←hV];simp[go_sem]
 have c1:V.cell? ⟨w.heap.size+1,0,none⟩=some (.int .i64 0):=by rw[←hV];simp[go_sem]
 have c2:V.cell? ⟨w.heap.size+1,1,none⟩=some (.int .i64 0):=by rw[←hV];simp[go_sem]
 have d0:V.frozen? ⟨w.heap.size,0,none⟩=false:=by rw[←hV];simp[go_sem]
 have d1:V.frozen? ⟨w.heap.size+1,0,none⟩=false:=by rw[←hV];simp[go_sem]
 have d2:V.frozen? ⟨w.heap.size+1,1,none⟩=false:=by rw[←hV];simp[go_sem]
 have HV:Hid (((w.alloc (.cells #[.slice none 0 0] 88)).alloc (.cells #[.int .i64 0,.int .i64 0] 28)).alloc (.cells #[.string s,.slice none 0 0] 110)=V):=hV
 cases R with
 | ok ts=>
   rw[←hV] at CS
   clear hV hR
   go_enter_defers Tryz.func27,Tryz.ntmps27
   go_wp2_with (go_at_call 41;refine CS.mono ?_;rintro e w1 ⟨rfl,h1,h2⟩;rw[HV.out] at h1 h2;obtain ⟨v,hv,hown⟩:=h1.tok;obtain ⟨av,cv,rfl⟩:=slice_shape hown;have q0:w1.cell? ⟨w.heap.size,0,none⟩=some (.slice none 0 0):=(World.cell?_of_block (h2.block w.heap.size (by omega) (by omega))).trans c0;have q1:w1.cell? ⟨w.heap.size+1,0,none⟩=some (.int .i64 0):=(World.cell?_of_block (h2.block (w.heap.size+1) (by omega) (by omega))).trans c1;have q2:w1.cell? ⟨w.heap.size+1,1,none⟩=some (.int .i64 0):=(World.cell?_of_block (h2.block (w.heap.size+1) (by omega) (by omega))).trans c2;have r0:w1.frozen? ⟨w.heap.size,0,none⟩=false:=(World.frozen?_of_block (h2.block w.heap.size (by omega) (by omega))).trans d0;have r1:w1.frozen? ⟨w.heap.size+1,0,none⟩=false:=(World.frozen?_of_block (h2.block (w.heap.size+1) (by omega) (by omega))).trans d1;have r2:w1.frozen? ⟨w.heap.size+1,1,none⟩=false:=(World.frozen?_of_block (h2.block (w.heap.size+1) (by omega) (by omega))).trans d2)
   have hsz:=h2.size
   obtain ⟨W3,hW3⟩:∃W3,((w1.setCell ⟨w.heap.size,0,none⟩ (.slice av ts.length cv)).setCell ⟨w.heap.size+1,0,none⟩ (.int .i64 0)).setCell ⟨w.heap.size+1,1,none⟩ (.int .i64 0)=W3:=⟨_,rfl⟩
   have hsz3:W3.heap.size=w1.heap.size:=by rw[←hW3];simp
   have hown3:W3.ownsRow (V.heap.size+1) 114 4 (.slice av ts.length cv) ts.length (cellsT ts):=by
    rw[←hW3]
    exact ownsRow_setCell_below (ownsRow_setCell_below (ownsRow_setCell_below hown (by show w.heap.size<_;omega) _) (by show w.heap.size+1<_;omega) _) (by show w.heap.size+1<_;omega) _
   have hB3:Below w.heap.size w W3:=by
    rw[←hW3]
    exact (((hBV.trans ((h2.below (by omega)).mono (by omega))).setCell (Nat.le_refl _) _).setCell (Nat.le_succ _) _).setCell (Nat.le_succ _) _
   have y0:W3.cell? ⟨w.heap.size,0,none⟩=some (.slice av ts.length cv):=by rw[←hW3];simp[go_sem,q0]
   have y1:W3.cell? ⟨w.heap.size+1,0,none⟩=some (.int .i64 0):=by rw[←hW3];simp[go_sem,q1]
   have y2:W3.cell? ⟨w.heap.size+1,1,none⟩=some (.int .i64 0):=by rw[←hW3];simp[go_sem,q2]
   rw[hW3]
   refine leaves_cons (f:=40) (args:=#[.pointer (some ⟨w.heap.size,0,none⟩),.pointer (some ⟨w.heap.size+1,0,none⟩)]) (by simp) (by simp[go_sem]) ?_
   refine (catch_idle w.heap.size W3).mono ?_
   rintro e u' w2 ⟨rfl,rfl,hB⟩
   have z0:=(hB.cell (p:=⟨w.heap.size,0,none⟩) (by show w.heap.size<_;omega)).trans y0
   have z1:=(hB.cell (p:=⟨w.heap.size+1,0,none⟩) (by show w.heap.size+1<_;omega)).trans y1
   have z2:=(hB.cell (p:=⟨w.heap.size+1,1,none⟩) (by show w.heap.size+1<_;omega)).trans y2
   refine ⟨.tuple #[.slice av ts.length cv,.agg #[.int .i64 0,.int .i64 0]],by simp[results,Tryz.results27,go_sem,z0,z1,z2],?_⟩
   exact ⟨_,ts,0,0,rfl,rfl,own_base (own_below hown3 hB) (by omega),hB3.trans (hB.mono (by omega))⟩
 | bad c p=>
   rw[←hV] at CS
   clear hV hR
   go_enter_defers Tryz.func27,Tryz.ntmps27
   go_wp2_with (go_at_call 41;refine CS.mono ?_;rintro e w1 ⟨he,h2⟩;unfold refu at he;subst he)
   rw[HV.out] at h2
   have hb2:∀k,k<w.heap.size+2→w1.heap[k]?=V.heap[k]?:=fun k hk=>h2.block k (by omega) (by omega)
   have hsz:=h2.size
   refine leaves_cons (f:=40) (args:=#[.pointer (some ⟨w.heap.size,0,none⟩),.pointer (some ⟨w.heap.size+1,0,none⟩)]) (by simp) (by simp[go_sem]) ?_
   refine (catch_panicking w.heap.size c p [] w1 _ _ _ ((World.cell?_of_block (hb2 w.heap.size (by omega))).trans c0) ((World.frozen?_of_block (hb2 w.heap.size (by omega))).trans d0) ((World.cell?_of_block (hb2 (w.heap.size+1) (by omega))).trans c1) ((World.frozen?_of_block (hb2 (w.heap.size+1) (by omega))).trans d1) ((World.cell?_of_block (hb2 (w.heap.size+1) (by omega))).trans c2) ((World.frozen?_of_block (hb2 (w.heap.size+1) (by omega))).trans d2) (by omega)).mono ?_
   rintro e u' w2 ⟨rfl,rfl,k0,k1,k2,hB⟩
   simp[Leaves,settle,results,Tryz.results27,go_sem,k0,k1,k2]
   exact ⟨_,[],c,p,⟨rfl,rfl,rfl⟩,⟨rfl,rfl,rfl⟩,World.ownsRow_nil _ _ _ _,(hBV.trans ((h2.below (by omega)).mono (by omega))).trans hB⟩
theorem scT_len (s:ByteArray):s.data.toList.length=s.size:=Array.length_toList
theorem Scan_any (s:ByteArray) (w:World) (hs:s.size≤9223372036854775807):
 Calls Tryz.prog 27 #[.string s] w fun e W'=>∃v,e= .returned (.tuple #[v,.agg #[.int .i64 (scT s.data.toList).2.1,.int .i64 (scT s.data.toList).2.2]])∧W'.ownsRow w.heap.size 114 4 v (scT s.data.toList).1.length (cellsT (scT s.data.toList).1)∧Below w.heap.size w W':=by
 by_cases hb:20000<s.size
 ·refine (Scan_big s w hb hs).mono fun e W' ⟨he,hB⟩=>?_
  have :scT s.data.toList=([],14,-1):=by unfold scT;rw[scT_len,if_pos hb]
  rw[this]
  exact ⟨_,he,World.ownsRow_nil _ _ _ _,hB⟩
 ·refine (Scan_small s w (by omega) _ rfl).mono fun e W' ⟨v,ts,c,p,he,h1,h2,hB⟩=>?_
  have :scT s.data.toList=(ts,c,p):=by
   unfold scT
   rw[scT_len,if_neg hb,h1]
   rfl
  rw[this]
  exact ⟨v,he,h2,hB⟩
end Go.Proofs.YtkjbgggghigapaaGreat


namespace Go.Proofs.YtkjbgggghigapaaGreat
open Go.RowKit
theorem under27:Tryz.prog.underlying 28=some (.struct (Tryz.prog.fieldsOf 28)):=by kernel_rfl
theorem stood27:Tryz.prog.stoodInHeld 28=false:=by kernel_rfl
theorem neq27 (a b c d:Int) (W:World):(binOp .neq 28 (.agg #[.int .i64 a,.int .i64 b]) (.agg #[.int .i64 c,.int .i64 d])).run Tryz.prog W= .ok (.bool (!decide (a=c∧b=d))) W:=by
 rw[run_neq_struct,run_equalIn_agg W _ _ _ _ under27 stood27]
 simp[go_sem]
 by_cases h1:a=c<;>by_cases h2:b=d<;>simp[h1,h2]
end Go.Proofs.YtkjbgggghigapaaGreat


namespace Go.Proofs.YtkjbgggghigapaaGreat
open Go.RowKit
section
variable {No:Nat→Prop} {b:Nat} {x:Cx} {s:Cs} {w w' w'':World} {T:Nat→Prop}
theorem Tr.refl (x:Cx) (T:Nat→Prop) (w:World):Tr x T w w:=⟨Nat.le_refl _,fun _ _ _=>rfl⟩
theorem Tr.trans (h:Tr x T w w') (k:Tr x T w' w''):Tr x T w w'':=⟨Nat.le_trans h.size k.size,fun g hg hT=>(k.block g (Nat.lt_of_lt_of_le hg h.size) hT).trans (h.block g hg hT)⟩
theorem Tr.mono {T':Nat→Prop} (h:Tr x T w w') (hs:∀l,T l→T' l):Tr x T' w w':=⟨h.size,fun g hg hT=>h.block g hg fun e=>hT (hs _ e)⟩
theorem Tr.of_below (k:Below w.heap.size w w'):Tr x T w w':=⟨k.size,fun g hg _=>k.block g hg⟩
theorem Tr.alloc (h:Tr x T w w') (o:Obj):Tr x T w (w'.alloc o):=h.trans (.of_below ((Below.refl _ w').alloc (Nat.le_refl _) o))
theorem Tr.set (h:Tr x T w w') {g o:Nat} (hg:T (x.lab g)) (u:Value):Tr x T w (w'.setCell ⟨g,o,none⟩ u):=
 h.trans ⟨by simp,fun k _ hk=>Below.heap_setCell w' _ u k (fun e=>hk (by have e:k=g:=e;rw[e];exact hg))⟩
theorem CK.own (h:CK No b x s w) (k:Tr x (fun l=>l=1) w w') {s':Cs} (hb:Bx b 76 (ccl x s') w') (e1:s'.fs=s.fs) (e2:s'.gl=s.gl) (e3:s'.lo=s.lo) (e4:s'.ar=s.ar) (e5:s'.nu=s.nu):CK No b x s' w':=by
 obtain ⟨fs,gl,nu,lo,lp,ar,cd,ct⟩:=s'
 simp only at e1 e2 e3 e4 e5
 subst e1 e2 e3 e4 e5
 exact ⟨hb,h.fr' k (by decide),h.gr' k (by decide),h.lr' k (by decide),h.ar' k (by decide),h.mp' k (by decide),fun i _ _ hf hv=>h.cs' k (by omega) hf hv,h.vl,h.lb,h.lF,h.lG,h.lL,h.lA,h.lm,h.lc,h.no' k.size,h.nu⟩
theorem CK.kn (h:CK No b x s w) {a:World} (hk:Kn No a w) (k:Tr x T w w') (ho:w'.os=w.os) (ht:w'.tape=w.tape) (hu:w'.output=w.output) (hT:¬T 0):Kn No a w':=
 hk.trans ⟨ho,ht,hu,k.size,fun g hg hn=>k.block g hg (by rw[(h.no g hn).2];exact hT)⟩
end
set_option maxRecDepth 20000 in
set_option maxHeartbeats 2000000 in
theorem failed_any {No:Nat→Prop} {b:Nat} {x:Cx} {s:Cs} {w:World} (h:CK No b x s w):Calls Tryz.prog 24 #[.pointer (some ⟨b,0,none⟩)] w fun e w'=>e= .returned (.bool s.bad)∧w'=w:=by
 have c7:w.cell? ⟨b,7,none⟩=some (.int .i64 s.cd):=h.bx.c 7 _ rfl
 have c8:w.cell? ⟨b,8,none⟩=some (.int .i64 s.ct):=h.bx.c 8 _ rfl
 have hn:=neq27 s.cd s.ct 0 0
 have hv:s.bad=(!decide (s.cd=0) || !decide (s.ct=0)):=by
  unfold Cs.bad
  by_cases h1:s.cd=0<;>by_cases h2:s.ct=0<;>simp[h1,h2]
 rw[hv]
 clear hv h
 go_enter Tryz.func24,Tryz.ntmps24
 go_wp2
 go_ret
 exact ⟨rfl,rfl⟩
set_option maxRecDepth 20000 in
set_option maxHeartbeats 2000000 in
theorem fault_any {No:Nat→Prop} {b:Nat} {s:Cs} {w:World} (h:Ck No b s w) (c a:Int):Calls Tryz.prog 52 #[.pointer (some ⟨b,0,none⟩),.int .i64 c,.int .i64 a] w (CP No b w (fau c a s)):=by
 obtain ⟨x,h⟩:=h
 have C:=failed_any h
 have HH:Hid (CK No b x s w):=h
 by_cases hb:s.bad=true
 ·have HE:Hid (CP No b w (fau c a s) (.returned (.tuple #[])) w):=by
   unfold fau
   rw[if_pos hb]
   exact ⟨rfl,⟨x,h⟩,Kn.refl _ _⟩
  rw[hb] at C
  clear h hb
  go_enter Tryz.func52,Tryz.ntmps52
  go_wp2_with fail
  refine C.mono ?_
  rintro e w1 ⟨rfl,hw⟩
  rw[hw]
  go_wp2
  go_end0
  exact HE.out
 ·have c7:w.cell? ⟨b,7,none⟩=some (.int .i64 s.cd):=h.bx.c 7 _ rfl
  have c8:w.cell? ⟨b,8,none⟩=some (.int .i64 s.ct):=h.bx.c 8 _ rfl
  have f7:=h.bx.f 7
  have f8:=h.bx.f 8
  have HE:Hid (CP No b w (fau c a s) (.returned (.tuple #[])) ((w.setCell ⟨b,7,none⟩ (.int .i64 c)).setCell ⟨b,8,none⟩ (.int .i64 a))):=by
   have k:Tr x (fun l=>l=1) w ((w.setCell ⟨b,7,none⟩ (.int .i64 c)).setCell ⟨b,8,none⟩ (.int .i64 a)):=((Tr.refl x _ w).set h.lb _).set h.lb _
   unfold fau
   rw[if_neg hb]
   exact ⟨rfl,⟨x,h.own k ((h.bx.put (j:=7) (.int .i64 c)).put (j:=8) (.int .i64 a)) rfl rfl rfl rfl rfl⟩,h.kn (Kn.refl _ _) k rfl rfl rfl (by decide)⟩
  rw[Bool.eq_false_iff.2 hb] at C
  clear h hb
  go_enter Tryz.func52,Tryz.ntmps52
  go_wp2_with fail
  refine C.mono ?_
  rintro e w1 ⟨rfl,hw⟩
  rw[hw]
  go_wp2
  go_end0
  exact HE.out
set_option maxRecDepth 20000 in
set_option maxHeartbeats 2000000 in
theorem limit_any {No:Nat→Prop} {b:Nat} {s:Cs} {w:World} (h:Ck No b s w) (k:Int) (t:Tx) (n p:Int) (v:Value) (c m:Int):Calls Tryz.prog 37 #[.pointer (some ⟨b,0,none⟩),(.agg #[.int .i64 (k),.string ⟨(t).toArray⟩,.int .i64 (n),.int .i64 (p),v]),.int .i64 c,.int .i64 m] w (CP No b w (lim p c m s)):=by
 have B:=h.cy #[.int .i64 k,.string ⟨t.toArray⟩,.int .i64 n,.int .i64 p,v]
 clear h
 by_cases hm:m<c
 ·have C:=fault_any B.ck 6 p
  obtain ⟨p0,p1,p2,p3,p4⟩:=B.bx.five
  have HB:Hid _:=B
  unfold lim
  rw[if_pos hm]
  clear B
  go_enter Tryz.func37,Tryz.ntmps37
  go_wp2_with fail
  refine C.mono ?_
  rintro e w1 hq
  have D:=(HB.out.step hq).out
  obtain ⟨rfl,-⟩:=hq
  go_wp2
  go_end0
  exact D
 ·have HE:Hid (CP No b w (lim p c m s) (.returned (.tuple #[])) (w.alloc (.cells #[.int .i64 (k),.string ⟨(t).toArray⟩,.int .i64 (n),.int .i64 (p),v] 54))):=by
   unfold lim
   rw[if_neg hm]
   exact B.out
  clear B
  go_enter Tryz.func37,Tryz.ntmps37
  go_wp2
  go_end0
  exact HE.out
set_option maxRecDepth 20000 in
set_option maxHeartbeats 2000000 in
theorem kept_any (t:Tx) (w:World):Calls Tryz.prog 79 #[.string ⟨t.toArray⟩] w fun e w'=>e= .returned (.bool (kep t))∧w'=w:=by
 have hv:kep t=(decide (t=[116,97,98,108,101]) || decide (t=[117,116,102,56])):=rfl
 rw[hv]
 by_cases h1:t=[116,97,98,108,101]
 ·subst h1
  go_enter Tryz.func79,Tryz.ntmps79
  go_wp2
  go_ret
  exact ⟨rfl,rfl⟩
 ·by_cases h2:t=[117,116,102,56]
  ·subst h2
   go_enter Tryz.func79,Tryz.ntmps79
   go_wp2
   go_ret
   exact ⟨rfl,rfl⟩
  ·go_enter Tryz.func79,Tryz.ntmps79
   go_wp2
   go_ret
   exact ⟨by simp[h1,h2],rfl⟩
end Go.Proofs.YtkjbgggghigapaaGreat


namespace Go.Proofs.YtkjbgggghigapaaGreat
open Go.RowKit
set_option maxRecDepth 20000 in
set_option maxHeartbeats 2000000 in
theorem unkept_any {No:Nat→Prop} {b:Nat} {s:Cs} {w:World} (h:Ck No b s w) (k:Int) (t:Tx) (n p:Int) (v:Value):Calls Tryz.prog 50 #[.pointer (some ⟨b,0,none⟩),(.agg #[.int .i64 (k),.string ⟨(t).toArray⟩,.int .i64 (n),.int .i64 (p),v])] w (CP No b w (unk t p s)):=by
 have B:=h.cy #[.int .i64 k,.string ⟨t.toArray⟩,.int .i64 n,.int .i64 p,v]
 clear h
 obtain ⟨p0,p1,p2,p3,p4⟩:=B.bx.five
 have K:=kept_any t (w.alloc (.cells #[.int .i64 (k),.string ⟨(t).toArray⟩,.int .i64 (n),.int .i64 (p),v] 54))
 have HB:Hid _:=B
 unfold unk
 by_cases hm:kep t=true
 ·have C:=fault_any B.ck 5 p
  rw[if_pos hm]
  rw[hm] at K
  clear B hm
  go_enter Tryz.func50,Tryz.ntmps50
  go_wp2_with fail
  refine K.mono ?_
  rintro e w1 ⟨rfl,hw⟩
  rw[hw]
  go_wp2_with fail
  refine C.mono ?_
  rintro e w1 hq
  have D:=(HB.out.step hq).out
  obtain ⟨rfl,-⟩:=hq
  go_wp2
  go_end0
  exact D
 ·rw[if_neg hm]
  rw[Bool.eq_false_iff.2 hm] at K
  clear B hm
  go_enter Tryz.func50,Tryz.ntmps50
  go_wp2_with fail
  refine K.mono ?_
  rintro e w1 ⟨rfl,hw⟩
  rw[hw]
  go_wp2
  go_end0
  exact HB.out.out
theorem strs_at (l:List Tx) (i:Nat) (u:Tx) (h:l[i]?=some u):(strs l)[i]?=some (.string ⟨u.toArray⟩):=by simp[strs,h]
theorem own_at {w:World} {e:TypeId} {z:Nat} {v:Value} {n:Nat} {xs:List Value} (h:w.ownsRow 0 e z v n xs) (j:Nat) (u:Value) (hj:xs[j]?=some u):∃g,v.ownBlock=some g∧w.cell? ⟨g,j,none⟩=some u:=by
 rcases h.2 with ⟨rfl,h0⟩ | ⟨g,cap,cur,rfl,_⟩
 ·have:=h.1
  rw[h0] at this
  have:=(List.getElem?_eq_some_iff.1 hj).1
  omega
 ·exact ⟨g,rfl,by
   have:=h.cells (g:=g) rfl j u hj
   unfold Addr.add at this
   split at this
   ·next h0=>subst h0;exact this
   ·simpa using this⟩
end Go.Proofs.YtkjbgggghigapaaGreat


namespace Go.Proofs.YtkjbgggghigapaaGreat
open Go.RowKit
theorem bthen {B:Nat} {a w w':World} (h:Below B a w) (hB:B≤w.heap.size) (k:Below w.heap.size w w'):Below B a w':=
 ⟨k.os.trans h.os,k.tape.trans h.tape,k.output.trans h.output,Nat.le_trans h.size k.size,fun g hg=>(k.block g (Nat.lt_of_lt_of_le hg hB)).trans (h.block g hg)⟩
theorem under54:Tryz.prog.underlying 79=some (.struct (Tryz.prog.fieldsOf 79)):=by kernel_rfl
theorem stood54:Tryz.prog.stoodInHeld 79=false:=by kernel_rfl
theorem eql54 (k n k' n':Int) (s s':Tx) (W:World):(binOp .eql 79 (.agg #[.int .i64 k,.int .i64 n,.string ⟨s.toArray⟩]) (.agg #[.int .i64 k',.int .i64 n',.string ⟨s'.toArray⟩])).run Tryz.prog W= .ok (.bool (decide ((k,n,s)=(k',n',s')))) W:=by
 rw[run_eql_struct,run_equalIn_agg W _ _ _ _ under54 stood54]
 simp[go_sem]
 by_cases h1:k=k'<;>by_cases h2:n=n'<;>by_cases h3:s=s'<;>simp[h1,h2,h3]
theorem vcl_at:∀(l:List Vl) (i:Nat) (v:Vl),l[i]?=some v→(vcl l)[i * 3]?=some (.int .i64 v.1)∧(vcl l)[i * 3+1]?=some (.int .i64 v.2.1)∧(vcl l)[i * 3+2]?=some (.string ⟨v.2.2.toArray⟩)
 | [],i,v,h=>by simp at h
 | u::l,0,v,h=>by simp at h;subst h;exact ⟨rfl,rfl,rfl⟩
 | u::l,i+1,v,h=>by
   have:=vcl_at l i v (by simpa using h)
   simpa only[show (i+1) * 3=i * 3+3 by omega,show i * 3+3+1=i * 3+1+3 by omega,show i * 3+3+2=i * 3+2+3 by omega,vcl,List.flatMap_cons,List.cons_append,List.nil_append,List.getElem?_cons_succ] using this
set_option maxRecDepth 20000 in
set_option maxHeartbeats 2000000 in
theorem indexV_any (l:List Vl) (t:Vl) (v:Value) (w:World) (h:w.ownsRow 0 79 3 v l.length (vcl l)) (hl:l.length≤2000000):
 Calls Tryz.prog 78 #[v,.agg #[.int .i64 t.1,.int .i64 t.2.1,.string ⟨t.2.2.toArray⟩]] w fun e w'=>(∃i:Int,e= .returned (.int .i64 i)∧decide (0≤i)=l.contains t)∧Below w.heap.size w w':=by
 obtain ⟨a,c,rfl⟩:=slice_shape h
 have HC:Hid (∀i u,l[i]?=some u→∃g,a=some ⟨g,0,none⟩∧g<w.heap.size∧w.cell? ⟨g,i * 3,none⟩=some (.int .i64 u.1)∧w.cell? ⟨g,i * 3+1,none⟩=some (.int .i64 u.2.1)∧w.cell? ⟨g,i * 3+2,none⟩=some (.string ⟨u.2.2.toArray⟩)):=fun i u hu=>by
  obtain ⟨h1,h2,h3⟩:=vcl_at l i u hu
  obtain ⟨g,q1,q2⟩:=own_at h _ _ h1
  obtain ⟨g2,q3,q4⟩:=own_at h _ _ h2
  obtain ⟨g3,q5,q6⟩:=own_at h _ _ h3
  have e2:g2=g:=by rw[q3] at q1;simpa using q1
  have e3:g3=g:=by rw[q5] at q1;simpa using q1
  rw[e2] at q4
  rw[e3] at q6
  have hg:=(h.lt g q1).2
  rcases h.2 with ⟨e,_⟩ | ⟨g',cap,cur,e,_⟩
  ·rw[e] at q1;simp[Value.ownBlock] at q1
  ·rw[e] at q1
   injection e with e1 e2 e3
   have e4:g'=g:=by simpa [Value.ownBlock] using q1
   exact ⟨g,by rw[e1,e4],hg,q2,q4,q6⟩
 clear h
 obtain ⟨tk,tn,ts⟩:=t
 have HB:=(Below.refl w.heap.size w).alloc (Nat.le_refl _) (.cells #[.int .i64 tk,.int .i64 tn,.string ⟨ts.toArray⟩] 79)
 have X0:=Bx.new w 79 #[.int .i64 tk,.int .i64 tn,.string ⟨ts.toArray⟩]
 obtain ⟨W1,hW⟩:∃W1,w.alloc (.cells #[.int .i64 tk,.int .i64 tn,.string ⟨ts.toArray⟩] 79)=W1:=⟨_,rfl⟩
 rw[hW] at HB X0
 have HC:Hid (∀wx,Below W1.heap.size W1 wx→(Bx w.heap.size 79 #[.int .i64 tk,.int .i64 tn,.string ⟨ts.toArray⟩] wx∧Below w.heap.size w wx)∧∀i u,l[i]?=some u→∃g,a=some ⟨g,0,none⟩∧wx.cell? ⟨g,i * 3,none⟩=some (.int .i64 u.1)∧wx.cell? ⟨g,i * 3+1,none⟩=some (.int .i64 u.2.1)∧wx.cell? ⟨g,i * 3+2,none⟩=some (.string ⟨u.2.2.toArray⟩)):=fun wx hx=>by
  refine ⟨⟨X0.below hx,bthen HB HB.size hx⟩,fun i u hu=>?_⟩
  obtain ⟨g,q0,q1,q2,q3,q4⟩:=HC.out i u hu
  have q5:g<W1.heap.size:=Nat.lt_of_lt_of_le q1 HB.size
  exact ⟨g,q0,(hx.cell (by exact q5)).trans ((HB.cell (by exact q1)).trans q2),(hx.cell (by exact q5)).trans ((HB.cell (by exact q1)).trans q3),(hx.cell (by exact q5)).trans ((HB.cell (by exact q1)).trans q4)⟩
 clear X0 HB
 simp only
 go_enter Tryz.func78,Tryz.ntmps78
 go_wp2_with fail
 go_loopw [4,5,8] (fun _ _ iv wx=>∃i:Nat,iv= .int .i64 (i:Nat)∧i≤l.length∧Hid ((l.take i).contains (tk,tn,ts)=false∧Below W1.heap.size W1 wx)) (fun _ _ iv _=>l.length - (intOf iv).toNat)
 case atStart=>exact ⟨0,rfl,Nat.zero_le _,by simp,Below.refl _ _⟩
 case round=>
  obtain ⟨i,rfl,hi,HR⟩:=hrel
  obtain ⟨⟨X1,_⟩,HC1⟩:=HC.out wr HR.out.2
  have x0:=X1.c 0 _ rfl
  have x1:=X1.c 1 _ rfl
  have x2:=X1.c 2 _ rfl
  clear X1
  by_cases hlt:i<l.length
  ·obtain ⟨u,hu⟩:∃u,l[i]?=some u:=⟨_,List.getElem?_eq_getElem hlt⟩
   obtain ⟨g,rfl,q0,q1,q2⟩:=HC1 i u hu
   obtain ⟨uk,un,us⟩:=u
   have E:=eql54 tk tn uk un ts us
   clear HC1
   by_cases he:(tk,tn,ts)=(uk,un,us)
   ·have HE:Hid (l.contains (tk,tn,ts)=true∧Below w.heap.size w wr):=by
     have:=List.mem_of_getElem? hu
     rw[←he] at this
     exact ⟨by simpa using this,(HC.out wr HR.out.2).1.2⟩
    rw[decide_eq_true he] at E
    clear hu HC he
    go_wp2_with fail
    go_region
    all_goals
     go_wp2
     go_ret
     exact ⟨⟨_,rfl,by rw[HE.out.1];simp⟩,HE.out.2.drew⟩
   ·have HN:Hid ((l.take (i+1)).contains (tk,tn,ts)=false∧Below W1.heap.size W1 wr):=by
     rw[List.take_add_one,hu]
     have:=HR.out.1
     refine ⟨?_,HR.out.2⟩
     simp only[Option.toList_some,List.contains_eq_mem,List.mem_append,List.mem_singleton,decide_eq_false_iff_not,not_or] at this⊢
     exact ⟨this,he⟩
    rw[decide_eq_false he] at E
    clear hu HR HC he
    go_wp2_with fail
    go_region
    all_goals
     go_wp2
     refine ⟨⟨i+1,by go_num,by omega,HN.out.1,HN.out.2.drew⟩,?_⟩
     simp[intOf];omega
  ·obtain rfl:i=l.length:=by omega
   have HE:Hid (l.contains (tk,tn,ts)=false∧Below w.heap.size w wr):=by have:=HR.out.1;exact ⟨by simpa using this,(HC.out wr HR.out.2).1.2⟩
   clear HR HC HC1
   go_wp2
   go_ret
   exact ⟨⟨_,rfl,by rw[HE.out.1];decide⟩,HE.out.2⟩
set_option maxRecDepth 20000 in
set_option maxHeartbeats 2000000 in
theorem containsV_any (l:List Vl) (t:Vl) (v:Value) (w:World) (h:w.ownsRow 0 79 3 v l.length (vcl l)) (hl:l.length≤2000000):
 Calls Tryz.prog 49 #[v,.agg #[.int .i64 t.1,.int .i64 t.2.1,.string ⟨t.2.2.toArray⟩]] w fun e w'=>e= .returned (.bool (l.contains t))∧Below w.heap.size w w':=by
 have HB:=(Below.refl w.heap.size w).alloc (Nat.le_refl _) (.cells #[.int .i64 t.1,.int .i64 t.2.1,.string ⟨t.2.2.toArray⟩] 79)
 have X0:=Bx.new w 79 #[.int .i64 t.1,.int .i64 t.2.1,.string ⟨t.2.2.toArray⟩]
 have C:=indexV_any l t v _ (h.alloc (.cells #[.int .i64 t.1,.int .i64 t.2.1,.string ⟨t.2.2.toArray⟩] 79)) hl
 obtain ⟨W1,hW⟩:∃W1,w.alloc (.cells #[.int .i64 t.1,.int .i64 t.2.1,.string ⟨t.2.2.toArray⟩] 79)=W1:=⟨_,rfl⟩
 rw[hW] at HB X0 C
 have x0:=X0.c 0 _ rfl
 have x1:=X0.c 1 _ rfl
 have x2:=X0.c 2 _ rfl
 have HB:Hid (Below w.heap.size w W1):=HB
 clear X0 h
 go_enter Tryz.func49,Tryz.ntmps49
 go_wp2_with fail
 refine C.mono ?_
 rintro e w1 ⟨⟨i,rfl,hi⟩,hw⟩
 have HE:Hid (decide (0≤i)=l.contains t∧Below w.heap.size w w1):=⟨hi,bthen HB.out HB.out.size hw⟩
 clear hi hw
 go_wp2
 go_ret
 exact ⟨by rw[←HE.out.1];simp,HE.out.2⟩
end Go.Proofs.YtkjbgggghigapaaGreat


namespace Go.Proofs.YtkjbgggghigapaaGreat
open Go.RowKit
theorem law9:Maps.Keyed Tryz.prog 9:=Maps.string_keyed Tryz.underlying9
theorem zero140 (w:World):(zeroValue 136).run Tryz.prog w= .ok (.agg #[]) w:=by kernel_rfl
theorem info9:(Tryz.prog.info? 9).map (fun i=>(i.zero,i.size,i.bytes))=some (some (.string ⟨#[]⟩),1,16):=by kernel_rfl
theorem strs_app (l:List Tx) (t:Tx):strs (l++[t])=strs l++[.string ⟨t.toArray⟩]:=by simp[strs]
theorem own_set {w:World} {e:TypeId} {z:Nat} {v:Value} {n:Nat} {xs:List Value} (h:w.ownsRow 0 e z v n xs) {b o:Nat} (hb:∀g,v.ownBlock=some g→g≠b) (u:Value):(w.setCell ⟨b,o,none⟩ u).ownsRow 0 e z v n xs:=
 own_keep h fun g hg=>Below.heap_setCell w _ u g (hb g hg)
section
variable {No:Nat→Prop} {b:Nat} {x:Cx} {s:Cs} {w w':World} {T:Nat→Prop}
theorem Tr.app {v:Value} {l:Nat} (h:w.grownBy w' v.ownBlock) (hv:∀g,v.ownBlock=some g→x.lab g=l) (hl:T l):Tr x T w w':=⟨h.size,fun g hg hT=>h.block g hg fun e=>hT (by rw[hv g e.symm];exact hl)⟩
theorem CK.relab (h:CK No b x s w) (lab':Nat→Nat) (e:∀g,g<w.heap.size→lab' g=x.lab g):CK No b {x with lab:=lab'} s w:=
 ⟨h.bx,h.fr,h.gr,h.lr,h.ar,h.mp,h.cs,h.vl,(e b h.lt).trans h.lb,fun g hg=>(e g (h.fr.lt g hg).2).trans (h.lF g hg),fun g hg=>(e g (h.gr.lt g hg).2).trans (h.lG g hg),fun g hg=>(e g (h.lr.lt g hg).2).trans (h.lL g hg),h.lA,(e _ h.mp.lt).trans h.lm,
  fun i v g hv hg=>by
   obtain ⟨f,hf⟩:∃f,s.fs[i]?=some f:=by
    have:=(List.getElem?_eq_some_iff.1 hv).1
    rw[h.vl] at this
    exact ⟨_,List.getElem?_eq_getElem this⟩
   exact (e g ((h.cs i f v hf hv).lt g hg).2).trans (h.lc i v g hv hg),
  fun g hg=>⟨(h.no g hg).1,(e g (h.no g hg).1).trans (h.no g hg).2⟩,h.nu⟩
theorem CK.at (h:CK No b x s w) {v:Value} {l g':Nat} (hv:∀g,v.ownBlock=some g→x.lab g=l) (hat:v.ownBlock=some g'∨w.heap.size≤g'):CK No b {x with lab:=fun g=>if g=g' then l else x.lab g} s w:=
 h.relab _ fun g hg=>by
  by_cases e:g=g'
  ·rw[if_pos e]
   rcases hat with q | q
   ·rw[e];exact (hv g' q).symm
   ·omega
  ·rw[if_neg e]
end
theorem CK.appG {No:Nat→Prop} {b:Nat} {x:Cx} {s:Cs} {w w2 w3:World} {t:Tx} {g' cc:Nat} {o1 o2:Obj} (h:CK No b x s w) (hg2:(w.alloc o1).grownBy w2 (some x.m)) (hM:Ms w2 x.m (s.gl++[t])) (hown:w3.ownsRow 0 9 1 (.slice (some ⟨g',0,none⟩) (s.gl.length+1) cc) (s.gl.length+1) (strs s.gl++[.string ⟨t.toArray⟩]))
 (hg3:(w2.alloc o2).grownBy w3 x.vG.ownBlock) (hat:x.vG.ownBlock=some g'∨g'=(w2.alloc o2).heap.size):CP No b w {s with gl:=s.gl++[t]} (.returned (.tuple #[])) (w3.setCell ⟨b,1,none⟩ (.slice (some ⟨g',0,none⟩) (s.gl.length+1) cc)):=by
 have s2:=hg2.size
 have s3:=hg3.size
 have z1:(w.alloc o1).heap.size=w.heap.size+1:=by simp
 have z2:(w2.alloc o2).heap.size=w2.heap.size+1:=by simp
 have h1:=h.at h.lG (g':=g') (hat.imp id fun e=>by omega)
 generalize hlab:(fun g=>if g=g' then 3 else x.lab g)=lab' at h1
 have hl':lab' g'=3:=by rw[←hlab];exact if_pos rfl
 have hbg:g'≠b:=fun e=>by have:=h1.lb;rw[←e] at this;simp only at this;omega
 have hmg:some x.m≠x.vG.ownBlock:=fun e=>by have:=h1.lG x.m e.symm;have:=h1.lm;simp only at *;omega
 have hmb:x.m≠b:=fun e=>by have:=h1.lm;have:=h1.lb;simp only at *;rw[e] at *;omega
 have k0:Tr {x with lab:=lab'} (fun l=>l=1∨l=3∨l=5) w w3:=by
  refine (((Tr.refl _ _ w).alloc o1).trans ?_).trans ((Tr.alloc (Tr.refl _ _ w2) o2).trans (Tr.app hg3 h1.lG (.inr (.inl rfl))))
  exact ⟨hg2.size,fun g hg hT=>hg2.block g hg fun e=>hT (.inr (.inr (by injection e with e;rw[e];exact h1.lm)))⟩
 have k:Tr {x with lab:=lab'} (fun l=>l=1∨l=3∨l=5) w (w3.setCell ⟨b,1,none⟩ (.slice (some ⟨g',0,none⟩) (s.gl.length+1) cc)):=k0.set (.inl h1.lb) _
 have hb3:Bx b 76 (ccl x s) w3:=by
  have q1:Bx b 76 (ccl x s) w2:=⟨(hg2.block b (by have:=h.lt;simp;omega) (fun e=>by injection e with e;exact hmb e.symm)).trans (h.bx.alloc o1).blk⟩
  exact ⟨(hg3.block b (by have:=q1.lt;simp;omega) (fun e=>by have:=h1.lG b e.symm;have:=h1.lb;simp only at *;omega)).trans (q1.alloc o2).blk⟩
 have hM3:Ms w3 x.m (s.gl++[t]):=hM.keep ((hg3.block _ (by have:=hM.lt;simp;omega) hmg).trans ((World.grownBy_alloc w2 o2 none).block _ hM.lt (by simp)))
 refine ⟨rfl,⟨{x with vG:= .slice (some ⟨g',0,none⟩) (s.gl.length+1) cc,lab:=lab'},?_⟩,?_⟩
 ·refine ⟨hb3.put (j:=1) _,h1.fr' k (by simp),?_,h1.lr' k (by simp),h1.ar' k (by simp),hM3.keep (Below.heap_setCell w3 _ _ _ hmb),fun i _ _ hf hv=>h1.cs' k (by omega) hf hv,h.vl,h1.lb,h1.lF,fun g hg=>?_,h1.lL,h.lA,h1.lm,h1.lc,h1.no' k.size,h.nu⟩
  ·rw[strs_app,List.length_append,List.length_singleton]
   exact own_set hown (fun g hg=>by have e2:g'=g:=by simpa [Value.ownBlock] using hg
                                    omega) _
  ·have e2:g'=g:=by simpa [Value.ownBlock] using hg
   rw[←e2];exact hl'
 ·refine ⟨hg3.os.trans hg2.os,hg3.tape.trans hg2.tape,hg3.output.trans hg2.output,k.size,fun g hg hn=>k.block g hg ?_⟩
  rw[(h1.no g hn).2];simp
set_option maxRecDepth 20000 in
set_option maxHeartbeats 4000000 in
theorem global_any {No:Nat→Prop} {b:Nat} {s:Cs} {w:World} (h:Ck No b s w) (t:Tx) (ht:t.length≤20000) (hl:s.gl.length≤1000000):Calls Tryz.prog 53 #[.pointer (some ⟨b,0,none⟩),.string ⟨t.toArray⟩] w (CP No b w (glo t s)):=by
 obtain ⟨x,h⟩:=h
 obtain ⟨i0,hi0,hz0,hz1,hz2⟩:=info_parts info9
 obtain ⟨D,n,hM,hn,hD⟩:=h.mp.ex
 have c1:w.cell? ⟨b,1,none⟩=some x.vG:=h.bx.c 1 _ rfl
 have c2:w.cell? ⟨b,2,none⟩=some (.map (some x.m)):=h.bx.c 2 _ rfl
 have hkey:keyOf Tryz.prog 9 (.string ⟨t.toArray⟩)=some (.string t):=by
  have:=WideMaps.keyOf_string_mk (P:=Tryz.prog) Tryz.underlying9 (s:=⟨t.toArray⟩) (by show t.toArray.size≤maxLen;simp;unfold maxLen;omega)
  simpa using this
 unfold glo
 by_cases hc:s.gl.contains t=true
 ·rw[if_pos hc]
  have HE:Hid (CP No b w s (.returned (.tuple #[])) (w.alloc (.cells #[] 136))):=⟨rfl,⟨x,h.alloc _⟩,(Kn.refl _ _).alloc _⟩
  have hh:Maps.has D (Lit.string t)=true:=(hD t).trans hc
  clear h hc hD
  go_enter Tryz.func53,Tryz.ntmps53
  go_wp2_with (first
   | (at_lookup;refine wpList_lookup_own_unit _ rfl _ _ 72 rfl 9 136 law9 Tryz.underlying72 (zero140 _) x.m n D rfl hM _ _ rfl hkey ?_)
   | go_in)
  go_end0
  exact HE.out
 ·rw[if_neg hc]
  have hh:Maps.has D (Lit.string t)=false:=(hD t).trans (Bool.eq_false_iff.2 hc)
  have b1:=h.bx.alloc (.cells #[] 136)
  have m1:=hM.alloc (.cells #[] 136)
  obtain ⟨W1,hW1⟩:∃W1,w.alloc (.cells #[] 136)=W1:=⟨_,rfl⟩
  have HF:Hid (∀w2,w2.ownsMap Tryz.prog 9 (unitElem (H:=Unit)) x.m (n+1) (D.put (Lit.string t) (.agg []))→W1.grownBy w2 (some x.m)→w2.cell? ⟨b,1,none⟩=some x.vG∧w2.ownsRow 0 9 1 x.vG s.gl.length (strs s.gl)∧Ms w2 x.m (s.gl++[t])∧(∀o,(w2.alloc o).cell? ⟨b,1,none⟩=some x.vG)∧∀o w3,(w2.alloc o).grownBy w3 x.vG.ownBlock→w3.frozen? ⟨b,1,none⟩=false∧w3.cell? ⟨b,1,none⟩=some x.vG):=by
   rw[←hW1]
   intro w2 hM2 hg2
   have hb2:Bx b 76 (ccl x s) w2:=⟨(hg2.block b (by have:=h.lt;simp;omega) (fun e=>by injection e with e;have:=h.lm;have:=h.lb;rw[e] at *;omega)).trans (h.bx.alloc _).blk⟩
   refine ⟨hb2.c 1 _ rfl,?_,⟨_,_,hM2,by simp;omega,fun u=>?_⟩,fun o=>(hb2.alloc o).c 1 _ rfl,fun o w3 hg3=>?_⟩
   ·exact (h.gr.alloc _).kept hg2 (.inr fun e=>by have:=h.lG x.m e;have:=h.lm;omega)
   ·by_cases e:u=t
    ·subst e
     rw[Maps.has_put_same hM.isMap (by simp[WideAt.IsKeyLit])]
     simp
    ·rw[Maps.has_put_other (fun q=>e (by injection q)),hD u]
     simp[e]
   ·have hb3:Bx b 76 (ccl x s) w3:=⟨(hg3.block b (by have:=hb2.lt;simp;omega) (fun e=>by have:=h.lG b e.symm;have:=h.lb;omega)).trans (hb2.alloc o).blk⟩
    exact ⟨hb3.f 1,hb3.c 1 _ rfl⟩
  have HH:Hid (CK No b x s w):=h
  have HW:Hid (w.alloc (.cells #[] 136)=W1):=hW1
  rw[hW1] at b1 m1
  have c2':W1.cell? ⟨b,2,none⟩=some (.map (some x.m)):=b1.c 2 _ rfl
  clear h hc hD b1
  go_enter Tryz.func53,Tryz.ntmps53
  go_wp2_with (first
   | (at_lookup;refine wpList_lookup_own_unit _ rfl _ _ 72 rfl 9 136 law9 Tryz.underlying72 (zero140 _) x.m n D rfl hM _ _ rfl hkey ?_)
   | (at_mapUpdate;refine wpList_mapUpdate_own _ rfl _ _ _ 72 rfl 9 136 law9 Tryz.underlying72 (unitElem (H:=Unit)) x.m n D rfl m1 (by unfold maxLen;omega) _ _ _ rfl rfl hkey _ [] unitElem_mk ?_;intro w2 hM2 hg2;obtain ⟨q1,q3,q5,q7,q6⟩:=HF.out w2 hM2 hg2)
   | (at_builtin;refine wpList_append_lies _ rfl _ _ 23 rfl 0 9 i0 _ 1 16 Tryz.underlying23 hi0 hz0 hz1 hz2 rfl (by omega) x.vG s.gl.length (strs s.gl) rfl (q3.alloc _) ⟨w2.heap.size,0,none⟩ 1 1 [.string ⟨t.toArray⟩] rfl rfl (World.news_of_block (cs:=#[.string ⟨t.toArray⟩]) (t:=9) (fr:=(0,0)) (Bx.new w2 9 #[.string ⟨t.toArray⟩]).blk) (by simp[Value.oneCell']) (by omega) (by unfold maxLen;omega) (by omega) (by omega) _ rfl ?_;intro g' cc w3 hown3 hg3 hat3 hlt3;obtain ⟨q8,q9⟩:=q6 _ w3 hg3)
   | go_in)
  go_end0
  have hg2':=hg2
  rw[←HW.out] at hg2'
  exact HH.out.appG hg2' q5 hown3 hg3 hat3
end Go.Proofs.YtkjbgggghigapaaGreat
