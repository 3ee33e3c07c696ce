import Derived.Test.YtlgkfhipobdcfaaGreatDoorCg04
import Derived.Lib.MapLaws
import Derived.Test.YtlgkfhipobdcfaaGreatDoorCg03
import Derived.Test.YtlgkfhipobdcfaaGreatDoorCg06
import Derived.Shelf.Strings.Builder1
import Derived.Shelf.Strings.Builder2
import Derived.Shelf.Strings.OnBuilder
import Derived.Shelf.Small.Strs
import Derived.Shelf.Strings.BuilderF
import Derived.Shelf.Strings.Builder2Cap
import Derived.Shelf.Strconv.Itoa0
import Derived.Shelf.Strconv.Itoa1
import Derived.Shelf.LaysM
import Derived.Shelf.Strconv.Itoa2
import Derived.Shelf.Strconv.Itoa3
import Derived.Shelf.Strconv.Clone
import Derived.Shelf.Strings.Search1
import Derived.Shelf.Strings.Prefix
import Derived.Test.YtlgkfhipobdcfaaGreatDoorCg00
import Derived.Test.YtlgkfhipobdcfaaGreatDoorCg16
namespace Go.Proofs.YtlgkfhipobdcfaaGreatDoor
open Go.RowKit
def hxd (n : Nat) : UInt8:=if n < 10 then UInt8.ofNat (48 + n) else UInt8.ofNat (87 + n)
def qr (l : List UInt8) : List UInt8 :=
  if (l.headD 0).toNat = 92 ∨ (l.headD 0).toNat = 34 then [92,l.headD 0]
  else if (l.headD 0).toNat = 10 then [92,110]
  else if (l.headD 0).toNat = 13 then [92,114]
  else if (l.headD 0).toNat < 32 ∨ (l.headD 0).toNat = 127 then [92,UInt8.ofNat (48 + (l.headD 0).toNat / 100),UInt8.ofNat (48 + (l.headD 0).toNat / 10 % 10),UInt8.ofNat (48 + (l.headD 0).toNat % 10)]
  else if rnL l = 65533 ∧ wdL l = 1 then [92,120,hxd ((l.headD 0).toNat / 16),hxd ((l.headD 0).toNat % 16)]
  else l.take (wdL l)
def quo : List UInt8 → List UInt8
  | []=>[]
  | c :: t=>qr (c :: t) ++ quo (t.drop (wdL (c :: t) - 1))
termination_by l=>l.length
decreasing_by simp;omega
def quoQ (l : List UInt8) : List UInt8:=34 :: (quo l ++ [34])
theorem qr1 (c : UInt8) (t : List UInt8) (h1 : c.toNat = 92 ∨ c.toNat = 34) : qr (c :: t) = [92,c]:=if_pos h1
theorem qr2 (c : UInt8) (t : List UInt8) (h1 : ¬ (c.toNat = 92 ∨ c.toNat = 34)) (h2 : c.toNat = 10) : qr (c :: t) = [92,110]:=(if_neg h1).trans (if_pos h2)
theorem qr3 (c : UInt8) (t : List UInt8) (h1 : ¬ (c.toNat = 92 ∨ c.toNat = 34)) (h2 : ¬ c.toNat = 10) (h3 : c.toNat = 13) : qr (c :: t) = [92,114]:=(if_neg h1).trans ((if_neg h2).trans (if_pos h3))
theorem qr4 (c : UInt8) (t : List UInt8) (h1 : ¬ (c.toNat = 92 ∨ c.toNat = 34)) (h2 : ¬ c.toNat = 10) (h3 : ¬ c.toNat = 13) (h4 : c.toNat < 32 ∨ c.toNat = 127) :
    qr (c :: t) = [92,UInt8.ofNat (48 + c.toNat / 100),UInt8.ofNat (48 + c.toNat / 10 % 10),UInt8.ofNat (48 + c.toNat % 10)]:=(if_neg h1).trans ((if_neg h2).trans ((if_neg h3).trans (if_pos h4)))
theorem qr5 (c : UInt8) (t : List UInt8) (h1 : ¬ (c.toNat = 92 ∨ c.toNat = 34)) (h2 : ¬ c.toNat = 10) (h3 : ¬ c.toNat = 13) (h4 : ¬ (c.toNat < 32 ∨ c.toNat = 127)) (h5 : rnL (c :: t) = 65533 ∧ wdL (c :: t) = 1) :
    qr (c :: t) = [92,120,hxd (c.toNat / 16),hxd (c.toNat % 16)]:=(if_neg h1).trans ((if_neg h2).trans ((if_neg h3).trans ((if_neg h4).trans (if_pos h5))))
theorem qr6 (c : UInt8) (t : List UInt8) (h1 : ¬ (c.toNat = 92 ∨ c.toNat = 34)) (h2 : ¬ c.toNat = 10) (h3 : ¬ c.toNat = 13) (h4 : ¬ (c.toNat < 32 ∨ c.toNat = 127)) (h5 : ¬ (rnL (c :: t) = 65533 ∧ wdL (c :: t) = 1)) :
    qr (c :: t) = (c :: t).take (wdL (c :: t)):=(if_neg h1).trans ((if_neg h2).trans ((if_neg h3).trans ((if_neg h4).trans (if_neg h5))))
theorem quo_nil : quo [] = []:=by rw [quo]
theorem quo_step (l : List UInt8) (h : l ≠ []) : quo l = qr l ++ quo (l.drop (wdL l)):=by
  match l,h with
  | c :: t,_=>rw [quo,drop_wd c t _ (wdL_pos _)]
theorem qr_len (l : List UInt8) : (qr l).length ≤ 4 * wdL l:=by
  have h:=wdL_pos l
  unfold qr
  repeat' split
  all_goals simp only [List.length_cons,List.length_nil,List.length_take]
  all_goals omega
theorem enc_rnL (l : List UInt8) (hne : l ≠ []) (hv : ¬ (rnL l = 65533 ∧ wdL l = 1)) : Utf8.encode (rnL l : Int) = ⟨(l.take (wdL l)).toArray⟩:=by
  have hd:=dec_list l
  have h:=Lib.encode_decode l hne hv
  have h1 : Lib.encodeRune (rnL l : Int) = l.take (wdL l):=h
  have hs : rnL l ≤ 1114111 ∧ (rnL l < 55296 ∨ 57343 < rnL l):=by
    refine ⟨rnL_le l,?_⟩
    have hs:=Lib.decodeN_shape l.length (l.getD 0 0).toNat (l.getD 1 0).toNat (l.getD 2 0).toNat (l.getD 3 0).toNat
    rw [← hd] at hs
    simp only [Prod.mk.injEq] at hs
    omega
  have hb : encB (rnL l : Int) = true:=by rw [encB_iff];omega
  rw [enc_bytes _ hb,← h1]
  congr 2
  rw [Int.toNat_natCast]
  generalize rnL l = r at hs
  have hz : Lib.encodeRuneZ (r : Int) = (encL r).map fun n : Nat=>(n : Int):=by
    unfold Lib.encodeRuneZ encL
    repeat' split
    all_goals first | omega | (simp only [List.map_cons,List.map_nil,List.cons.injEq,and_true];done) | (simp only [List.map_cons,List.map_nil,List.cons.injEq,and_true];omega)
  unfold Lib.encodeRune
  rw [hz,List.map_map]
  congr 1
end Go.Proofs.YtlgkfhipobdcfaaGreatDoor


namespace Go.Proofs.YtlgkfhipobdcfaaGreatDoor
open Go.RowKit
theorem LD_hd (s : ByteArray) (p : Nat) (h : p < s.size) : (LD s p).headD 0 = s[p]:=by
  have hl : p < s.data.toList.length:=by rw [Array.length_toList];exact h
  unfold LD
  rw [List.drop_eq_getElem_cons hl]
  rfl
theorem ret_str {a b : ByteArray} (h : a = b) : Ending.returned (.string a) = .returned (.string b):=by rw [h]
set_option maxHeartbeats 1000000 in
theorem invalid_any (s : ByteArray) (p : Nat) (w : World) (hp : p < s.size) (hs : s.size ≤ 1048576) : Calls Tryz.prog 145 #[.string s,.int .i64 p] w fun e w'=>e = .returned (.bool (decide (wd s p = 1))) ∧ Below w.heap.size w w':=by
  have C:=fun w=>decode_yes s p w hp (by omega)
  go_enter Tryz.func145,Tryz.ntmps145
  go_wp2_with (go_at_call 154;refine (C _).mono ?_;rintro e w1 ⟨rfl,hb⟩)
  go_ret
  exact ⟨ret_bool (by rw [Bool.eq_iff_iff];simp;omega),hb.alloc hb.size _⟩
theorem dec_str (r : Nat) : strOfNums [92,48 + (r : Int) / 100,48 + (r : Int) / 10 % 10,48 + (r : Int) % 10] = ⟨[92,UInt8.ofNat (48 + r / 100),UInt8.ofNat (48 + r / 10 % 10),UInt8.ofNat (48 + r % 10)].toArray⟩:=by
  have e1 : 48 + (r : Int) / 100 = ((48 + r / 100 : Nat) : Int):=by omega
  have e2 : 48 + (r : Int) / 10 % 10 = ((48 + r / 10 % 10 : Nat) : Int):=by omega
  have e3 : 48 + (r : Int) % 10 = ((48 + r % 10 : Nat) : Int):=by omega
  rw [e1,e2,e3]
  rfl
theorem hexAt (m : Nat) (h : m < (⟨#[48,49,50,51,52,53,54,55,56,57,97,98,99,100,101,102]⟩ : ByteArray).size) : UInt8.ofNat ((⟨#[48,49,50,51,52,53,54,55,56,57,97,98,99,100,101,102]⟩ : ByteArray)[m]'h).toNat = hxd m:=by
  have h' : m < 16:=h
  have : m = 0 ∨ m = 1 ∨ m = 2 ∨ m = 3 ∨ m = 4 ∨ m = 5 ∨ m = 6 ∨ m = 7 ∨ m = 8 ∨ m = 9 ∨ m = 10 ∨ m = 11 ∨ m = 12 ∨ m = 13 ∨ m = 14 ∨ m = 15:=by omega
  rcases this with rfl | rfl | rfl | rfl | rfl | rfl | rfl | rfl | rfl | rfl | rfl | rfl | rfl | rfl | rfl | rfl <;> rfl
theorem hex_str (n : Nat) (h1 : n / 16 < (⟨#[48,49,50,51,52,53,54,55,56,57,97,98,99,100,101,102]⟩ : ByteArray).size) (h2 : n % 16 < (⟨#[48,49,50,51,52,53,54,55,56,57,97,98,99,100,101,102]⟩ : ByteArray).size) :
    strOfNums [92,120,(((⟨#[48,49,50,51,52,53,54,55,56,57,97,98,99,100,101,102]⟩ : ByteArray)[n / 16]'h1).toNat : Int),(((⟨#[48,49,50,51,52,53,54,55,56,57,97,98,99,100,101,102]⟩ : ByteArray)[n % 16]'h2).toNat : Int)] = ⟨[92,120,hxd (n / 16),hxd (n % 16)].toArray⟩:=by
  rw [← hexAt (n / 16) h1,← hexAt (n % 16) h2]
  rfl
set_option maxRecDepth 20000 in
set_option maxHeartbeats 4000000 in
theorem quotedRune_any (s : ByteArray) (p : Nat) (w : World) (hp : p < s.size) (hs : s.size ≤ 1048576) :
    Calls Tryz.prog 134 #[.string s,.int .i64 p,.int .i32 (rn s p)] w fun e w'=>e = .returned (.string ⟨(qr (LD s p)).toArray⟩) ∧ Below w.heap.size w w':=by
  obtain ⟨c,hc⟩:=LD_cons s p hp
  have hcs : s[p] = c:=by
    have:=LD_hd s p hp
    rw [hc] at this;exact this.symm
  have hR : rn s p = rnL (LD s p):=rn_drop s p
  have hW : wd s p = wdL (LD s p):=wd_drop s p
  have CI:=fun w=>invalid_any s p w hp hs
  have hE:=enc_rnL (LD s p) (by rw [hc];simp)
  rw [← hR,← hW] at hE
  have hlo : c.toNat < 128 → rn s p = c.toNat ∧ wd s p = 1:=fun h=>by rw [hR,hW,hc];exact asc c _ h
  have hhi : 128 ≤ c.toNat → 128 ≤ rn s p:=fun h=>by rw [hR,hc];exact hi c _ h
  have hrl:=rn_le s p
  rw [hc] at hE ⊢
  have hW':=hW
  have hR':=hR
  rw [hc] at hR' hW'
  obtain ⟨r,hr⟩ : ∃ r,rn s p = r:=⟨_,rfl⟩
  rw [hr] at hE hlo hhi hrl hR' ⊢
  clear hr hR
  by_cases h1 : c.toNat = 92 ∨ c.toNat = 34
  · rw [qr1 c _ h1]
    obtain ⟨e1,e2⟩:=hlo (by omega)
    have hE':=hE (by omega)
    rw [e2,List.take_succ_cons,List.take_zero] at hE'
    clear hE hlo hhi hc hcs CI
    rcases h1 with h1 | h1
    · have b1 : r = 92:=by omega
      subst b1
      have HE : Hid (Utf8.encode (92 : Int) = _):=hE'
      clear hE' hR' e1
      go_enter Tryz.func134,Tryz.ntmps134
      go_wp2
      go_ret
      exact ⟨ret_str (by rw [HE.out];rfl),Below.refl _ _⟩
    · have b1 : r = 34:=by omega
      subst b1
      have HE : Hid (Utf8.encode (34 : Int) = _):=hE'
      clear hE' hR' e1
      go_enter Tryz.func134,Tryz.ntmps134
      go_wp2
      go_ret
      exact ⟨ret_str (by rw [HE.out];rfl),Below.refl _ _⟩
  by_cases h2 : c.toNat = 10
  · rw [qr2 c _ h1 h2]
    have b1 : r = 10:=by have:=hlo (by omega);omega
    subst b1
    clear hE hlo hhi hc hcs CI hR'
    go_enter Tryz.func134,Tryz.ntmps134
    go_wp2
    go_ret
    exact ⟨rfl,Below.refl _ _⟩
  by_cases h3 : c.toNat = 13
  · rw [qr3 c _ h1 h2 h3]
    have b1 : r = 13:=by have:=hlo (by omega);omega
    subst b1
    clear hE hlo hhi hc hcs CI hR'
    go_enter Tryz.func134,Tryz.ntmps134
    go_wp2
    go_ret
    exact ⟨rfl,Below.refl _ _⟩
  have b1 : ((r : Int) == 92) = false:=by rw [beq_eq_false_iff_ne];intro e;rcases Nat.lt_or_ge c.toNat 128 with h | h;(have:=hlo h;omega);(have:=hhi h;omega)
  have b2 : ((r : Int) == 34) = false:=by rw [beq_eq_false_iff_ne];intro e;rcases Nat.lt_or_ge c.toNat 128 with h | h;(have:=hlo h;omega);(have:=hhi h;omega)
  have b3 : ((r : Int) == 10) = false:=by rw [beq_eq_false_iff_ne];intro e;rcases Nat.lt_or_ge c.toNat 128 with h | h;(have:=hlo h;omega);(have:=hhi h;omega)
  have b4 : ((r : Int) == 13) = false:=by rw [beq_eq_false_iff_ne];intro e;rcases Nat.lt_or_ge c.toNat 128 with h | h;(have:=hlo h;omega);(have:=hhi h;omega)
  by_cases h4 : c.toNat < 32 ∨ c.toNat = 127
  · rw [qr4 c _ h1 h2 h3 h4]
    have e1:=(hlo (by omega)).1
    rw [← e1] at h4 ⊢
    have hcv:=fun W=>conv_new [92,48 + (r : Int) / 100,48 + (r : Int) / 10 % 10,48 + (r : Int) % 10] 4 rfl W
    simp only [List.map_cons,List.map_nil] at hcv
    clear hE hlo hhi hc hcs CI hR' e1 h1 h2 h3
    have r0 : (0 : Int) ≤ (r : Int):=Int.natCast_nonneg _
    have r1 : (r : Int) ≤ 127:=by omega
    rcases h4 with d1 | d1
    · have d2 : (r : Int) < 32:=by omega
      clear d1
      go_enter Tryz.func134,Tryz.ntmps134
      go_wp2
      go_ret
      exact ⟨congrArg (fun x=>Ending.returned (.string x)) (dec_str r),(Below.refl _ _).alloc (Nat.le_refl _) _⟩
    · subst d1
      clear b1 b2 b3 b4 hcv r0 r1
      have hcv:=fun W=>conv_new [92,49,50,55] 4 rfl W
      simp only [List.map_cons,List.map_nil] at hcv
      go_enter Tryz.func134,Tryz.ntmps134
      go_wp2
      go_ret
      exact ⟨rfl,(Below.refl _ _).alloc (Nat.le_refl _) _⟩
  have b5 : (r : Int) ≥ 32:=by rcases Nat.lt_or_ge c.toNat 128 with h | h;(have:=hlo h;omega);(have:=hhi h;omega)
  have b6 : ((r : Int) == 127) = false:=by rw [beq_eq_false_iff_ne];intro e;rcases Nat.lt_or_ge c.toNat 128 with h | h;(have:=hlo h;omega);(have:=hhi h;omega)
  by_cases h5 : r = 65533 ∧ wd s p = 1
  · rw [qr5 c _ h1 h2 h3 h4 (by rw [← hR',← hW'];exact h5)]
    obtain ⟨h5,h6⟩:=h5
    subst h5
    rw [h6] at CI
    simp only [decide_true] at CI
    have hcn : s[p].toNat = c.toNat:=by rw [hcs]
    obtain ⟨n,hn⟩ : ∃ n,c.toNat = n:=⟨_,rfl⟩
    rw [hn] at hcn ⊢
    have hn0 : (0 : Int) ≤ (n : Int):=Int.natCast_nonneg _
    have hn1 : (n : Int) < 256:=by have:=c.toNat_lt;omega
    clear hE hlo hhi hc hcs hR' h1 h2 h3 h4 hn hW hW' b1 b2 b3 b4 b5 b6
    have hcv : ∀ (W : World) (a b : Int),(convert 72 9 (.slice (some ⟨W.heap.size,0,none⟩) 4 4)).run Tryz.prog (W.alloc (.cells #[.int .u8 92,.int .u8 120,.int .u8 a,.int .u8 b] 5)).drew = .ok (.string (strOfNums [92,120,a,b])) (W.alloc (.cells #[.int .u8 92,.int .u8 120,.int .u8 a,.int .u8 b] 5)).drew:=fun W a b=>conv_new [92,120,a,b] 4 rfl W.drew
    have m0 : (0 : Int) ≤ (n : Int) / 16:=by omega
    have m1 : (n : Int) / 16 < 16:=by omega
    have m2 : (0 : Int) ≤ (n : Int) % 16:=by omega
    have m3 : (n : Int) % 16 < 16:=by omega
    have p0 : (0 : Int) ≤ (p : Int):=Int.natCast_nonneg _
    have p1 : (p : Int) < (s.size : Int):=by omega
    go_enter Tryz.func134,Tryz.ntmps134
    go_wp2_with (go_at_call 145;refine (CI _).mono ?_;rintro e w1 ⟨rfl,hb⟩)
    go_region
    go_wp2
    go_ret
    exact ⟨congrArg (fun x=>Ending.returned (.string x)) (hex_str n _ _),hb.trans ((((Below.refl _ w1).alloc (Nat.le_refl _) _).drew).mono hb.size)⟩
  · rw [qr6 c _ h1 h2 h3 h4 (by rw [← hR',← hW'];exact h5)]
    have HE : Hid _:=hE h5
    rw [← hW']
    clear hE hlo hhi hc hcs hR' h1 h2 h3 h4 hW hW'
    by_cases h6 : r = 65533
    · subst h6
      have hd : decide (wd s p = 1) = false:=by rw [decide_eq_false_iff_not];exact fun e=>h5 ⟨rfl,e⟩
      rw [hd] at CI
      clear h5 hd b1 b2 b3 b4 b5 b6
      go_enter Tryz.func134,Tryz.ntmps134
      go_wp2_with (go_at_call 145;refine (CI _).mono ?_;rintro e w1 ⟨rfl,hb⟩)
      go_ret
      exact ⟨ret_str HE.out,hb⟩
    · have b7 : ((r : Int) == 65533) = false:=by rw [beq_eq_false_iff_ne];omega
      clear h5 h6 CI
      have r0 : (0 : Int) ≤ (r : Int):=Int.natCast_nonneg _
      have r1 : (r : Int) ≤ 1114111:=by omega
      generalize (r : Int) = z at *
      go_enter Tryz.func134,Tryz.ntmps134
      go_wp2
      go_ret
      exact ⟨ret_str HE.out,Below.refl _ _⟩
end Go.Proofs.YtlgkfhipobdcfaaGreatDoor


namespace Go.Proofs.YtlgkfhipobdcfaaGreatDoor
open Go.RowKit
theorem own_iterNe {w : World} {base : Nat} {e : TypeId} {size : Nat} {v : Value} {n : Nat} {xs : List Value} (h : w.ownsRow base e size v n xs) {k : Nat} {y : ByteArray} {q : Nat} (hk : w.heap[k]? = some (.stringIter y q)) : some k ≠ v.ownBlock:=by
  rcases h.2 with ⟨rfl,_⟩ | ⟨g,cap,cur,rfl,g2,g3,_⟩
  · intro e;cases e
  · intro e
    have e' : k = g:=by injection e
    subst e'
    rw [g3] at hk;cases hk
theorem own_iterAt2 {w : World} {base : Nat} {e : TypeId} {size : Nat} {v : Value} {n : Nat} {xs : List Value} (h : w.ownsRow base e size v n xs) {k : Nat} {y : ByteArray} {q : Nat} (hk : w.heap[k]? = some (.stringIter y q)) (x : ByteArray) (p : Nat) : (w.iterAt k x p).ownsRow base e size v n xs:=by
  refine ⟨h.1,?_⟩
  rcases h.2 with h | ⟨g,cap,cur,g1,g2,g3,r⟩
  · exact .inl h
  · refine .inr ⟨g,cap,cur,g1,g2,?_,r⟩
    rw [Lib.iterAt_other w k g x p (fun e=>by subst e;rw [g3] at hk;cases hk)];exact g3
theorem row_one (w : World) (c : UInt8) : (w.alloc (.cells #[.int .u8 c.toNat] 5)).ownsRow w.heap.size 5 1 (.slice (some ⟨w.heap.size,0,none⟩) 1 1) [c].length (Lib.byteCells [c]):=by
  refine ⟨by simp [Lib.byteCells],.inr ⟨w.heap.size,1,#[.int .u8 c.toNat],rfl,Nat.le_refl _,?_,Nat.le_refl _,by decide,rfl,by simp [Lib.byteCells]⟩⟩
  exact Array.getElem?_push_size
set_option maxRecDepth 20000 in
set_option maxHeartbeats 4000000 in
theorem quote_any (s : ByteArray) (w : World) (hs : s.size ≤ 1048576) :
    Calls Tryz.prog 113 #[.string s] w fun e w'=>e = .returned (.string ⟨(quoQ s.data.toList).toArray⟩) ∧ Below w.heap.size w w':=by
  obtain ⟨i5,hi5,hy0,hy1,hy2⟩:=info_parts W.Tryz.info5
  have hr0:=row_one w 34
  obtain ⟨W1,hW1⟩ : ∃ W1,w.alloc (.cells #[.int .u8 34] 5) = W1:=⟨_,rfl⟩
  have hr0' : W1.ownsRow w.heap.size 5 1 (.slice (some ⟨w.heap.size,0,none⟩) 1 1) [(34 : UInt8)].length (Lib.byteCells [34]):=by rw [← hW1];exact hr0
  have z1 : W1.heap.size = w.heap.size + 1:=by rw [← hW1];simp
  have hB1 : Below w.heap.size w W1:=by rw [← hW1];exact (Below.refl _ _).alloc (Nat.le_refl _) _
  clear hr0
  go_enter Tryz.func113,Tryz.ntmps113
  go_wp2
  go_loopg [3] (s.size + 1) (fun gf v3 wx=>∃ (pos : Nat) (acc : List UInt8),pos ≤ s.size ∧ wx.heap[W1.heap.size]? = some (.stringIter s pos) ∧ wx.ownsRow w.heap.size 5 1 v3 acc.length (Lib.byteCells acc) ∧ Below w.heap.size w wx ∧ acc.length ≤ 4 * pos + 1 ∧ Hid (acc ++ quo (LD s pos) = 34 :: quo s.data.toList) ∧ s.size < pos + gf)
  case atStart=>exact ⟨0,[34],Nat.zero_le _,World.iter_heap W1 s 0,hr0'.alloc _,hB1.alloc hB1.size _,by simp,by show _ = _;simp [LD],by omega⟩
  case round =>
    obtain ⟨pos,acc,hple,hi,hown,hB,hacc,hI,hfu⟩:=hrel
    have hzB:=hB.size
    obtain ⟨av,cv,rfl⟩:=slice_shape hown
    have hlt:=(Array.getElem?_eq_some_iff.1 hi).1
    by_cases hps : pos < s.size
    · obtain ⟨g',rfl⟩ : ∃ g',gk = g' + 1:=⟨gk - 1,by omega⟩
      have hnx : ∀ ty,(Instr.next (.pointer (some ⟨W1.heap.size,0,none⟩)) true ty).run Tryz.prog wr = .ok (.tuple #[.bool true,.int .i64 pos,.int .i32 (rn s pos)]) (wr.iterAt W1.heap.size s (pos + wd s pos)):=fun ty=>Lib.run_next_any_at wr W1.heap.size s pos ty hi hps
      have hwl:=wd_le s pos hps
      have hwp:=wd_pos s pos
      have hql:=qr_len (LD s pos)
      have hW' : wd s pos = wdL (LD s pos):=wd_drop s pos
      rw [← hW'] at hql
      have HN : Hid ((acc ++ qr (LD s pos)) ++ quo (LD s (pos + wd s pos)) = 34 :: quo s.data.toList):=by
        show _ = _
        rw [← hI.out,quo_step (LD s pos) (LD_ne s pos hps),← hW',LD_drop,List.append_assoc]
      have CQ:=fun w=>quotedRune_any s pos w hps hs
      obtain ⟨y,hy⟩ : ∃ y,qr (LD s pos) = y:=⟨_,rfl⟩
      rw [hy] at CQ HN hql
      have hi2:=Lib.iterAt_heap wr W1.heap.size s pos (pos + wd s pos) hi
      have hB2:=Lib.below_iterAt hB (by omega : w.heap.size ≤ W1.heap.size) s (pos + wd s pos)
      have hown2:=own_iterAt2 hown hi s (pos + wd s pos)
      obtain ⟨W,hW⟩ : ∃ W,wr.iterAt W1.heap.size s (pos + wd s pos) = W:=⟨_,rfl⟩
      rw [hW] at hnx hi2 hB2 hown2
      rw [z1] at hnx
      have hlt2:=(Array.getElem?_eq_some_iff.1 hi2).1
      have hzB2:=hB2.size
      have hys : (⟨y.toArray⟩ : ByteArray).size = y.length:=sz_list y
      clear hI hi hB hW hy hown hW'
      go_wp2_with (first
        | (go_at_call 134;refine (CQ _).mono ?_;rintro e w4 ⟨rfl,hb4⟩;have hown4:=own_below hown2 hb4;have hi4:=(hb4.block _ hlt2).trans hi2;have hB4:=hB2.trans (hb4.mono hzB2);have hz4:=hb4.size)
        | (at_builtin;refine Lib.wpList_append_own_string _ rfl _ _ 72 9 rfl w.heap.size 5 i5 Tryz.underlying72 Tryz.underlying9 hi5 hy0 hy1 hy2 (.slice av acc.length cv) acc.length (Lib.byteCells acc) rfl hown4 _ rfl ?c1 ?c2 ?c3 ?_))
      case c1=>rw [hys];unfold maxLen;omega
      case c2=>rw [hys];omega
      case c3=>omega
      intro v5 w5 ho5 hg5 _
      have ho6:=own_app ho5 (by rw [hys]) rfl
      have hi5':=(hg5.block _ (by omega) (own_iterNe hown4 hi4)).trans hi4
      have hB5:=hB4.grown hg5 (by omega) (fun k hk=>(hown4.lt k hk).1)
      clear ho5 hg5 hown4 hi4 hB4 hown2 hi2
      go_wp2
      go_roundg g'
      case measure=>omega
      case rel=>exact ⟨pos + wd s pos,acc ++ y,hwl,hi5',by simpa using ho6,hB5,by rw [List.length_append];omega,HN,by omega⟩
    · have hnx : ∀ ty,(Instr.next (.pointer (some ⟨W1.heap.size,0,none⟩)) true ty).run Tryz.prog wr = .ok (.tuple #[.bool false]) wr:=fun ty=>Lib.run_next_end_at wr W1.heap.size s pos ty hi hps
      rw [z1] at hnx
      have HF : Hid (acc = 34 :: quo s.data.toList):=by
        show _ = _
        have e : LD s pos = []:=List.drop_of_length_le (by rw [Array.length_toList];show s.size ≤ pos;omega)
        rw [← hI.out,e,quo_nil,List.append_nil]
      have hrn:=new_cell wr [.int .u8 34] 5 0 _ rfl
      clear hI hi
      go_wp2_with (at_builtin;refine wpList_append_own _ rfl _ _ 72 rfl w.heap.size 5 i5 (.int .u8 0) 1 1 Tryz.underlying72 hi5 hy0 hy1 hy2 rfl (by decide) (.slice av acc.length cv) acc.length (Lib.byteCells acc) rfl (World.ownsRow.alloc hown _) ⟨wr.heap.size,0,none⟩ 1 1 [.int .u8 34] rfl rfl ?c1 ?c2 ?c3 ?c4 ?c5 ?_)
      case c1 =>
        intro j u hj
        match j,hj with
        | 0,hj=>simp at hj;subst hj;exact hrn.1
      case c2=>intro u hu;simp at hu;subst hu;rfl
      case c3=>unfold maxLen;omega
      case c4=>omega
      case c5=>simp;omega
      intro v5 w5 ho5 hg5 _
      have hcc : [Value.int .u8 34] = Lib.byteCells [34]:=by simp [Lib.byteCells]
      rw [hcc] at ho5
      have ho6 : w5.ownsRow w.heap.size 5 1 v5 (acc ++ [34]).length (Lib.byteCells (acc ++ [34])):=by rw [List.length_append,Lib.byteCells_append];exact ho5
      have hB5 : Below w.heap.size w w5:=(hB.alloc (by exact hzB) _).grown hg5 (by simp;omega) (fun k hk=>(hown.lt k hk).1)
      have hcv:=conv_row ho6
      clear ho5 hg5
      go_wp2
      go_ret
      exact ⟨ret_str (by rw [HF.out];rfl),hB5⟩
end Go.Proofs.YtlgkfhipobdcfaaGreatDoor


namespace Go.Proofs
open Go.Shelf
def Tryz.lays156_ren : Go.Shelf.Ren:=⟨fun | 156=>28 | 165=>54 | 166=>55 | 169=>56 | 240=>81 | 241=>82 | 276=>115 | 277=>116 | n=>n,fun | 31=>66 | 9=>9 | 3=>3 | 4=>4 | 0=>0 | 20=>20 | 72=>98 | 76=>101 | 70=>96 | 37=>72 | 75=>100 | 127=>116 | 164=>128 | 5=>5 | 80=>103 | n=>n,fun | n=>n⟩
theorem Tryz.lays156 : Go.Proofs.Lays.n156 Tryz.prog Tryz.lays156_ren:={
  mixed:=by kernel_rfl
  f156:=Tryz.func28.trans (congrArg some (by kernel_rfl))
  f165:=Tryz.func54.trans (congrArg some (by kernel_rfl))
  f166:=Tryz.func55.trans (congrArg some (by kernel_rfl))
  f169:=Tryz.func56.trans (congrArg some (by kernel_rfl))
  f240:=Tryz.func81.trans (congrArg some (by kernel_rfl))
  f241:=Tryz.func82.trans (congrArg some (by kernel_rfl))
  f276:=Tryz.func115.trans (congrArg some (by kernel_rfl))
  f277:=Tryz.func116.trans (congrArg some (by kernel_rfl))
  t0:=Tryz.underlying0
  a0:=Tryz.isAgg0
  z0:=Tryz.sizeOf0
  v0:=Tryz.zeroValue0
  t3:=Tryz.underlying3
  a3:=Tryz.isAgg3
  z3:=Tryz.sizeOf3
  v3:=Tryz.zeroValue3
  t4:=Tryz.underlying4
  a4:=Tryz.isAgg4
  z4:=Tryz.sizeOf4
  v4:=Tryz.zeroValue4
  t9:=Tryz.underlying9
  a9:=Tryz.isAgg9
  z9:=Tryz.sizeOf9
  v9:=Tryz.zeroValue9
  t20:=Tryz.underlying20
  a20:=Tryz.isAgg20
  z20:=Tryz.sizeOf20
  v20:=Tryz.zeroValue20
  t31:=Tryz.underlying66
  a31:=Tryz.isAgg66
  z31:=Tryz.sizeOf66
  v31:=Tryz.zeroValue66
  t37:=Tryz.underlying72
  a37:=Tryz.isAgg72
  z37:=Tryz.sizeOf72
  v37:=Tryz.zeroValue72
  t70:=Tryz.underlying96
  a70:=Tryz.isAgg96
  z70:=Tryz.sizeOf96
  v70:=Tryz.zeroValue96
  t72:=Tryz.underlying98
  a72:=Tryz.isAgg98
  z72:=Tryz.sizeOf98
  v72:=Tryz.zeroValue98
  t75:=Tryz.underlying100
  a75:=Tryz.isAgg100
  z75:=Tryz.sizeOf100
  v75:=Tryz.zeroValue100
  t76:=Tryz.underlying101
  a76:=Tryz.isAgg101
  z76:=Tryz.sizeOf101
  v76:=Tryz.zeroValue101
  t127:=Tryz.underlying116
  a127:=Tryz.isAgg116
  z127:=Tryz.sizeOf116
  v127:=Tryz.zeroValue116
  t164:=Tryz.underlying128
  a164:=Tryz.isAgg128
  z164:=Tryz.sizeOf128
  v164:=Tryz.zeroValue128 }
theorem Tryz.Builder_Extra_156 : Builder.Extra Tryz.prog Tryz.lays156_ren:={
  sizeBuilder:=by kernel_rfl
  liesBuilder:=by kernel_rfl
  t5:=Tryz.underlying5
  a5:=Tryz.isAgg5
  z5:=Tryz.sizeOf5
  v5:=Tryz.zeroValue5
  infoByte:=by kernel_rfl
  cellsByte:=by kernel_rfl
  sizeByte:=by kernel_rfl
  neB5:=by decide }
open Go.RowKit in
theorem Tryz.strings_Join (bk o c : Nat) (xs : List ByteArray) (sep : ByteArray) (w : World) (hcells : ∀ (j : Nat) x,xs[j]? = some x → w.cell? ⟨bk,o + j,none⟩ = some (.string x)) (hbk : bk < w.heap.size) (hN : xs.length ≤ 140737488355328) (hcap : xs.length ≤ c) (hlen : (Lib.join (xs.map (·.data.toList)) sep.data.toList).length ≤ 140737488355328) :
    Calls Tryz.prog 28 #[.slice (some ⟨bk,o,none⟩) xs.length c,.string sep] w fun e w'=>e = .returned (.string ⟨(Lib.join (xs.map (·.data.toList)) sep.data.toList).toArray⟩) ∧ Below w.heap.size w w':=Any.strings_Join Tryz.lays156 Tryz.Builder_Extra_156 bk o c xs sep w hcells hbk hN hcap hlen
def Tryz.laysM246_ren : Go.Shelf.Ren:=⟨fun | 246=>153 | 283=>160 | 284=>161 | 285=>162 | 286=>163 | 129=>167 | 317=>166 | 318=>168 | 319=>169 | 320=>170 | 337=>172 | 338=>173 | n=>n,fun | 2=>2 | 3=>3 | 9=>9 | 4=>4 | 171=>155 | 0=>0 | 53=>140 | 37=>72 | 5=>5 | 173=>158 | 212=>163 | 51=>164 | 20=>20 | 213=>165 | 46=>147 | 232=>169 | 233=>170 | n=>n,fun | 17=>1 | 18=>2 | 19=>3 | n=>n⟩
def Tryz.laysM243_ren : Go.Shelf.Ren:=⟨fun | 243=>144 | 246=>153 | 283=>160 | 284=>161 | 285=>162 | 286=>163 | 129=>167 | 317=>166 | 318=>168 | 319=>169 | 320=>170 | 337=>172 | 338=>173 | n=>n,fun | 3=>3 | 9=>9 | 2=>2 | 4=>4 | 171=>155 | 0=>0 | 53=>140 | 37=>72 | 5=>5 | 173=>158 | 212=>163 | 51=>164 | 20=>20 | 213=>165 | 46=>147 | 232=>169 | 233=>170 | n=>n,fun | 17=>1 | 18=>2 | 19=>3 | n=>n⟩
def Tryz.laysM171_ren : Go.Shelf.Ren:=⟨fun | 171=>133 | 243=>144 | 246=>153 | 283=>160 | 284=>161 | 285=>162 | 286=>163 | 129=>167 | 317=>166 | 318=>168 | 319=>169 | 320=>170 | 337=>172 | 338=>173 | n=>n,fun | 3=>3 | 9=>9 | 2=>2 | 4=>4 | 171=>155 | 0=>0 | 53=>140 | 37=>72 | 5=>5 | 173=>158 | 212=>163 | 51=>164 | 20=>20 | 213=>165 | 46=>147 | 232=>169 | 233=>170 | n=>n,fun | 17=>1 | 18=>2 | 19=>3 | n=>n⟩
def Tryz.lays171_ren : Go.Shelf.Ren:=⟨fun | 171=>133 | 243=>144 | 246=>153 | 283=>160 | 284=>161 | 285=>162 | 286=>163 | 129=>167 | 317=>166 | 318=>168 | 319=>169 | 320=>170 | 337=>172 | 338=>173 | n=>n,fun | 3=>3 | 9=>9 | 2=>2 | 4=>4 | 171=>155 | 0=>0 | 53=>140 | 37=>72 | 5=>5 | 173=>158 | 212=>163 | 51=>164 | 20=>20 | 213=>165 | 46=>147 | 232=>169 | 233=>170 | n=>n,fun | 17=>1 | 18=>2 | 19=>3 | n=>n⟩
theorem Tryz.lays171 : Go.Proofs.Lays.n171 Tryz.prog Tryz.lays171_ren:={
  mixed:=by kernel_rfl
  f129:=Tryz.func167.trans (congrArg some (by kernel_rfl))
  f171:=Tryz.func133.trans (congrArg some (by kernel_rfl))
  f243:=Tryz.func144.trans (congrArg some (by kernel_rfl))
  f246:=Tryz.func153.trans (congrArg some (by kernel_rfl))
  f283:=Tryz.func160.trans (congrArg some (by kernel_rfl))
  f284:=Tryz.func161.trans (congrArg some (by kernel_rfl))
  f285:=Tryz.func162.trans (congrArg some (by kernel_rfl))
  f286:=Tryz.func163.trans (congrArg some (by kernel_rfl))
  f317:=Tryz.func166.trans (congrArg some (by kernel_rfl))
  f318:=Tryz.func168.trans (congrArg some (by kernel_rfl))
  f319:=Tryz.func169.trans (congrArg some (by kernel_rfl))
  f320:=Tryz.func170.trans (congrArg some (by kernel_rfl))
  f337:=Tryz.func172.trans (congrArg some (by kernel_rfl))
  f338:=Tryz.func173.trans (congrArg some (by kernel_rfl))
  t0:=Tryz.underlying0
  a0:=Tryz.isAgg0
  z0:=Tryz.sizeOf0
  v0:=Tryz.zeroValue0
  t2:=Tryz.underlying2
  a2:=Tryz.isAgg2
  z2:=Tryz.sizeOf2
  v2:=Tryz.zeroValue2
  t3:=Tryz.underlying3
  a3:=Tryz.isAgg3
  z3:=Tryz.sizeOf3
  v3:=Tryz.zeroValue3
  t4:=Tryz.underlying4
  a4:=Tryz.isAgg4
  z4:=Tryz.sizeOf4
  v4:=Tryz.zeroValue4
  t5:=Tryz.underlying5
  a5:=Tryz.isAgg5
  z5:=Tryz.sizeOf5
  v5:=Tryz.zeroValue5
  t9:=Tryz.underlying9
  a9:=Tryz.isAgg9
  z9:=Tryz.sizeOf9
  v9:=Tryz.zeroValue9
  t20:=Tryz.underlying20
  a20:=Tryz.isAgg20
  z20:=Tryz.sizeOf20
  v20:=Tryz.zeroValue20
  t37:=Tryz.underlying72
  a37:=Tryz.isAgg72
  z37:=Tryz.sizeOf72
  v37:=Tryz.zeroValue72
  t46:=Tryz.underlying147
  a46:=Tryz.isAgg147
  z46:=Tryz.sizeOf147
  v46:=Tryz.zeroValue147
  t51:=Tryz.underlying164
  a51:=Tryz.isAgg164
  z51:=Tryz.sizeOf164
  v51:=Tryz.zeroValue164
  t53:=Tryz.underlying140
  a53:=Tryz.isAgg140
  z53:=Tryz.sizeOf140
  v53:=Tryz.zeroValue140
  t171:=Tryz.underlying155
  a171:=Tryz.isAgg155
  z171:=Tryz.sizeOf155
  v171:=Tryz.zeroValue155
  t173:=Tryz.underlying158
  a173:=Tryz.isAgg158
  z173:=Tryz.sizeOf158
  v173:=Tryz.zeroValue158
  t212:=Tryz.underlying163
  a212:=Tryz.isAgg163
  z212:=Tryz.sizeOf163
  v212:=Tryz.zeroValue163
  t213:=Tryz.underlying165
  a213:=Tryz.isAgg165
  z213:=Tryz.sizeOf165
  t232:=Tryz.underlying169
  a232:=Tryz.isAgg169
  z232:=Tryz.sizeOf169
  v232:=Tryz.zeroValue169
  t233:=Tryz.underlying170
  a233:=Tryz.isAgg170
  z233:=Tryz.sizeOf170
  v233:=Tryz.zeroValue170
  g17:=by kernel_rfl
  g18:=by kernel_rfl
  g19:=by kernel_rfl }
open Go.RowKit Go.Sort Go.Lib in
theorem Tryz.strconv_Itoa_small (i : Nat) (hi : i < 100) (w : World) :
    Calls Tryz.prog 133 #[.int .i64 i] w fun e w'=>e = .returned (.string ⟨(Lib.decDigits i).toArray⟩) ∧ w' = w:=Any.strconv_Itoa_small Tryz.lays171 i hi w
end Go.Proofs


namespace Go.Proofs.YtlgkfhipobdcfaaGreatDoor
open Go.RowKit
def fmS (n : Int) : List UInt8:=Lib.decDigits n.toNat
theorem fmt_small : CFmt fmS:=by
  intro n w h0 h1
  obtain ⟨i,rfl⟩ : ∃ i : Nat,n = (i : Int):=⟨n.toNat,by omega⟩
  have C:=Tryz.strconv_Itoa_small i (by omega) w
  go_enter Tryz.func112,Tryz.ntmps112
  go_wp2_with fail
  refine C.mono ?_;rintro e w1 ⟨rfl,hw1⟩
  rw [hw1]
  go_wp2
  go_ret
  exact ⟨rfl,Below.refl _ _⟩
theorem quo_all : CQuo quoQ:=fun t w ht=>quote_any ⟨t.toArray⟩ w (by simp [ByteArray.size];omega)
theorem tell_all : ∀ N,N ≤ 800000 → CT 79 N (tkE fmS quoQ N) ∧ CT 52 N (tkS fmS quoQ N) ∧ CT 27 N (tkB fmS quoQ N)
  | 0,_=>⟨fun _ _ _ _ _ _ _ _ _ _ _ _ _ h=>absurd h (Nat.not_lt_zero _),fun _ _ _ _ _ _ _ _ _ _ _ _ _ h=>absurd h (Nat.not_lt_zero _),fun _ _ _ _ _ _ _ _ _ _ _ _ _ h=>absurd h (Nat.not_lt_zero _)⟩
  | N + 1,hN=>by
    obtain ⟨h1,h2,h3⟩:=tell_all N (by omega)
    refine ⟨?_,?_,?_⟩
    · have:=expr_t (by omega) fmS quoQ fmt_small quo_all (tkE fmS quoQ N) h1
      exact this
    · have e : tkS fmS quoQ (N + 1) = stT (tkE fmS quoQ N) (tkB fmS quoQ N):=by funext k t n ks;rw [tkS]
      rw [e]
      exact stat_t (by omega) _ _ h1 h3
    · have e : tkB fmS quoQ (N + 1) = fun _ _ _ ks=>blkT (tkS fmS quoQ N) ks:=by funext k t n ks;rw [tkB]
      rw [e]
      intro b P L W k t n p a c ks h hr hs hw _ hL
      exact block_t (by omega) _ h2 b P L W k t n p a c ks h hr (by omega) (F.wf_one hw).2.2 hL
end Go.Proofs.YtlgkfhipobdcfaaGreatDoor
