import Derived.Test.YtlgkfhipobdcfaaGreatDoorCg06
import Derived.Test.YtlgkfhipobdcfaaGreatDoorCg44
import Derived.Test.YtlgkfhipobdcfaaGreatDoorCg09
namespace Go.Proofs.YtlgkfhipobdcfaaGreatDoor
open Go.RowKit
set_option maxHeartbeats 2000000 in
theorem names_any (s : ByteArray) (p : Nat) (w : World) (hp : p ≤ s.size) (hs : s.size ≤ 20000) : Calls Tryz.prog 38 #[.string s,.int .i64 p] w fun e w'=>e = .returned (.int .i64 (spn inNm (LD s p))) ∧ Below w.heap.size w w':=by
  go_enter Tryz.func38,Tryz.ntmps38
  go_wp2
  go_loopg [5] (s.size + 1) (fun gf v5 wx=>∃ q : Nat,p ≤ q ∧ q ≤ s.size ∧ v5 = .int .i64 q ∧ Hid (q - p + spn inNm (LD s q) = spn inNm (LD s p)) ∧ Below w.heap.size w wx ∧ s.size < q + gf)
  case atStart=>exact ⟨p,Nat.le_refl _,hp,rfl,by show _ = _;omega,Below.refl _ _,by omega⟩
  case round =>
    obtain ⟨q,hpq,hqs,rfl,hS,hB,hfu⟩:=hrel
    by_cases hlt : q < s.size
    · obtain ⟨g',rfl⟩ : ∃ g',gk = g' + 1:=⟨gk - 1,by omega⟩
      have hwp:=wd_pos s q
      have hwl:=wd_le s q hlt
      have CA:=fun w=>ruat_any s q w hlt (by omega)
      unfold RAt at CA
      have hzB:=hB.size
      cases hf : inNm (rn s q)
      · have HN : Hid (spn inNm (LD s p) = q - p):=by
          show _ = _
          rw [← hS.out,spn_no inNm _ (LD_ne s q hlt) (by rw [← hf,rn_drop];rfl)];omega
        have hl : letB (rn s q) = false:=by unfold inNm at hf;simp at hf;exact hf.1
        have hd : digB (rn s q) = false:=by unfold inNm at hf;simp at hf;exact hf.2
        clear hS hf
        go_wp2_with (first
          | (go_at_call 36;refine (CA _).mono ?_;rintro e w1 ⟨rfl,hb1⟩)
          | (go_at_call 37;refine (rletter_any _ _).mono ?_;rintro e w' ⟨rfl,rfl⟩)
          | (go_at_call 40;refine (rdigit_any _ _).mono ?_;rintro e w' ⟨rfl,rfl⟩))
        go_ret
        exact ⟨ret1 (by rw [HN.out];omega),(hB.trans (hb1.mono hzB)).alloc (by have:=hb1.size;omega) _⟩
      · have HN : Hid (q + wd s q - p + spn inNm (LD s (q + wd s q)) = spn inNm (LD s p)):=by
          show _ = _
          rw [← hS.out,spn_yes inNm (LD s q) (LD_ne s q hlt) (by rw [← hf,rn_drop];rfl),LD_drop]
          have hw : wdL (LD s q) = wd s q:=(wd_drop s q).symm
          rw [hw];omega
        have hor : letB (rn s q) = true ∨ (letB (rn s q) = false ∧ digB (rn s q) = true):=by
          unfold inNm at hf
          cases hl : letB (rn s q)
          · rw [hl] at hf;exact .inr ⟨rfl,by simpa using hf⟩
          · exact .inl rfl
        clear hS hf
        rcases hor with hl | ⟨hl,hd⟩
        all_goals
          go_wp2_with (first
            | (go_at_call 36;refine (CA _).mono ?_;rintro e w1 ⟨rfl,hb1⟩)
            | (go_at_call 37;refine (rletter_any _ _).mono ?_;rintro e w' ⟨rfl,rfl⟩)
            | (go_at_call 40;refine (rdigit_any _ _).mono ?_;rintro e w' ⟨rfl,rfl⟩))
          go_roundg g'
          case measure=>omega
          case rel=>exact ⟨q + wd s q,by omega,hwl,by go_num,HN,(hB.trans (hb1.mono hzB)).alloc (by have:=hb1.size;omega) _,by omega⟩
    · have HN : Hid (spn inNm (LD s p) = q - p):=by
        show _ = _
        rw [← hS.out,LD_nil s q hlt,spn_nil];omega
      clear hS
      go_wp2
      go_ret
      exact ⟨ret1 (by rw [HN.out];omega),hB⟩
theorem rs_two (s : ByteArray) (p : Nat) (h : sgn2.contains (s.extract p (p + 2)).toList = true) : s.extract p (p + 2) = ⟨((LD s p).take (sgz (LD s p))).toArray⟩:=by
  rw [ByteArray.toList_eq,ext_LD] at h
  have : sgz (LD s p) = 2:=by unfold sgz;rw [if_pos h]
  rw [this]
  apply ByteArray.ext
  apply Array.toList_inj.1
  rw [ext_LD]
theorem LD_head (s : ByteArray) (p : Nat) (h : p < s.size) : (LD s p).headD 0 = s[p]:=by
  have hl : p < s.data.toList.length:=by rw [Array.length_toList];exact h
  unfold LD
  rw [List.drop_eq_getElem_cons hl]
  rfl
theorem rs_one (s : ByteArray) (p : Nat) (hp : p < s.size) (h : sgn2.contains ((LD s p).take 2) = false) (h1 : sgn1.contains s[p] = true) : s.extract p (p + 1) = ⟨((LD s p).take (sgz (LD s p))).toArray⟩:=by
  have : sgz (LD s p) = 1:=by unfold sgz;rw [h,LD_head s p hp,if_neg (by simp),if_pos h1]
  rw [this]
  apply ByteArray.ext
  apply Array.toList_inj.1
  rw [ext_LD]
theorem rs_none (s : ByteArray) (p : Nat) (hp : p < s.size) (h : sgn2.contains ((LD s p).take 2) = false) (h1 : sgn1.contains s[p] = false) : (⟨#[]⟩ : ByteArray) = ⟨((LD s p).take (sgz (LD s p))).toArray⟩:=by
  have : sgz (LD s p) = 0:=by unfold sgz;rw [h,LD_head s p hp,h1];rfl
  rw [this];rfl
theorem sgn2_sh (s : ByteArray) (p : Nat) (h : ¬ p + 1 < s.size) : sgn2.contains ((LD s p).take 2) = false:=by
  cases hc : sgn2.contains ((LD s p).take 2)
  · rfl
  · have : (LD s p).take 2 ∈ sgn2:=by simpa using hc
    have h2 : ((LD s p).take 2).length = 2:=by
      simp only [sgn2,List.mem_cons,List.not_mem_nil,or_false] at this
      rcases this with e | e | e | e | e | e <;> rw [e] <;> rfl
    rw [List.length_take,LD_len] at h2
    omega
theorem ret_s {a b : ByteArray} (h : a = b) : Ending.returned (.string a) = .returned (.string b):=by rw [h]
theorem b_eq (c : UInt8) (n : Nat) (h : n < 256) : ((c.toNat : Int) == (n : Int)) = (c == UInt8.ofNat n):=by
  rw [Bool.eq_iff_iff,beq_iff_eq,beq_iff_eq,← toN c n h];omega
theorem sgn1_key (c : UInt8) : sgn1.contains c = ((c.toNat : Int) == 43 || ((c.toNat : Int) == 45 || ((c.toNat : Int) == 42 || ((c.toNat : Int) == 37 || ((c.toNat : Int) == 60 || ((c.toNat : Int) == 62 || ((c.toNat : Int) == 61 || ((c.toNat : Int) == 35 || ((c.toNat : Int) == 40 || ((c.toNat : Int) == 41 || ((c.toNat : Int) == 123 || ((c.toNat : Int) == 125 || ((c.toNat : Int) == 91 || ((c.toNat : Int) == 93 || ((c.toNat : Int) == 59 || ((c.toNat : Int) == 44 || ((c.toNat : Int) == 46))))))))))))))))):=by
  have b43 : ((c.toNat : Int) == 43) = (c == 43):=b_eq c 43 (by omega)
  have b45 : ((c.toNat : Int) == 45) = (c == 45):=b_eq c 45 (by omega)
  have b42 : ((c.toNat : Int) == 42) = (c == 42):=b_eq c 42 (by omega)
  have b37 : ((c.toNat : Int) == 37) = (c == 37):=b_eq c 37 (by omega)
  have b60 : ((c.toNat : Int) == 60) = (c == 60):=b_eq c 60 (by omega)
  have b62 : ((c.toNat : Int) == 62) = (c == 62):=b_eq c 62 (by omega)
  have b61 : ((c.toNat : Int) == 61) = (c == 61):=b_eq c 61 (by omega)
  have b35 : ((c.toNat : Int) == 35) = (c == 35):=b_eq c 35 (by omega)
  have b40 : ((c.toNat : Int) == 40) = (c == 40):=b_eq c 40 (by omega)
  have b41 : ((c.toNat : Int) == 41) = (c == 41):=b_eq c 41 (by omega)
  have b123 : ((c.toNat : Int) == 123) = (c == 123):=b_eq c 123 (by omega)
  have b125 : ((c.toNat : Int) == 125) = (c == 125):=b_eq c 125 (by omega)
  have b91 : ((c.toNat : Int) == 91) = (c == 91):=b_eq c 91 (by omega)
  have b93 : ((c.toNat : Int) == 93) = (c == 93):=b_eq c 93 (by omega)
  have b59 : ((c.toNat : Int) == 59) = (c == 59):=b_eq c 59 (by omega)
  have b44 : ((c.toNat : Int) == 44) = (c == 44):=b_eq c 44 (by omega)
  have b46 : ((c.toNat : Int) == 46) = (c == 46):=b_eq c 46 (by omega)
  simp only [sgn1,List.contains_cons,List.contains_nil,Bool.or_false,b43,b45,b42,b37,b60,b62,b61,b35,b40,b41,b123,b125,b91,b93,b59,b44,b46]
theorem rs2f (s : ByteArray) (p : Nat) (h : sgn2.contains (s.extract p (p + 2)).toList = false) : sgn2.contains ((LD s p).take 2) = false:=by
  rw [ByteArray.toList_eq,ext_LD] at h;exact h
set_option maxHeartbeats 4000000 in
theorem rsign_any (s : ByteArray) (p : Nat) (w : World) (hp : p < s.size) (hs : s.size ≤ 20000) : Calls Tryz.prog 43 #[.string s,.int .i64 p] w fun e w'=>e = .returned (.string ⟨((LD s p).take (sgz (LD s p))).toArray⟩) ∧ w' = w:=by
  have kp:=sgn1_key s[p]
  have KP : Hid (sgn1.contains s[p] = _):=kp
  clear kp
  by_cases h2 : p + 1 < s.size
  · go_enter Tryz.func43,Tryz.ntmps43
    go_wp2
    all_goals (go_ret;refine ⟨ret_s ?_,rfl⟩)
    all_goals first
      | (exfalso;exact Bool.false_ne_true ((Eq.symm (by assumption : ((s.extract p (p + 2)).toList == _) = false)).trans (by assumption)))
      | (exact rs_two s p (by simp only [sgn2,List.contains_cons,List.contains_nil,Bool.or_false];simp [*];done))
      | (exact rs_one s p hp (rs2f s p (by simp only [sgn2,List.contains_cons,List.contains_nil,Bool.or_false];simp [*];done)) (by rw [KP.out];simp [*];done))
      | (exact rs_none s p hp (rs2f s p (by simp only [sgn2,List.contains_cons,List.contains_nil,Bool.or_false];simp [*];done)) (by rw [KP.out];simp [*];done))
      | (exfalso;simp_all;done)
  · have H2 : Hid _:=sgn2_sh s p h2
    go_enter Tryz.func43,Tryz.ntmps43
    go_wp2
    all_goals (go_ret;refine ⟨ret_s ?_,rfl⟩)
    all_goals first
      | (exact rs_one s p hp H2.out (by rw [KP.out];simp [*];done))
      | (exact rs_none s p hp H2.out (by rw [KP.out];simp [*];done))
      | (exfalso;simp_all;done)
theorem hxs_stop (m k : Nat) (l : List UInt8) (hk : k ≤ m) (hl : k ≤ l.length) (ha : W.allHex (l.take k) = true) (hs : k = m ∨ k = l.length ∨ ∃ c,l[k]? = some c ∧ W.dgB c.toNat = false) : hxs m l = l.take k:=by
  have hall : ∀ x ∈ l.take k,W.dgB x.toNat = true:=fun x hx=>List.all_eq_true.1 ha x hx
  unfold hxs
  have hsp : l.take m = l.take k ++ (l.take m).drop k:=by
    have:=List.take_append_drop k (l.take m)
    rw [List.take_take,Nat.min_eq_left hk] at this
    exact this.symm
  rw [hsp,List.takeWhile_append_of_pos hall]
  suffices h : ((l.take m).drop k).takeWhile (fun c=>W.dgB c.toNat) = [] by rw [h,List.append_nil]
  rcases hs with h | h | ⟨c,h1,h2⟩
  · subst h
    rw [List.drop_of_length_le (by rw [List.length_take];omega)];rfl
  · rw [List.drop_of_length_le (by rw [List.length_take];omega)];rfl
  · have hkl : k < l.length:=by
      rcases Nat.lt_or_ge k l.length with h | h
      · exact h
      · rw [List.getElem?_eq_none h] at h1;cases h1
    have hc : l[k] = c:=by rw [List.getElem?_eq_getElem hkl] at h1;exact Option.some.inj h1
    by_cases hkm : k < m
    · rw [List.drop_eq_getElem_cons (by rw [List.length_take];omega),List.getElem_take,hc]
      simp [h2]
    · rw [List.drop_of_length_le (by rw [List.length_take];omega)];rfl
end Go.Proofs.YtlgkfhipobdcfaaGreatDoor
