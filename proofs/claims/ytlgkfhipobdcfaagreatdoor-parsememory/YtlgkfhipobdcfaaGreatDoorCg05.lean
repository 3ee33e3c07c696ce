import Derived.Test.YtlgkfhipobdcfaaGreatDoorCg02
namespace Go.Proofs.YtlgkfhipobdcfaaGreatDoor.W
open Go.RowKit
def wHex (c : Int) : Int:=if dgB c = true then dgV c else -1
def wDec (c : Int) : Int:=if 48 ≤ c ∧ c ≤ 57 then c - 48 else -1
theorem ret1 {a b : Int} (h : a = b) : Ending.returned (.int .i64 a) = .returned (.int .i64 b):=by rw [h]
set_option maxHeartbeats 400000 in
theorem worth_hex (c : Int) (w : World) (h0 : 0 ≤ c) (h1 : c ≤ 255) : Calls Tryz.prog 106 #[.int .u8 c,.bool true] w fun e w'=>e = .returned (.int .i64 (wHex c)) ∧ w' = w:=by
  go_enter Tryz.func106,Tryz.ntmps106
  go_wp2
  all_goals (go_ret;refine ⟨ret1 ?_,rfl⟩;simp [wHex,dgB,dgV];(repeat' split) <;> omega)
set_option maxHeartbeats 400000 in
theorem worth_dec (c : Int) (w : World) (h0 : 0 ≤ c) (h1 : c ≤ 255) : Calls Tryz.prog 106 #[.int .u8 c,.bool false] w fun e w'=>e = .returned (.int .i64 (wDec c)) ∧ w' = w:=by
  go_enter Tryz.func106,Tryz.ntmps106
  go_wp2
  all_goals (go_ret;refine ⟨ret1 ?_,rfl⟩;unfold wDec;split <;> omega)
def rhv (l : List UInt8) : Int:=l.foldl (fun m c=>wrap64 (wrap64 (m * 16) + wHex c.toNat)) 0
theorem rhv_snoc (l : List UInt8) (c : UInt8) : rhv (l ++ [c]) = wrap64 (wrap64 (rhv l * 16) + wHex c.toNat):=by simp [rhv]
theorem rhv_acc (l : List UInt8) : ∀ m m',m = wrap64 m' → allHex l = true → l.foldl (fun m c=>wrap64 (wrap64 (m * 16) + wHex c.toNat)) m = wrap64 (l.foldl (fun m c=>(m * 16 + dgV c.toNat) % 18446744073709551616) m'):=by
  induction l with
  | nil=>intro m m' h _;exact h
  | cons c l ih =>
    intro m m' h hl
    have hl' : dgB c.toNat = true ∧ allHex l = true:=by simpa [allHex] using hl
    simp only [List.foldl_cons]
    refine ih _ _ ?_ hl'.2
    have : wHex c.toNat = dgV c.toNat:=by unfold wHex;rw [if_pos hl'.1]
    rw [this,h]
    unfold wrap64
    omega
theorem rhv_hv (l : List UInt8) (h : allHex l = true) : rhv l = wrap64 (hv l):=rhv_acc l 0 0 (by unfold wrap64;omega) h
theorem ne_list {x : ByteArray} (h : ¬ x.size = 0) : x.data.toList.isEmpty = false:=by
  cases hl : x.data.toList with
  | nil =>
    exfalso;apply h
    have:=congrArg List.length hl
    simpa using this
  | cons a l=>rfl
theorem nil_list {x : ByteArray} (h : x.size = 0) : x.data.toList.isEmpty = true:=by
  have : x.data.toList.length = 0:=by simpa using h
  rw [List.isEmpty_iff]
  exact List.eq_nil_of_length_eq_zero this
def rhN (l : List UInt8) (neg : Bool) : Int:=if neg then wrap64 (-(wrap64 (hexN l))) else wrap64 (hexN l)
set_option maxHeartbeats 4000000 in
theorem rread_hex (s : ByteArray) (neg : Bool) (w : World) (hs : s.size ≤ maxLen) (h2 : 2 ≤ s.size) (h0 : ((s[0].toNat : Int) == 48) = true)
    (h1 : ((s[1].toNat : Int) == 120) = true ∨ (((s[1].toNat : Int) == 120) = false ∧ ((s[1].toNat : Int) == 88) = true)) (x : ByteArray) (hx : s.extract 2 s.size = x) (hz : x.size ≤ 9223372036854775807) :
    Calls Tryz.prog 70 #[.string s,.bool neg] w fun e w'=>e = .returned (.tuple #[.int .i64 (rhN x.data.toList neg),.int .i64 (hexE x.data.toList)]) ∧ w' = w:=by
  unfold maxLen at hs
  by_cases hne : x.size = 0
  · have hne' : ((x.size : Int) == 0) = true:=by simpa using hne
    have e1 : rhN x.data.toList neg = 0:=by
      have : hexN x.data.toList = 0:=by simp [hexN,nil_list hne]
      unfold rhN;rw [this];cases neg <;> (simp;try (unfold wrap64;omega))
    have e2 : hexE x.data.toList = 4:=by simp [hexE,nil_list hne]
    rw [e1,e2]
    clear e1 e2
    rcases h1 with h1 | ⟨h1,h1'⟩
    all_goals
      go_enter Tryz.func70,Tryz.ntmps70
      go_wp2
      go_ret2
      exact ⟨rfl,rfl⟩
  · have hne' : ((x.size : Int) == 0) = false:=by simpa using hne
    have HNE : Hid _:=ne_list hne
    rcases h1 with h1 | ⟨h1,h1'⟩
    all_goals
      go_enter Tryz.func70,Tryz.ntmps70
      go_wp2
      go_loop [7] (fun i=>∃ k : Nat,k ≤ x.size ∧ i = .int .i64 k ∧ Hid (allHex (x.data.toList.take k) = true)) (fun i=>x.size - (intOf i).toNat)
      case atStart=>exact ⟨0,Nat.zero_le _,rfl,by simp [allHex,Hid]⟩
      case round =>
        obtain ⟨k,hk,rfl,hA⟩:=hrel
        by_cases hlt : k < x.size
        · cases hd : dgB x[k].toNat
          · have hw1 : wHex x[k].toNat < 0:=by unfold wHex;rw [hd];simp
            have HX : Hid (allHex x.data.toList = false):=not_all hlt hd
            clear hd
            go_wp2_with (go_at_call 106;refine (worth_hex _ _ (by omega) (by have:=x[k].toNat_lt;omega)).mono ?_;rintro e w' ⟨rfl,rfl⟩)
            go_ret2
            refine ⟨ret2 ?_ (by simp [hexE,HX.out]),rfl⟩
            have : hexN x.data.toList = 0:=by simp [hexN,HX.out]
            unfold rhN;rw [this];cases neg <;> (simp;try (unfold wrap64;omega))
          · have hw1 : ¬ wHex x[k].toNat < 0:=by unfold wHex;rw [hd];have:=dgV_bound x[k].toNat;simp;omega
            have HA : Hid (allHex (x.data.toList.take (k + 1)) = true):=by
              show _ = _
              rw [take_snoc x k hlt,allHex_snoc,hA.out,hd];rfl
            clear hd hA
            go_wp2_with (go_at_call 106;refine (worth_hex _ _ (by omega) (by have:=x[k].toNat_lt;omega)).mono ?_;rintro e w' ⟨rfl,rfl⟩)
            go_round
            case rel=>exact ⟨k + 1,by omega,by go_num,HA⟩
            case measure=>simp [intOf];omega
        · rw [take_all x k hlt] at hA
          go_wp2
          go_loop [8,9] (fun n i=>∃ k : Nat,k ≤ x.size ∧ i = .int .i64 k ∧ ∃ m : Int,n = .int .i64 m ∧ Hid (m = rhv (x.data.toList.take k))) (fun _ i=>x.size - (intOf i).toNat)
          case atStart=>exact ⟨0,Nat.zero_le _,rfl,0,rfl,by simp [rhv,Hid]⟩
          case round =>
            obtain ⟨j,hj,rfl,m,rfl,hM⟩:=hrel
            by_cases hlt2 : j < x.size
            · have HM : Hid (rhv (x.data.toList.take (j + 1)) = wrap64 (wrap64 (m * 16) + wHex x[j].toNat)):=by
                show _ = _
                rw [take_snoc x j hlt2,rhv_snoc,← hM.out]
              go_wp2_with (go_at_call 106;refine (worth_hex _ _ (by omega) (by have:=x[j].toNat_lt;omega)).mono ?_;rintro e w' ⟨rfl,rfl⟩)
              go_round
              case rel=>exact ⟨j + 1,by omega,by go_num,_,rfl,HM.out.symm⟩
              case measure=>simp [intOf];omega
            · rw [take_all x j hlt2,rhv_hv _ hA.out] at hM
              have E : Hid (hexN x.data.toList = hv x.data.toList ∧ hexE x.data.toList = 0):=by
                show _ ∧ _
                simp [hexN,hexE,hA.out,HNE.out]
              cases neg
              all_goals
                go_wp2
                go_ret2
                exact ⟨ret2 (by unfold rhN;rw [E.out.1,hM.out];rfl) (by rw [E.out.2]),rfl⟩
theorem dv_mono (a b : List UInt8) : dv a ≤ dv (a ++ b):=by
  unfold dv
  rw [List.foldl_append]
  generalize a.foldl (fun m c=>m * 10 + (dgV (c : UInt8).toNat).toNat) 0 = m
  induction b generalizing m with
  | nil=>exact Nat.le_refl _
  | cons c b ih =>
    simp only [List.foldl_cons]
    exact Nat.le_trans (by omega) (ih _)
theorem dv_take (l : List UInt8) (k : Nat) : dv (l.take k) ≤ dv l:=by
  have:=dv_mono (l.take k) (l.drop k)
  rwa [List.take_append_drop] at this
theorem td10 (d m : Int) (h0 : 0 ≤ d) (h1 : d ≤ 9) : m < (-9223372036854775808 + d).tdiv 10 ↔ m * 10 - d < -9223372036854775808:=by
  have e : -9223372036854775808 + d = -(9223372036854775808 - d):=by omega
  rw [e,Int.neg_tdiv,Int.tdiv_eq_ediv_of_nonneg (by omega)]
  omega
def rdN (l : List UInt8) (neg : Bool) : Int:=if neg then wrap64 (-(wrap64 (decN l 9223372036854775808))) else wrap64 (decN l 9223372036854775807)
def rdE (l : List UInt8) (neg : Bool) : Int:=if neg then decE l 9223372036854775808 else decE l 9223372036854775807
theorem rd_bad (l : List UInt8) (neg : Bool) (h : l.isEmpty = true ∨ allDec l = false) : rdN l neg = 0 ∧ rdE l neg = 4:=by
  have e : ∀ most,decN l most = 0 ∧ decE l most = 4:=fun most=>by rcases h with h | h <;> simp [decN,decE,h]
  unfold rdN rdE
  rw [(e _).1,(e _).1,(e _).2,(e _).2]
  cases neg <;> (simp;try (unfold wrap64;omega))
theorem rd_big (l : List UInt8) (neg : Bool) (h : allDec l = true) (hn : l.isEmpty = false) (hb : 9223372036854775808 < dv l) : rdN l neg = 0 ∧ rdE l neg = 14:=by
  have e : ∀ most : Int,most ≤ 9223372036854775808 → decN l most = 0 ∧ decE l most = 14:=fun most hm=>by
    simp only [decN,decE,h,hn,Bool.not_true,Bool.or_self,Bool.false_eq_true,if_false]
    rw [if_pos (by omega),if_pos (by omega)];exact ⟨rfl,rfl⟩
  unfold rdN rdE
  rw [(e _ (by omega)).1,(e _ (by omega)).1,(e _ (by omega)).2,(e _ (by omega)).2]
  cases neg <;> (simp;try (unfold wrap64;omega))
theorem rd_neg (l : List UInt8) (h : allDec l = true) (hn : l.isEmpty = false) (hb : dv l ≤ 9223372036854775808) : rdN l true = -(dv l : Int) ∧ rdE l true = 0:=by
  simp only [rdN,rdE,decN,decE,h,hn,Bool.not_true,Bool.or_self,Bool.false_eq_true,if_false,if_true]
  rw [if_neg (by omega),if_neg (by omega)]
  exact ⟨by unfold wrap64;omega,rfl⟩
theorem rd_pos (l : List UInt8) (h : allDec l = true) (hn : l.isEmpty = false) (hb : dv l < 9223372036854775808) : rdN l false = (dv l : Int) ∧ rdE l false = 0:=by
  simp only [rdN,rdE,decN,decE,h,hn,Bool.not_true,Bool.or_self,Bool.false_eq_true,if_false]
  rw [if_neg (by omega),if_neg (by omega)]
  exact ⟨by unfold wrap64;omega,rfl⟩
theorem rd_edge (l : List UInt8) (h : allDec l = true) (hn : l.isEmpty = false) (hb : dv l = 9223372036854775808) : rdN l false = 0 ∧ rdE l false = 14:=by
  simp only [rdN,rdE,decN,decE,h,hn,Bool.not_true,Bool.or_self,Bool.false_eq_true,if_false]
  rw [if_pos (by omega),if_pos (by omega)]
  exact ⟨by unfold wrap64;omega,rfl⟩
def PlainHead (s : ByteArray) : Prop :=
  (¬ 2 ≤ s.size) ∨ (∃ h : 2 ≤ s.size,(((s[0]'(by omega)).toNat : Int) == 48) = false) ∨ (∃ h : 2 ≤ s.size,(((s[0]'(by omega)).toNat : Int) == 48) = true ∧ (((s[1]'(by omega)).toNat : Int) == 120) = false ∧ (((s[1]'(by omega)).toNat : Int) == 88) = false)
set_option maxHeartbeats 4000000 in
theorem rread_dec (s : ByteArray) (neg : Bool) (w : World) (hs : s.size ≤ maxLen) (hp : PlainHead s) :
    Calls Tryz.prog 70 #[.string s,.bool neg] w fun e w'=>e = .returned (.tuple #[.int .i64 (rdN s.data.toList neg),.int .i64 (rdE s.data.toList neg)]) ∧ w' = w:=by
  unfold maxLen at hs
  by_cases hne : s.size = 0
  · have hne' : ((s.size : Int) == 0) = true:=by simpa using hne
    obtain ⟨e1,e2⟩:=rd_bad s.data.toList neg (.inl (nil_list hne))
    rw [e1,e2]
    clear e1 e2 hp
    go_enter Tryz.func70,Tryz.ntmps70
    go_wp2
    go_ret2
    exact ⟨rfl,rfl⟩
  · have hne' : ((s.size : Int) == 0) = false:=by simpa using hne
    have HNE : Hid _:=ne_list hne
    rcases hp with h2 | ⟨h2,h0⟩ | ⟨h2,h0,h1,h1'⟩
    all_goals
      go_enter Tryz.func70,Tryz.ntmps70
      go_wp2
      go_loop [7] (fun i=>∃ k : Nat,k ≤ s.size ∧ i = .int .i64 k ∧ Hid (allDec (s.data.toList.take k) = true)) (fun i=>s.size - (intOf i).toNat)
      case atStart=>exact ⟨0,Nat.zero_le _,rfl,by simp [allDec,Hid]⟩
      case round =>
        obtain ⟨k,hk,rfl,hA⟩:=hrel
        by_cases hlt : k < s.size
        · by_cases hd : 48 ≤ (s[k].toNat : Int) ∧ (s[k].toNat : Int) ≤ 57
          · have hw1 : ¬ wDec s[k].toNat < 0:=by unfold wDec;rw [if_pos hd];omega
            have HA : Hid (allDec (s.data.toList.take (k + 1)) = true):=by
              show _ = _
              rw [take_snoc s k hlt,allDec_snoc,hA.out,decide_eq_true hd];rfl
            clear hd hA
            go_wp2_with (go_at_call 106;refine (worth_dec _ _ (by omega) (by have:=s[k].toNat_lt;omega)).mono ?_;rintro e w' ⟨rfl,rfl⟩)
            go_round
            case rel=>exact ⟨k + 1,by omega,by go_num,HA⟩
            case measure=>simp [intOf];omega
          · have hw1 : wDec s[k].toNat < 0:=by unfold wDec;rw [if_neg hd];omega
            have HX : Hid (allDec s.data.toList = false):=not_all hlt (decide_eq_false hd)
            clear hd
            go_wp2_with (go_at_call 106;refine (worth_dec _ _ (by omega) (by have:=s[k].toNat_lt;omega)).mono ?_;rintro e w' ⟨rfl,rfl⟩)
            go_ret2
            obtain ⟨e1,e2⟩:=rd_bad s.data.toList neg (.inr HX.out)
            exact ⟨ret2 e1.symm e2.symm,rfl⟩
        · rw [take_all s k hlt] at hA
          go_wp2
          go_loop [10,11] (fun n i=>∃ k : Nat,k ≤ s.size ∧ i = .int .i64 k ∧ ∃ m : Int,n = .int .i64 m ∧ Hid (m = -(dv (s.data.toList.take k) : Int)) ∧ m ≤ 0 ∧ -9223372036854775808 ≤ m) (fun _ i=>s.size - (intOf i).toNat)
          case atStart=>exact ⟨0,Nat.zero_le _,rfl,0,rfl,by simp [dv,Hid],by omega,by omega⟩
          case round =>
            obtain ⟨j,hj,rfl,m,rfl,hM,hm0,hm1⟩:=hrel
            by_cases hlt2 : j < s.size
            · have hdj : 48 ≤ (s[j].toNat : Int) ∧ (s[j].toNat : Int) ≤ 57:=by
                have:=hA.out
                unfold allDec at this
                have:=List.all_eq_true.1 this _ (mem_at s j hlt2)
                simpa using this
              obtain ⟨d,hd⟩ : ∃ d,wDec s[j].toNat = d:=⟨_,rfl⟩
              have hdv : d = (s[j].toNat : Int) - 48:=by rw [← hd];unfold wDec;rw [if_pos hdj]
              have hd0 : 0 ≤ d:=by omega
              have hd9 : d ≤ 9:=by omega
              have HM : Hid ((dv (s.data.toList.take (j + 1)) : Int) = -(m * 10 - d)):=by
                show _ = _
                rw [take_snoc s j hlt2,dv_snoc,(dec_val _ hdj).2]
                have:=hM.out
                omega
              have HT : Hid _:=td10 d m hd0 hd9
              clear hdj hdv
              go_wp2_with (go_at_call 106;refine (worth_dec _ _ (by omega) (by have:=s[j].toNat_lt;omega)).mono ?_;rintro e w' ⟨rfl,rfl⟩)
              · go_ret2
                have hT : m < (-9223372036854775808 + d).tdiv 10:=by assumption
                have hb:=HT.out.1 hT
                have h3:=dv_take s.data.toList (j + 1)
                have h4:=HM.out
                obtain ⟨e1,e2⟩:=rd_big s.data.toList neg hA.out HNE.out (by omega)
                exact ⟨ret2 e1.symm e2.symm,rfl⟩
              · have hT : (-9223372036854775808 + d).tdiv 10 ≤ m:=by assumption
                have hb : ¬ (m * 10 - d < -9223372036854775808):=fun h=>by have:=HT.out.2 h;omega
                have E : wrap64 (wrap64 (m * 10) - d) = m * 10 - d:=by unfold wrap64;omega
                have h4:=HM.out
                go_round
                case rel=>exact ⟨j + 1,by omega,by go_num,_,rfl,by (show _ = _;rw [E];omega),by rw [E];omega,by rw [E];omega⟩
                case measure=>simp [intOf];omega
            · rw [take_all s j hlt2] at hM
              cases neg
              · go_wp2
                · go_ret2
                  have hT : (m == -9223372036854775808) = true:=by assumption
                  rw [beq_iff_eq] at hT
                  have h4:=hM.out
                  obtain ⟨e1,e2⟩:=rd_edge s.data.toList hA.out HNE.out (by omega)
                  exact ⟨ret2 e1.symm e2.symm,rfl⟩
                · go_ret2
                  have hT : (m == -9223372036854775808) = false:=by assumption
                  rw [beq_eq_false_iff_ne] at hT
                  have h4:=hM.out
                  obtain ⟨e1,e2⟩:=rd_pos s.data.toList hA.out HNE.out (by omega)
                  refine ⟨ret2 ?_ e2.symm,rfl⟩
                  rw [e1]
                  first | omega | (unfold wrap64;omega)
              · go_wp2
                go_ret2
                have h4:=hM.out
                obtain ⟨e1,e2⟩:=rd_neg s.data.toList hA.out HNE.out (by omega)
                refine ⟨ret2 ?_ e2.symm,rfl⟩
                rw [e1]
                first | omega | (unfold wrap64;omega)
theorem head_cases (s : ByteArray) : (hexP s.data.toList = true ∧ ∃ h : 2 ≤ s.size,(((s[0]'(by omega)).toNat : Int) == 48) = true ∧ ((((s[1]'(by omega)).toNat : Int) == 120) = true ∨ ((((s[1]'(by omega)).toNat : Int) == 120) = false ∧ (((s[1]'(by omega)).toNat : Int) == 88) = true)))
    ∨ (hexP s.data.toList = false ∧ PlainHead s):=by
  have hx:=hexP_iff s
  cases hp : hexP s.data.toList
  · right
    refine ⟨rfl,?_⟩
    by_cases h2 : 2 ≤ s.size
    · by_cases h0 : s[0].toNat = 48
      · right;right
        refine ⟨h2,by simp;omega,?_,?_⟩
        · have : ¬ s[1].toNat = 120:=fun h=>by rw [hx.2 ⟨h2,h0,.inl h⟩] at hp;cases hp
          simp;omega
        · have : ¬ s[1].toNat = 88:=fun h=>by rw [hx.2 ⟨h2,h0,.inr h⟩] at hp;cases hp
          simp;omega
      · right;left
        exact ⟨h2,by simp;omega⟩
    · exact .inl h2
  · left
    obtain ⟨h2,h0,h1⟩:=hx.1 hp
    refine ⟨rfl,h2,by simp;omega,?_⟩
    rcases h1 with h1 | h1
    · left;simp;omega
    · right;exact ⟨by simp;omega,by simp;omega⟩
theorem rread_any (s : ByteArray) (neg : Bool) (w : World) (hs : s.size ≤ maxLen) :
    Calls Tryz.prog 70 #[.string s,.bool neg] w fun e w'=>e = .returned (.tuple #[.int .i64 (if neg then negN s.data.toList else parN s.data.toList),.int .i64 (if neg then numE s.data.toList 9223372036854775808 else parE s.data.toList)]) ∧ w' = w:=by
  have hs':=hs
  unfold maxLen at hs'
  rcases head_cases s with ⟨hp,h2,h0,h1⟩ | ⟨hp,hh⟩
  · have hz : (s.extract 2 s.size).size ≤ 9223372036854775807:=by rw [ByteArray.size_extract];omega
    have:=rread_hex s neg w hs h2 h0 h1 _ rfl hz
    rw [Lib.extract_to_end] at this
    cases neg <;> simpa [rhN,negN,parN,parE,numN,numE,hp] using this
  · have:=rread_dec s neg w hs hh
    cases neg <;> simpa [rdN,rdE,negN,parN,parE,numN,numE,hp] using this
set_option maxHeartbeats 400000 in
theorem rparse_any (s : ByteArray) (w : World) (hs : s.size ≤ maxLen) :
    Calls Tryz.prog 41 #[.string s] w fun e w'=>e = .returned (.tuple #[.int .i64 (parN s.data.toList),.int .i64 (parE s.data.toList)]) ∧ w' = w:=by
  have C:=rread_any s false w hs
  simp only [Bool.false_eq_true,if_false] at C
  go_enter Tryz.func41,Tryz.ntmps41
  go_wp2_with (go_at_call 70;refine C.mono ?_;rintro e w' ⟨rfl,rfl⟩)
  go_ret2
  exact ⟨rfl,rfl⟩
end Go.Proofs.YtlgkfhipobdcfaaGreatDoor.W
