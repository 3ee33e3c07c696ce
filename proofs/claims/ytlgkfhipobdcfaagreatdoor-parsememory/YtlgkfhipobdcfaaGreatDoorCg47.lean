import Derived.Test.YtlgkfhipobdcfaaGreatDoorCg46
namespace Go.Proofs.YtlgkfhipobdcfaaGreatDoor
open Go.RowKit
set_option maxRecDepth 20000 in
theorem conv_str (x : ByteArray) (W : World) : (convert 9 72 (.string x)).run Tryz.prog W = .ok (.slice (some ⟨W.heap.size,0,none⟩) x.size (grownCap W x.size 0 5)) (Lib.bytesWorld W 5 x):=Lib.run_convert_string_bytes W 9 72 5 x Tryz.underlying9 Tryz.underlying72 Tryz.underlying5
theorem bytes_below (W : World) (x : ByteArray) : Below W.heap.size W (Lib.bytesWorld W 5 x) :=
  ⟨rfl,rfl,rfl,by rw [Lib.bytesWorld_size];omega,fun k hk=>Lib.bytesWorld_at_old W 5 x k hk⟩
theorem re_str (x : ByteArray) (n : Nat) (hn : n ≠ 0) (w w1 : World) (hb : Below w.heap.size w w1) (m : Int) (hm : m = ((n + 1 : Nat) : Int)) : RE (x.data.toList,n) w (.returned (.tuple #[.slice (some ⟨w1.heap.size,0,none⟩) x.size (grownCap w1 x.size 0 5),.int .i64 m])) (Lib.bytesWorld w1 5 x):=by
  subst hm
  have hl : x.data.toList.length = x.size:=Array.length_toList
  refine ⟨hb.trans ((bytes_below w1 x).mono hb.size),fun h=>absurd h hn,fun _=>⟨w1.heap.size,_,by rw [hl],fun j u hj=>?_⟩⟩
  have hj2 : j < x.size:=by
    rcases Nat.lt_or_ge j (Lib.byteCells x.data.toList).length with h | h
    · rw [Lib.byteCells_length,hl] at h;exact h
    · rw [List.getElem?_eq_none h] at hj;cases hj
  rw [Lib.bytesWorld_cell w1 5 x j hj2]
  simp only [Lib.byteCells,List.getElem?_map,List.getElem?_eq_getElem (show j < x.data.toList.length by rw [hl];exact hj2),Option.map_some] at hj
  rw [← hj]
  congr 2
  rw [List.getD_eq_getElem?_getD,List.getElem?_eq_getElem (show j < x.data.toList.length by rw [hl];exact hj2)]
  rfl
theorem head_no (s : ByteArray) (q : Nat) (h : ¬ q < s.size) : (LD s q).headD 0 = 0:=by rw [LD_nil s q h];rfl
set_option maxRecDepth 20000 in
set_option maxHeartbeats 4000000 in
theorem resc_u (s : ByteArray) (p : Nat) (w : World) (hp : p + 1 < s.size) (hs : s.size ≤ 20000) (hn : s[p + 1].toNat = 117) : Calls Tryz.prog 71 #[.string s,.int .i64 p] w fun e W'=>RE (escU (LD s (p + 2))) w e W':=by
  unfold escU
  by_cases h2 : p + 2 < s.size
  · obtain ⟨m,hm⟩ : ∃ m,s[p + 2].toNat = m:=⟨_,rfl⟩
    by_cases h3 : m = 123
    · subst h3
      have hh : (LD s (p + 2)).headD 0 = 123:=by rw [LD_head s _ h2];exact UInt8.toNat_inj.1 hm
      have CH:=fun w=>hexes_any s (p + 3) 8 w (by omega) hs (by omega)
      have hd1 : (LD s (p + 2)).drop 1 = LD s (p + 3):=LD_drop s (p + 2) 1
      rw [hd1]
      have hle:=hxs_len 8 (LD s (p + 3))
      obtain ⟨H,hH⟩ : ∃ H,hxs 8 (LD s (p + 3)) = H:=⟨_,rfl⟩
      rw [hH] at CH hle ⊢
      have hdk : (LD s (p + 2)).drop (1 + H.length) = LD s (p + 3 + H.length):=by rw [LD_drop];congr 1;omega
      rw [hdk]
      obtain ⟨r,hr⟩ : ∃ r,W.hv H = r:=⟨_,rfl⟩
      rw [hr] at CH ⊢
      have CE:=fun w=>renc_any r w
      obtain ⟨K,hK⟩ : ∃ K,H.length = K:=⟨_,rfl⟩
      rw [hK] at CH hle ⊢
      have hnil : H ≠ [] ↔ K ≠ 0:=by rw [← hK];exact ⟨fun h e=>h (List.eq_nil_of_length_eq_zero e),fun h e=>h (by rw [e];rfl)⟩
      clear hH hd1 hdk hr hK
      by_cases hK0 : K = 0
      · rw [if_neg (fun h=>hnil.1 h.2.1 hK0)]
        subst hK0
        clear hnil
        go_enter Tryz.func71,Tryz.ntmps71
        go_wp2_with (first
          | (go_at_call 107;refine (CH _).mono ?_;rintro e w' ⟨rfl,rfl⟩)
          | (go_at_call 108;refine (CE _).mono ?_;rintro e w1 ⟨rfl,hb1⟩))
        go_ret2
        exact re_none _ rfl _ _ _ hb1
      · have hK0b : ((K : Int) == 0) = false:=by rw [beq_eq_false_iff_ne];omega
        cases he : encB r
        · have e1 : encE r = 3:=by simp [encE,he]
          rw [e1] at CE
          rw [if_neg (fun h=>Bool.false_ne_true h.2.2.1)]
          clear hnil
          go_enter Tryz.func71,Tryz.ntmps71
          go_wp2_with (first
            | (go_at_call 107;refine (CH _).mono ?_;rintro e w' ⟨rfl,rfl⟩)
            | (go_at_call 108;refine (CE _).mono ?_;rintro e w1 ⟨rfl,hb1⟩))
          go_ret2
          exact re_none _ rfl _ _ _ hb1
        · have e1 : encE r = 0:=by simp [encE,he]
          rw [e1] at CE
          by_cases h4 : p + 3 + K < s.size
          · obtain ⟨d,hd⟩ : ∃ d,s[p + 3 + K].toNat = d:=⟨_,rfl⟩
            by_cases h5 : d = 125
            · subst h5
              have hh2 : (LD s (p + 3 + K)).headD 0 = 125:=by rw [LD_head s _ h4];exact UInt8.toNat_inj.1 hd
              rw [if_pos ⟨hh,hnil.2 hK0,rfl,hh2⟩]
              have hcv:=fun W=>conv_str (encS r) W
              clear hnil hh hh2
              go_enter Tryz.func71,Tryz.ntmps71
              go_wp2_with (first
                | (go_at_call 107;refine (CH _).mono ?_;rintro e w' ⟨rfl,rfl⟩)
                | (go_at_call 108;refine (CE _).mono ?_;rintro e w1 ⟨rfl,hb1⟩))
              go_ret2
              exact re_str (encS r) (K + 3) (by omega) _ w1 hb1 _ (by omega)
            · have hh2 : (LD s (p + 3 + K)).headD 0 ≠ 125:=by rw [LD_head s _ h4];exact fun e=>h5 (by rw [← hd,e];rfl)
              rw [if_neg (fun h=>hh2 h.2.2.2)]
              have h5b : ((d : Int) != 125) = true:=by simp;omega
              clear hnil hh hh2
              go_enter Tryz.func71,Tryz.ntmps71
              go_wp2_with (first
                | (go_at_call 107;refine (CH _).mono ?_;rintro e w' ⟨rfl,rfl⟩)
                | (go_at_call 108;refine (CE _).mono ?_;rintro e w1 ⟨rfl,hb1⟩))
              go_ret2
              exact re_none _ rfl _ _ _ hb1
          · rw [if_neg (fun h=>by have:=h.2.2.2;rw [head_no s _ h4] at this;exact absurd this (by decide))]
            clear hnil
            go_enter Tryz.func71,Tryz.ntmps71
            go_wp2_with (first
              | (go_at_call 107;refine (CH _).mono ?_;rintro e w' ⟨rfl,rfl⟩)
              | (go_at_call 108;refine (CE _).mono ?_;rintro e w1 ⟨rfl,hb1⟩))
            go_ret2
            exact re_none _ rfl _ _ _ hb1
    · have h3b : ((m : Int) != 123) = true:=by simp;omega
      rw [if_neg (fun h=>h3 (by have:=h.1;rw [LD_head s _ h2] at this;rw [← hm,this];rfl))]
      go_enter Tryz.func71,Tryz.ntmps71
      go_wp2
      go_ret2
      exact re_none _ rfl _ _ _ (Below.refl _ _)
  · rw [if_neg (fun h=>by have:=h.1;rw [head_no s _ h2] at this;exact absurd this (by decide))]
    go_enter Tryz.func71,Tryz.ntmps71
    go_wp2
    go_ret2
    exact re_none _ rfl _ _ _ (Below.refl _ _)
theorem dgs_stop (m k : Nat) (l : List UInt8) (hk : k ≤ m) (hl : k ≤ l.length) (ha : W.allDec (l.take k) = true) (hs : k = m ∨ k = l.length ∨ ∃ c,l[k]? = some c ∧ ¬ (48 ≤ (c.toNat : Int) ∧ (c.toNat : Int) ≤ 57)) : dgs m l = l.take k:=by
  have hall : ∀ x ∈ l.take k,(decide (48 ≤ (x.toNat : Int) ∧ (x.toNat : Int) ≤ 57)) = true:=fun x hx=>List.all_eq_true.1 ha x hx
  unfold dgs
  have hsp : l.take m = l.take k ++ (l.take m).drop k:=by
    have:=List.take_append_drop k (l.take m)
    rw [List.take_take,Nat.min_eq_left hk] at this
    exact this.symm
  rw [hsp,List.takeWhile_append_of_pos hall]
  suffices h : ((l.take m).drop k).takeWhile (fun c=>decide (48 ≤ (c.toNat : Int) ∧ (c.toNat : Int) ≤ 57)) = [] by rw [h,List.append_nil]
  rcases hs with h | h | ⟨c,h1,h2⟩
  · subst h
    rw [List.drop_of_length_le (by rw [List.length_take];omega)];rfl
  · rw [List.drop_of_length_le (by rw [List.length_take];omega)];rfl
  · have hkl : k < l.length:=by
      rcases Nat.lt_or_ge k l.length with h | h
      · exact h
      · rw [List.getElem?_eq_none h] at h1;cases h1
    have hc : l[k] = c:=by rw [List.getElem?_eq_getElem hkl] at h1;exact Option.some.inj h1
    by_cases hkm : k < m
    · rw [List.drop_eq_getElem_cons (by rw [List.length_take];omega),List.getElem_take,hc,List.takeWhile_cons,if_neg (by simpa using h2)]
    · rw [List.drop_of_length_le (by rw [List.length_take];omega)];rfl
set_option maxRecDepth 20000 in
set_option maxHeartbeats 8000000 in
theorem resc_d (s : ByteArray) (p : Nat) (w : World) (hp : p + 1 < s.size) (hs : s.size ≤ 20000) (m : Nat) (hn : s[p + 1].toNat = m) (hns : NS m) (hx : ((m : Int) == 120) = false) (hu : ((m : Int) == 117) = false) : Calls Tryz.prog 71 #[.string s,.int .i64 p] w fun e W'=>RE (escD (LD s (p + 1))) w e W':=by
  obtain ⟨b1,b2,b3,b4,b5,b6⟩:=hns
  go_enter Tryz.func71,Tryz.ntmps71
  go_wp2
  go_loop [13,14] (fun v13 v14=>∃ k : Nat,k ≤ 3 ∧ p + 1 + k ≤ s.size ∧ v14 = .int .i64 k ∧ ∃ n : Nat,v13 = .int .i64 n ∧ n < 1000 ∧ Hid (W.dv ((LD s (p + 1)).take k) = n) ∧ Hid (W.allDec ((LD s (p + 1)).take k) = true)) (fun _ v14=>3 - (intOf v14).toNat)
  case atStart=>exact ⟨0,Nat.zero_le _,by omega,rfl,0,rfl,by omega,by simp [W.dv,Hid],by simp [W.allDec,Hid]⟩
  case round =>
    obtain ⟨k,hkm,hks,rfl,n,rfl,hn1,hV,hA⟩:=hrel
    have fin : Hid (∀ _ : k = 3 ∨ k = (LD s (p + 1)).length ∨ ∃ c,(LD s (p + 1))[k]? = some c ∧ ¬ (48 ≤ (c.toNat : Int) ∧ (c.toNat : Int) ≤ 57),escD (LD s (p + 1)) = if k = 0 ∨ 255 < n then ([],0) else ([UInt8.ofNat n],k)):=fun h=>by
      unfold escD
      rw [dgs_stop 3 k (LD s (p + 1)) hkm (by rw [LD_len];omega) hA.out h,hV.out]
      have hl : ((LD s (p + 1)).take k).length = k:=by rw [List.length_take,LD_len];omega
      rw [hl]
      by_cases h0 : k = 0
      · rw [if_pos (.inl (by subst h0;rfl)),if_pos (.inl h0)]
      · by_cases h9 : 255 < n
        · rw [if_pos (.inr h9),if_pos (.inr h9)]
        · rw [if_neg,if_neg (by omega)]
          rintro (e | e)
          · rw [e] at hl;simp at hl;omega
          · exact h9 e
    by_cases h1 : k < 3 ∧ p + 1 + k < s.size ∧ (∃ h : p + 1 + k < s.size,48 ≤ (s[p + 1 + k].toNat : Int) ∧ (s[p + 1 + k].toNat : Int) ≤ 57)
    · obtain ⟨g1,g2,g0,g3,g4⟩:=h1
      have hst : W.dv ((LD s (p + 1)).take (k + 1)) = n * 10 + (s[p + 1 + k].toNat - 48):=by
        rw [LD_snoc s (p + 1) k g2,W.dv_snoc,hV.out,(W.dec_val _ ⟨g3,g4⟩).2];omega
      have HA2 : Hid (W.allDec ((LD s (p + 1)).take (k + 1)) = true):=by
        show _ = _
        rw [LD_snoc s (p + 1) k g2,W.allDec_snoc,hA.out,decide_eq_true ⟨g3,g4⟩];rfl
      have hlt:=dv_lt 3 ((LD s (p + 1)).take (k + 1)) (by rw [List.length_take];omega) HA2.out
      have hp3 : 10 ^ ((LD s (p + 1)).take (k + 1)).length ≤ 10 ^ 3:=Nat.pow_le_pow_right (by omega) (by rw [List.length_take];omega)
      rw [hst] at hlt
      have HV2 : Hid (W.dv ((LD s (p + 1)).take (k + 1)) = n * 10 + (s[p + 1 + k].toNat - 48)):=hst
      have hlt2 : n * 10 + (s[p + 1 + k].toNat - 48) < 1000:=by omega
      obtain ⟨c,hc⟩ : ∃ c : Nat,s[p + 1 + k].toNat = c:=⟨_,rfl⟩
      rw [hc] at g3 g4 HV2 hlt2
      clear fin hV hA hst hlt hp3
      go_wp2
      go_round
      case rel=>exact ⟨k + 1,by omega,by omega,by go_num,n * 10 + (c - 48),by congr 1;omega,by omega,HV2,HA2⟩
      case measure=>simp [intOf];omega
    · have hE:=fin.out (by
        by_cases q1 : k = 3
        · exact .inl q1
        · by_cases q2 : p + 1 + k < s.size
          · right;right
            exact ⟨_,LD_get s (p + 1) k q2,fun h=>h1 ⟨by omega,q2,q2,h⟩⟩
          · right;left;rw [LD_len];omega)
      have HE : Hid (escD (LD s (p + 1)) = if k = 0 ∨ 255 < n then ([],0) else ([UInt8.ofNat n],k)):=hE
      clear hE fin hV hA
      have done : ∀ (W0 : World),W0 = w → (k = 0 ∨ 255 < n → RE (escD (LD s (p + 1))) w (.returned (.tuple #[.slice none 0 0,.int .i64 0])) W0):=fun W0 h0 h=>by
        subst h0
        rw [HE.out,if_pos h]
        exact re_none _ rfl _ _ _ (Below.refl _ _)
      have done2 : ¬ (k = 0 ∨ 255 < n) → RE (escD (LD s (p + 1))) w (.returned (.tuple #[.slice (some ⟨w.heap.size,0,none⟩) 1 1,.int .i64 ((k : Int) + 1)])) (w.alloc (.cells #[.int .u8 n] 5)):=fun h=>by
        rw [HE.out,if_neg h]
        exact re_one (UInt8.ofNat n) k (by omega) w _ n (by simp;omega) _ (by omega) rfl
      have D1 : Hid _:=done
      have D2 : Hid _:=done2
      clear done done2 HE
      have hways : (¬ k < 3) ∨ (k < 3 ∧ ¬ p + 1 + k < s.size) ∨ (k < 3 ∧ ∃ h : p + 1 + k < s.size,s[p + 1 + k].toNat < 48) ∨ (k < 3 ∧ ∃ h : p + 1 + k < s.size,57 < s[p + 1 + k].toNat):=by
        by_cases q1 : k < 3
        · by_cases q2 : p + 1 + k < s.size
          · by_cases q3 : s[p + 1 + k].toNat < 48
            · exact .inr (.inr (.inl ⟨q1,q2,q3⟩))
            · by_cases q4 : 57 < s[p + 1 + k].toNat
              · exact .inr (.inr (.inr ⟨q1,q2,q4⟩))
              · exact absurd ⟨q1,q2,q2,by omega,by omega⟩ h1
          · exact .inr (.inl ⟨q1,q2⟩)
        · exact .inl q1
      clear h1
      by_cases h0 : k = 0
      · subst h0
        rcases hways with q1 | ⟨q1,q2⟩ | ⟨q1,q2,q3⟩ | ⟨q1,q2,q3⟩
        · omega
        · omega
        · have q4 : m < 48:=by simpa [hn] using q3
          clear q3
          go_wp2
          go_ret2
          exact D1.out _ rfl (by simp)
        · have q4 : 57 < m:=by simpa [hn] using q3
          clear q3
          go_wp2
          go_ret2
          exact D1.out _ rfl (by simp)
      · have h0b : ((k : Int) == 0) = false:=by rw [beq_eq_false_iff_ne];omega
        by_cases h9 : 255 < n
        · rcases hways with q1 | ⟨q1,q2⟩ | ⟨q1,q2,q3⟩ | ⟨q1,q2,q3⟩
          all_goals
            go_wp2
            go_ret2
            exact D1.out _ rfl (.inr h9)
        · rcases hways with q1 | ⟨q1,q2⟩ | ⟨q1,q2,q3⟩ | ⟨q1,q2,q3⟩
          all_goals
            go_wp2
            go_ret2
            exact D2.out (by omega)
theorem resc_any (s : ByteArray) (p : Nat) (w : World) (hp : p + 1 < s.size) (hs : s.size ≤ 20000) : Calls Tryz.prog 71 #[.string s,.int .i64 p] w fun e W'=>RE (esc (LD s (p + 1))) w e W':=by
  obtain ⟨n,hn⟩ : ∃ n,s[p + 1].toNat = n:=⟨_,rfl⟩
  by_cases h : n = 110 ∨ n = 116 ∨ n = 114 ∨ n = 92 ∨ n = 34 ∨ n = 39
  · exact resc_simple s p w hp hs n hn h
  · obtain ⟨c,hc⟩:=LD_cons s (p + 1) hp
    have hcc : c = s[p + 1]:=by
      have:=LD_head s (p + 1) hp
      rw [hc] at this;exact this
    have hcn : c.toNat = n:=by rw [hcc,hn]
    have hE : esc (LD s (p + 1)) = if n = 120 then escX (LD s (p + 2)) else if n = 117 then escU (LD s (p + 2)) else escD (LD s (p + 1)):=by
      rw [hc]
      simp only [esc]
      rw [hcn,if_neg (by omega),if_neg (by omega),if_neg (by omega),if_neg (by omega)]
    rw [hE]
    by_cases h1 : n = 120
    · rw [if_pos h1];exact resc_x s p w hp hs (by rw [hn,h1])
    · rw [if_neg h1]
      by_cases h2 : n = 117
      · rw [if_pos h2];exact resc_u s p w hp hs (by rw [hn,h2])
      · rw [if_neg h2]
        exact resc_d s p w hp hs n hn (ns_of n h) (by rw [beq_eq_false_iff_ne];omega) (by rw [beq_eq_false_iff_ne];omega)
end Go.Proofs.YtlgkfhipobdcfaaGreatDoor
