import Derived.Test.YtlgkfhipobdcfaaGreatDoorCg45
import Derived.Lib.AppendStr
import Derived.Test.YtlgkfhipobdcfaaGreatDoorCg04
import Derived.Lib.ConvBytes
namespace Go.Proofs.YtlgkfhipobdcfaaGreatDoor
open Go.RowKit
theorem LD_get (s : ByteArray) (a k : Nat) (h : a + k < s.size) : (LD s a)[k]? = some s[a + k]:=by
  have hl : a + k < s.data.toList.length:=by rw [Array.length_toList];exact h
  unfold LD
  rw [List.getElem?_drop,List.getElem?_eq_getElem hl]
  rfl
theorem LD_snoc (s : ByteArray) (a k : Nat) (h : a + k < s.size) : (LD s a).take (k + 1) = (LD s a).take k ++ [s[a + k]]:=by
  have hl : k < (LD s a).length:=by rw [LD_len];omega
  rw [List.take_succ_eq_append_getElem hl]
  congr 2
  have:=LD_get s a k h
  rw [List.getElem?_eq_getElem hl] at this
  exact Option.some.inj this
theorem hv_step (l : List UInt8) (c : UInt8) (h8 : l.length ≤ 7) : W.hv (l ++ [c]) = W.hv l * 16 + W.dgV c.toNat:=by
  have h1:=hv_small l (by omega)
  have h2:=W.dgV_bound c.toNat
  rw [W.hv_snoc]
  omega
theorem dgB_cases (c : Int) (h : W.dgB c = true) : (48 ≤ c ∧ c ≤ 57 ∧ W.dgV c = c - 48) ∨ (97 ≤ c ∧ c ≤ 102 ∧ W.dgV c = c - 87) ∨ (65 ≤ c ∧ c ≤ 70 ∧ W.dgV c = c - 55):=by
  simp only [W.dgB,Bool.or_eq_true,decide_eq_true_eq] at h
  unfold W.dgV
  rcases h with (h | h) | h
  · left;rw [if_pos h];omega
  · right;left;rw [if_neg (by omega),if_pos h];omega
  · right;right;rw [if_neg (by omega),if_neg (by omega),if_pos h];omega
theorem dgB_not (c : Int) (h : W.dgB c = false) : ¬ (48 ≤ c ∧ c ≤ 57) ∧ ¬ (97 ≤ c ∧ c ≤ 102) ∧ ¬ (65 ≤ c ∧ c ≤ 70):=by
  simp only [W.dgB,Bool.or_eq_false_iff,decide_eq_false_iff_not] at h
  exact ⟨h.1.1,h.1.2,h.2⟩
set_option maxHeartbeats 4000000 in
theorem hexes_any (s : ByteArray) (a m : Nat) (w : World) (ha : a ≤ s.size) (hs : s.size ≤ 20000) (hm : m ≤ 8) : Calls Tryz.prog 107 #[.string s,.int .i64 a,.int .i64 m] w fun e w'=>e = .returned (.tuple #[.int .i64 (W.hv (hxs m (LD s a))),.int .i64 (hxs m (LD s a)).length]) ∧ w' = w:=by
  go_enter Tryz.func107,Tryz.ntmps107
  go_wp2
  go_loop [8,9] (fun v8 v9=>∃ k : Nat,k ≤ m ∧ a + k ≤ s.size ∧ v9 = .int .i64 k ∧ ∃ n : Int,v8 = .int .i64 n ∧ 0 ≤ n ∧ n < 4294967296 ∧ Hid (W.hv ((LD s a).take k) = n) ∧ Hid (W.allHex ((LD s a).take k) = true)) (fun _ v9=>m - (intOf v9).toNat)
  case atStart=>exact ⟨0,Nat.zero_le _,ha,rfl,0,rfl,by omega,by omega,by simp [W.hv,Hid],by simp [W.allHex,Hid]⟩
  case round =>
    obtain ⟨k,hkm,hks,rfl,n,rfl,hn0,hn1,hV,hA⟩:=hrel
    have fin : Hid (∀ _ : k = m ∨ k = (LD s a).length ∨ ∃ c,(LD s a)[k]? = some c ∧ W.dgB c.toNat = false,W.hv (hxs m (LD s a)) = n ∧ ((hxs m (LD s a)).length : Int) = k):=fun h=>by
      rw [hxs_stop m k (LD s a) hkm (by rw [LD_len];omega) hA.out h]
      exact ⟨hV.out,by rw [List.length_take,LD_len];omega⟩
    by_cases h1 : k < m
    · by_cases h2 : a + k < s.size
      · have hc0:=s[a + k].toNat_lt
        obtain ⟨c,hc⟩ : ∃ c : Int,(s[a + k].toNat : Int) = c:=⟨_,rfl⟩
        cases hd : W.dgB c
        · obtain ⟨e1,e2⟩:=fin.out (.inr (.inr ⟨_,LD_get s a k h2,by rw [hc];exact hd⟩))
          obtain ⟨n1,n2,n3⟩:=dgB_not c hd
          have E1 : Hid _:=e1
          have E2 : Hid _:=e2
          have hcl : 0 ≤ c:=by omega
          have hch : c < 256:=by omega
          clear fin hV hA e1 e2 hd hc0
          by_cases g1 : 48 ≤ c <;> by_cases g2 : 97 ≤ c <;> by_cases g3 : 65 ≤ c
          all_goals first
            | omega
            | (go_wp2
               all_goals first
                 | omega
                 | (go_ret2;exact ⟨W.ret2 E1.out.symm E2.out.symm,rfl⟩))
        · have hst:=hv_step ((LD s a).take k) s[a + k] (by rw [List.length_take];omega)
          rw [← LD_snoc s a k h2,hV.out,hc] at hst
          have HA2 : Hid (W.allHex ((LD s a).take (k + 1)) = true):=by
            show _ = _
            rw [LD_snoc s a k h2,W.allHex_snoc,hA.out,hc,hd];rfl
          have hlt:=hv_small ((LD s a).take (k + 1)) (by rw [List.length_take];omega)
          rw [hst] at hlt
          have HV2 : Hid (W.hv ((LD s a).take (k + 1)) = n * 16 + W.dgV c):=hst
          clear fin hV hA hst
          rcases dgB_cases c hd with ⟨g1,g2,g3⟩ | ⟨g1,g2,g3⟩ | ⟨g1,g2,g3⟩
          all_goals
            rw [g3] at HV2 hlt
            clear hd g3
            go_wp2
            go_round
            case rel=>exact ⟨k + 1,by omega,by omega,by go_num,_,rfl,by omega,by omega,by (show _ = _;rw [HV2.out];omega),HA2⟩
            case measure=>simp [intOf];omega
      · obtain ⟨e1,e2⟩:=fin.out (.inr (.inl (by rw [LD_len];omega)))
        have E1 : Hid _:=e1
        have E2 : Hid _:=e2
        clear fin hV hA e1 e2
        go_wp2
        go_ret2
        exact ⟨W.ret2 E1.out.symm E2.out.symm,rfl⟩
    · obtain ⟨e1,e2⟩:=fin.out (.inl (by omega))
      have E1 : Hid _:=e1
      have E2 : Hid _:=e2
      clear fin hV hA e1 e2
      go_wp2
      go_ret2
      exact ⟨W.ret2 E1.out.symm E2.out.symm,rfl⟩
end Go.Proofs.YtlgkfhipobdcfaaGreatDoor


namespace Go.Proofs.YtlgkfhipobdcfaaGreatDoor
open Go.RowKit
def RE (x : List UInt8 × Nat) (w : World) (e : Ending) (W' : World) : Prop :=
  Below w.heap.size w W' ∧ (x.2 = 0 → ∃ v,e = .returned (.tuple #[v,.int .i64 0])) ∧
    (x.2 ≠ 0 → ∃ g cap,e = .returned (.tuple #[.slice (some ⟨g,0,none⟩) x.1.length cap,.int .i64 ((x.2 + 1 : Nat) : Int)]) ∧ ∀ j u,(Lib.byteCells x.1)[j]? = some u → W'.cell? ⟨g,j,none⟩ = some u)
theorem re_one (c : UInt8) (n : Nat) (hn : n ≠ 0) (w : World) (e : Ending) (i : Int) (hi : i = c.toNat) (m : Int) (hm : m = ((n + 1 : Nat) : Int)) (he : e = .returned (.tuple #[.slice (some ⟨w.heap.size,0,none⟩) 1 1,.int .i64 m])) : RE ([c],n) w e (w.alloc (.cells #[.int .u8 i] 5)):=by
  subst hi hm
  refine ⟨(Below.refl _ _).alloc (Nat.le_refl _) _,fun h=>absurd h hn,fun _=>⟨w.heap.size,1,he,fun j u hj=>?_⟩⟩
  match j,hj with
  | 0,hj=>simp [Lib.byteCells] at hj;subst hj;simp [go_sem]
theorem re_none (x : List UInt8 × Nat) (hx : x.2 = 0) (w W' : World) (v : Value) (h : Below w.heap.size w W') : RE x w (.returned (.tuple #[v,.int .i64 0])) W' :=
  ⟨h,fun _=>⟨v,rfl⟩,fun hn=>absurd hx hn⟩
set_option maxRecDepth 20000 in
set_option maxHeartbeats 4000000 in
theorem resc_simple (s : ByteArray) (p : Nat) (w : World) (hp : p + 1 < s.size) (hs : s.size ≤ 20000) (n : Nat) (hn : s[p + 1].toNat = n) (h : n = 110 ∨ n = 116 ∨ n = 114 ∨ n = 92 ∨ n = 34 ∨ n = 39) : Calls Tryz.prog 71 #[.string s,.int .i64 p] w fun e W'=>RE (esc (LD s (p + 1))) w e W':=by
  obtain ⟨c,hc⟩:=LD_cons s (p + 1) hp
  have hcc : c = s[p + 1]:=by
    have:=LD_head s (p + 1) hp
    rw [hc] at this;exact this
  have hcn : c.toNat = n:=by rw [hcc,hn]
  rw [hc]
  simp only [esc]
  rw [hcn]
  clear hcc hc
  rcases h with rfl | rfl | rfl | rfl | rfl | rfl
  all_goals
    go_enter Tryz.func71,Tryz.ntmps71
    go_wp2
    go_ret2
    first
      | exact re_one 10 1 (by omega) w _ 10 rfl 2 rfl rfl
      | exact re_one 9 1 (by omega) w _ 9 rfl 2 rfl rfl
      | exact re_one 13 1 (by omega) w _ 13 rfl 2 rfl rfl
      | exact re_one c 1 (by omega) w _ _ (by rw [hcn];rfl) 2 rfl rfl
structure NS (n : Nat) : Prop where
  b1 : ((n : Int) == 110) = false
  b2 : ((n : Int) == 116) = false
  b3 : ((n : Int) == 114) = false
  b4 : ((n : Int) == 92) = false
  b5 : ((n : Int) == 34) = false
  b6 : ((n : Int) == 39) = false
theorem ns_of (n : Nat) (h : ¬ (n = 110 ∨ n = 116 ∨ n = 114 ∨ n = 92 ∨ n = 34 ∨ n = 39)) : NS n:=by
  constructor <;> rw [beq_eq_false_iff_ne] <;> omega
set_option maxRecDepth 20000 in
set_option maxHeartbeats 4000000 in
theorem resc_x (s : ByteArray) (p : Nat) (w : World) (hp : p + 1 < s.size) (hs : s.size ≤ 20000) (hn : s[p + 1].toNat = 120) : Calls Tryz.prog 71 #[.string s,.int .i64 p] w fun e W'=>RE (escX (LD s (p + 2))) w e W':=by
  have CH:=fun w=>hexes_any s (p + 2) 2 w (by omega) hs (by omega)
  unfold escX
  have hb:=hv_lt 2 (hxs 2 (LD s (p + 2))) (hxs_len 2 _) (by have:=hxs_len 2 (LD s (p + 2));omega)
  have hb0:=(W.hv_bound (hxs 2 (LD s (p + 2)))).1
  obtain ⟨H,hH⟩ : ∃ H,hxs 2 (LD s (p + 2)) = H:=⟨_,rfl⟩
  rw [hH] at CH hb hb0 ⊢
  obtain ⟨v,hv⟩ : ∃ v : Nat,W.hv H = v:=⟨(W.hv H).toNat,by omega⟩
  rw [hv] at CH hb ⊢
  clear hH hv hb0
  by_cases h2 : H.length = 2
  · rw [if_pos h2]
    rw [h2] at CH hb
    have hv256 : v < 256:=by simp at hb;omega
    clear hb h2
    go_enter Tryz.func71,Tryz.ntmps71
    go_wp2_with (go_at_call 107;refine (CH _).mono ?_;rintro e w' ⟨rfl,rfl⟩)
    go_ret2
    exact re_one (UInt8.ofNat v) 3 (by omega) _ _ v (by simp;omega) 4 rfl rfl
  · rw [if_neg h2]
    have h2b : ((H.length : Int) == 2) = false:=by rw [beq_eq_false_iff_ne];omega
    clear hb
    go_enter Tryz.func71,Tryz.ntmps71
    go_wp2_with (go_at_call 107;refine (CH _).mono ?_;rintro e w' ⟨rfl,rfl⟩)
    go_ret2
    exact re_none _ rfl _ _ _ (Below.refl _ _)
end Go.Proofs.YtlgkfhipobdcfaaGreatDoor
