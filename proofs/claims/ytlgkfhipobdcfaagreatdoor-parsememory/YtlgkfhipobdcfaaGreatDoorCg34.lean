import Derived.Test.YtlgkfhipobdcfaaGreatDoorCg33
import Derived.Test.YtlgkfhipobdcfaaGreatDoorCg09
import Derived.Test.YtlgkfhipobdcfaaGreatDoorCg19
namespace Go.Proofs.YtlgkfhipobdcfaaGreatDoor
open Go.RowKit
set_option maxRecDepth 20000
def lvC : Nat → List Nat
  | 1=>[30] | 2=>[31] | 3=>[32,33,34,35,36,37] | 4=>[38] | 5=>[39,26] | 6=>[40,41,42] | _=>[]
def lvT (s : Sx) (k : Nat) : List UInt8:=if bnd s.c = k then s.t.t else []
theorem lvC_bnd (k : Nat) (h1 : 1 ≤ k) (h6 : k ≤ 6) : ∀ c ∈ lvC k,bnd c = k ∧ 1 ≤ c ∧ c ≤ 42:=by
  have : k = 1 ∨ k = 2 ∨ k = 3 ∨ k = 4 ∨ k = 5 ∨ k = 6:=by omega
  rcases this with rfl | rfl | rfl | rfl | rfl | rfl <;> decide
theorem bnd_lvC (k c : Nat) (h1 : 1 ≤ k) (h : bnd c = k) : c ∈ lvC k:=by
  unfold bnd at h
  split at h
  · subst h;rename_i e;rw [e];decide
  · split at h
    · subst h;rename_i e;rw [e];decide
    · split at h
      · rename_i e
        subst h
        have : c = 32 ∨ c = 33 ∨ c = 34 ∨ c = 35 ∨ c = 36 ∨ c = 37:=by omega
        rcases this with rfl | rfl | rfl | rfl | rfl | rfl <;> decide
      · split at h
        · subst h;rename_i e;rw [e];decide
        · split at h
          · rename_i e
            subst h
            rcases e with rfl | rfl <;> decide
          · split at h
            · rename_i e
              subst h
              have : c = 40 ∨ c = 41 ∨ c = 42:=by omega
              rcases this with rfl | rfl | rfl <;> decide
            · omega
theorem lv_yes (s : Sx) (k : Nat) (h1 : 1 ≤ k) (h6 : k ≤ 6) (c : Nat) (hc : c ∈ lvC k) (h : s.c = c) : lvT s k = wds c:=by
  obtain ⟨hb,g1,g2⟩:=lvC_bnd k h1 h6 c hc
  unfold lvT
  rw [if_pos (by rw [h];exact hb)]
  obtain ⟨_,hcc⟩:=Sx.c_lt (s:=s) (by rw [h];omega)
  exact (cls_word s.t c (by rw [← hcc];exact h) g1 g2).2
theorem lv_no (s : Sx) (k : Nat) (h1 : 1 ≤ k) (h : ∀ c ∈ lvC k,s.c ≠ c) : lvT s k = []:=by
  unfold lvT
  rw [if_neg (fun e=>h _ (bnd_lvC k s.c h1 e) rfl)]
theorem F.lvl_ne {c : Nat} (h1 : 1 ≤ c) (h2 : c ≤ 42) : wds c ≠ []:=fun e=>by
  have:=code_wds c h1 h2
  rw [e] at this
  have h0 : code [] = 0:=by decide
  omega
set_option maxHeartbeats 4000000 in
theorem rlevel1 (b m : Nat) (T : List Tok) (s : Sx) (W : World) (h : RT b m T s W) : Calls Tryz.prog 110 #[.pointer (some ⟨b,0,none⟩),.int .i64 1] W fun e w'=>e = .returned (.string ⟨(lvT s 1).toArray⟩) ∧ Below W.heap.size W w':=by
  have B0:=Bx.new W 9 #[.string ⟨#[111,114]⟩]
  have K0 : Below W.heap.size W (W.alloc (.cells #[.string ⟨#[111,114]⟩] 9)):=(Below.refl _ W).alloc (Nat.le_refl _) _
  obtain ⟨V,hV⟩ : ∃ V,W.alloc (.cells #[.string ⟨#[111,114]⟩] 9) = V:=⟨_,rfl⟩
  rw [hV] at B0 K0
  obtain ⟨X,hX⟩ : ∃ X,W.heap.size = X:=⟨_,rfl⟩
  rw [hX] at B0
  have HB : Hid (Bx X 9 #[.string ⟨#[111,114]⟩] V ∧ Below W.heap.size W V ∧ RT b m T s V):=⟨B0,K0,RS.below h K0⟩
  clear B0 K0
  go_enter Tryz.func110,Tryz.ntmps110
  go_wp2_with fail
  clear hV
  go_loopw [6] (fun v6 wx=>∃ i : Nat,v6 = .int .i64 (i : Nat) ∧ i ≤ 1 ∧ Hid (Below V.heap.size V wx) ∧ Hid (∀ c ∈ (lvC 1).take i,s.c ≠ c)) (fun v6 _=>1 - (intOf v6).toNat)
  case atStart=>exact ⟨0,rfl,Nat.zero_le _,Below.refl _ _,fun c hc=>by simp at hc⟩
  case round =>
    obtain ⟨i,rfl,hi,HV,HN⟩:=hrel
    have bX:=HB.out.1.below HV.out
    have hRT:=RS.below HB.out.2.2 HV.out
    have HW : Hid (Below W.heap.size W wr):=HB.out.2.1.trans (HV.out.mono HB.out.2.1.size)
    have hcase : i = 0 ∨ i = 1:=by omega
    rcases hcase with rfl | rfl
    · have c0 : wr.cell? ⟨X,0,none⟩ = some (.string ⟨#[111,114]⟩):=bX.c 0 _ rfl
      have C:=see_n b m T s 30 (by decide) (by decide) wr hRT
      rw [show wds 30 = [111,114] from rfl] at C
      by_cases hc : s.c = 30
      · rw [decide_eq_true hc] at C
        have hT:=lv_yes s 1 (by decide) (by decide) 30 (by decide) hc
        rw [show wds 30 = [111,114] from rfl] at hT
        have HT : Hid (lvT s 1 = [111,114]):=hT
        clear HB HN hT hRT HV hc
        go_wp2_with (go_at_call 46;refine C.mono ?_;rintro e w3 ⟨rfl,hb3⟩;have c0:=(bX.below hb3).c 0 _ rfl)
        go_ret
        exact ⟨(by rw [HT.out];rfl),HW.out.trans (hb3.mono HW.out.size)⟩
      · rw [decide_eq_false hc] at C
        have HN2 : Hid (∀ c ∈ (lvC 1).take 1,s.c ≠ c):=fun c hcm=>by
          rw [show (lvC 1).take 1 = (lvC 1).take 0 ++ [30] from rfl] at hcm
          rcases List.mem_append.1 hcm with h | h
          · exact HN.out c h
          · rw [List.mem_singleton.1 h];exact hc
        have wi : IntKind.i64.wrap ((0 : Int) + 1) = (0 : Int) + 1:=by decide
        clear HB HN hRT hc
        go_wp2_with (go_at_call 46;refine C.mono ?_;rintro e w3 ⟨rfl,hb3⟩)
        go_round
        case rel=>exact ⟨1,by first | rfl | simp,by omega,HV.out.trans (hb3.mono HV.out.size),HN2⟩
        case measure=>first | omega | (simp only [intOf];omega) | (simp;omega) | decide
    · have HT : Hid (lvT s 1 = []):=lv_no s 1 (by decide) fun c hc=>HN.out c (by rw [show (lvC 1).take 1 = lvC 1 from rfl];exact hc)
      clear HB HN hRT HV
      go_wp2
      go_ret
      exact ⟨(by rw [HT.out];rfl),HW.out⟩
set_option maxHeartbeats 4000000 in
theorem rlevel2 (b m : Nat) (T : List Tok) (s : Sx) (W : World) (h : RT b m T s W) : Calls Tryz.prog 110 #[.pointer (some ⟨b,0,none⟩),.int .i64 2] W fun e w'=>e = .returned (.string ⟨(lvT s 2).toArray⟩) ∧ Below W.heap.size W w':=by
  have B0:=Bx.new (W.alloc (.cells #[.string ⟨#[111,114]⟩] 9)) 9 #[.string ⟨#[97,110,100]⟩]
  have K0 : Below W.heap.size W ((W.alloc (.cells #[.string ⟨#[111,114]⟩] 9)).alloc (.cells #[.string ⟨#[97,110,100]⟩] 9)):=((Below.refl _ W).alloc (Nat.le_refl _) _).alloc (by simp) _
  have e1 : (W.alloc (.cells #[.string ⟨#[111,114]⟩] 9)).heap.size = W.heap.size + 1:=by simp
  rw [e1] at B0
  obtain ⟨V,hV⟩ : ∃ V,(W.alloc (.cells #[.string ⟨#[111,114]⟩] 9)).alloc (.cells #[.string ⟨#[97,110,100]⟩] 9) = V:=⟨_,rfl⟩
  rw [hV] at B0 K0
  obtain ⟨X,hX⟩ : ∃ X,W.heap.size + 1 = X:=⟨_,rfl⟩
  rw [hX] at B0
  clear e1
  have HB : Hid (Bx X 9 #[.string ⟨#[97,110,100]⟩] V ∧ Below W.heap.size W V ∧ RT b m T s V):=⟨B0,K0,RS.below h K0⟩
  clear B0 K0
  go_enter Tryz.func110,Tryz.ntmps110
  go_wp2_with fail
  clear hV
  go_loopw [6] (fun v6 wx=>∃ i : Nat,v6 = .int .i64 (i : Nat) ∧ i ≤ 1 ∧ Hid (Below V.heap.size V wx) ∧ Hid (∀ c ∈ (lvC 2).take i,s.c ≠ c)) (fun v6 _=>1 - (intOf v6).toNat)
  case atStart=>exact ⟨0,rfl,Nat.zero_le _,Below.refl _ _,fun c hc=>by simp at hc⟩
  case round =>
    obtain ⟨i,rfl,hi,HV,HN⟩:=hrel
    have bX:=HB.out.1.below HV.out
    have hRT:=RS.below HB.out.2.2 HV.out
    have HW : Hid (Below W.heap.size W wr):=HB.out.2.1.trans (HV.out.mono HB.out.2.1.size)
    have hcase : i = 0 ∨ i = 1:=by omega
    rcases hcase with rfl | rfl
    · have c0 : wr.cell? ⟨X,0,none⟩ = some (.string ⟨#[97,110,100]⟩):=bX.c 0 _ rfl
      have C:=see_n b m T s 31 (by decide) (by decide) wr hRT
      rw [show wds 31 = [97,110,100] from rfl] at C
      by_cases hc : s.c = 31
      · rw [decide_eq_true hc] at C
        have hT:=lv_yes s 2 (by decide) (by decide) 31 (by decide) hc
        rw [show wds 31 = [97,110,100] from rfl] at hT
        have HT : Hid (lvT s 2 = [97,110,100]):=hT
        clear HB HN hT hRT HV hc
        go_wp2_with (go_at_call 46;refine C.mono ?_;rintro e w3 ⟨rfl,hb3⟩;have c0:=(bX.below hb3).c 0 _ rfl)
        go_ret
        exact ⟨(by rw [HT.out];rfl),HW.out.trans (hb3.mono HW.out.size)⟩
      · rw [decide_eq_false hc] at C
        have HN2 : Hid (∀ c ∈ (lvC 2).take 1,s.c ≠ c):=fun c hcm=>by
          rw [show (lvC 2).take 1 = (lvC 2).take 0 ++ [31] from rfl] at hcm
          rcases List.mem_append.1 hcm with h | h
          · exact HN.out c h
          · rw [List.mem_singleton.1 h];exact hc
        have wi : IntKind.i64.wrap ((0 : Int) + 1) = (0 : Int) + 1:=by decide
        clear HB HN hRT hc
        go_wp2_with (go_at_call 46;refine C.mono ?_;rintro e w3 ⟨rfl,hb3⟩)
        go_round
        case rel=>exact ⟨1,by first | rfl | simp,by omega,HV.out.trans (hb3.mono HV.out.size),HN2⟩
        case measure=>first | omega | (simp only [intOf];omega) | (simp;omega) | decide
    · have HT : Hid (lvT s 2 = []):=lv_no s 2 (by decide) fun c hc=>HN.out c (by rw [show (lvC 2).take 1 = lvC 2 from rfl];exact hc)
      clear HB HN hRT HV
      go_wp2
      go_ret
      exact ⟨(by rw [HT.out];rfl),HW.out⟩
set_option maxHeartbeats 4000000 in
theorem rlevel3 (b m : Nat) (T : List Tok) (s : Sx) (W : World) (h : RT b m T s W) : Calls Tryz.prog 110 #[.pointer (some ⟨b,0,none⟩),.int .i64 3] W fun e w'=>e = .returned (.string ⟨(lvT s 3).toArray⟩) ∧ Below W.heap.size W w':=by
  have B0:=Bx.new (W.alloc (.cells #[.string ⟨#[111,114]⟩] 9)) 9 #[.string ⟨#[60]⟩,.string ⟨#[62]⟩,.string ⟨#[60,61]⟩,.string ⟨#[62,61]⟩,.string ⟨#[126,61]⟩,.string ⟨#[61,61]⟩]
  have K0 : Below W.heap.size W ((W.alloc (.cells #[.string ⟨#[111,114]⟩] 9)).alloc (.cells #[.string ⟨#[60]⟩,.string ⟨#[62]⟩,.string ⟨#[60,61]⟩,.string ⟨#[62,61]⟩,.string ⟨#[126,61]⟩,.string ⟨#[61,61]⟩] 9)):=((Below.refl _ W).alloc (Nat.le_refl _) _).alloc (by simp) _
  have e1 : (W.alloc (.cells #[.string ⟨#[111,114]⟩] 9)).heap.size = W.heap.size + 1:=by simp
  rw [e1] at B0
  obtain ⟨V,hV⟩ : ∃ V,(W.alloc (.cells #[.string ⟨#[111,114]⟩] 9)).alloc (.cells #[.string ⟨#[60]⟩,.string ⟨#[62]⟩,.string ⟨#[60,61]⟩,.string ⟨#[62,61]⟩,.string ⟨#[126,61]⟩,.string ⟨#[61,61]⟩] 9) = V:=⟨_,rfl⟩
  rw [hV] at B0 K0
  obtain ⟨X,hX⟩ : ∃ X,W.heap.size + 1 = X:=⟨_,rfl⟩
  rw [hX] at B0
  clear e1
  have HB : Hid (Bx X 9 #[.string ⟨#[60]⟩,.string ⟨#[62]⟩,.string ⟨#[60,61]⟩,.string ⟨#[62,61]⟩,.string ⟨#[126,61]⟩,.string ⟨#[61,61]⟩] V ∧ Below W.heap.size W V ∧ RT b m T s V):=⟨B0,K0,RS.below h K0⟩
  clear B0 K0
  go_enter Tryz.func110,Tryz.ntmps110
  go_wp2_with fail
  clear hV
  go_loopw [6] (fun v6 wx=>∃ i : Nat,v6 = .int .i64 (i : Nat) ∧ i ≤ 6 ∧ Hid (Below V.heap.size V wx) ∧ Hid (∀ c ∈ (lvC 3).take i,s.c ≠ c)) (fun v6 _=>6 - (intOf v6).toNat)
  case atStart=>exact ⟨0,rfl,Nat.zero_le _,Below.refl _ _,fun c hc=>by simp at hc⟩
  case round =>
    obtain ⟨i,rfl,hi,HV,HN⟩:=hrel
    have bX:=HB.out.1.below HV.out
    have hRT:=RS.below HB.out.2.2 HV.out
    have HW : Hid (Below W.heap.size W wr):=HB.out.2.1.trans (HV.out.mono HB.out.2.1.size)
    have hcase : i = 0 ∨ i = 1 ∨ i = 2 ∨ i = 3 ∨ i = 4 ∨ i = 5 ∨ i = 6:=by omega
    rcases hcase with rfl | rfl | rfl | rfl | rfl | rfl | rfl
    · have c0 : wr.cell? ⟨X,0,none⟩ = some (.string ⟨#[60]⟩):=bX.c 0 _ rfl
      have C:=see_n b m T s 32 (by decide) (by decide) wr hRT
      rw [show wds 32 = [60] from rfl] at C
      by_cases hc : s.c = 32
      · rw [decide_eq_true hc] at C
        have hT:=lv_yes s 3 (by decide) (by decide) 32 (by decide) hc
        rw [show wds 32 = [60] from rfl] at hT
        have HT : Hid (lvT s 3 = [60]):=hT
        clear HB HN hT hRT HV hc
        go_wp2_with (go_at_call 46;refine C.mono ?_;rintro e w3 ⟨rfl,hb3⟩;have c0:=(bX.below hb3).c 0 _ rfl)
        go_ret
        exact ⟨(by rw [HT.out];rfl),HW.out.trans (hb3.mono HW.out.size)⟩
      · rw [decide_eq_false hc] at C
        have HN2 : Hid (∀ c ∈ (lvC 3).take 1,s.c ≠ c):=fun c hcm=>by
          rw [show (lvC 3).take 1 = (lvC 3).take 0 ++ [32] from rfl] at hcm
          rcases List.mem_append.1 hcm with h | h
          · exact HN.out c h
          · rw [List.mem_singleton.1 h];exact hc
        have wi : IntKind.i64.wrap ((0 : Int) + 1) = (0 : Int) + 1:=by decide
        clear HB HN hRT hc
        go_wp2_with (go_at_call 46;refine C.mono ?_;rintro e w3 ⟨rfl,hb3⟩)
        go_round
        case rel=>exact ⟨1,by first | rfl | simp,by omega,HV.out.trans (hb3.mono HV.out.size),HN2⟩
        case measure=>first | omega | (simp only [intOf];omega) | (simp;omega) | decide
    · have c0 : wr.cell? ⟨X,1,none⟩ = some (.string ⟨#[62]⟩):=bX.c 1 _ rfl
      have C:=see_n b m T s 33 (by decide) (by decide) wr hRT
      rw [show wds 33 = [62] from rfl] at C
      by_cases hc : s.c = 33
      · rw [decide_eq_true hc] at C
        have hT:=lv_yes s 3 (by decide) (by decide) 33 (by decide) hc
        rw [show wds 33 = [62] from rfl] at hT
        have HT : Hid (lvT s 3 = [62]):=hT
        clear HB HN hT hRT HV hc
        go_wp2_with (go_at_call 46;refine C.mono ?_;rintro e w3 ⟨rfl,hb3⟩;have c0:=(bX.below hb3).c 1 _ rfl)
        go_ret
        exact ⟨(by rw [HT.out];rfl),HW.out.trans (hb3.mono HW.out.size)⟩
      · rw [decide_eq_false hc] at C
        have HN2 : Hid (∀ c ∈ (lvC 3).take 2,s.c ≠ c):=fun c hcm=>by
          rw [show (lvC 3).take 2 = (lvC 3).take 1 ++ [33] from rfl] at hcm
          rcases List.mem_append.1 hcm with h | h
          · exact HN.out c h
          · rw [List.mem_singleton.1 h];exact hc
        have wi : IntKind.i64.wrap ((1 : Int) + 1) = (1 : Int) + 1:=by decide
        clear HB HN hRT hc
        go_wp2_with (go_at_call 46;refine C.mono ?_;rintro e w3 ⟨rfl,hb3⟩)
        go_round
        case rel=>exact ⟨2,by first | rfl | simp,by omega,HV.out.trans (hb3.mono HV.out.size),HN2⟩
        case measure=>first | omega | (simp only [intOf];omega) | (simp;omega) | decide
    · have c0 : wr.cell? ⟨X,2,none⟩ = some (.string ⟨#[60,61]⟩):=bX.c 2 _ rfl
      have C:=see_n b m T s 34 (by decide) (by decide) wr hRT
      rw [show wds 34 = [60,61] from rfl] at C
      by_cases hc : s.c = 34
      · rw [decide_eq_true hc] at C
        have hT:=lv_yes s 3 (by decide) (by decide) 34 (by decide) hc
        rw [show wds 34 = [60,61] from rfl] at hT
        have HT : Hid (lvT s 3 = [60,61]):=hT
        clear HB HN hT hRT HV hc
        go_wp2_with (go_at_call 46;refine C.mono ?_;rintro e w3 ⟨rfl,hb3⟩;have c0:=(bX.below hb3).c 2 _ rfl)
        go_ret
        exact ⟨(by rw [HT.out];rfl),HW.out.trans (hb3.mono HW.out.size)⟩
      · rw [decide_eq_false hc] at C
        have HN2 : Hid (∀ c ∈ (lvC 3).take 3,s.c ≠ c):=fun c hcm=>by
          rw [show (lvC 3).take 3 = (lvC 3).take 2 ++ [34] from rfl] at hcm
          rcases List.mem_append.1 hcm with h | h
          · exact HN.out c h
          · rw [List.mem_singleton.1 h];exact hc
        have wi : IntKind.i64.wrap ((2 : Int) + 1) = (2 : Int) + 1:=by decide
        clear HB HN hRT hc
        go_wp2_with (go_at_call 46;refine C.mono ?_;rintro e w3 ⟨rfl,hb3⟩)
        go_round
        case rel=>exact ⟨3,by first | rfl | simp,by omega,HV.out.trans (hb3.mono HV.out.size),HN2⟩
        case measure=>first | omega | (simp only [intOf];omega) | (simp;omega) | decide
    · have c0 : wr.cell? ⟨X,3,none⟩ = some (.string ⟨#[62,61]⟩):=bX.c 3 _ rfl
      have C:=see_n b m T s 35 (by decide) (by decide) wr hRT
      rw [show wds 35 = [62,61] from rfl] at C
      by_cases hc : s.c = 35
      · rw [decide_eq_true hc] at C
        have hT:=lv_yes s 3 (by decide) (by decide) 35 (by decide) hc
        rw [show wds 35 = [62,61] from rfl] at hT
        have HT : Hid (lvT s 3 = [62,61]):=hT
        clear HB HN hT hRT HV hc
        go_wp2_with (go_at_call 46;refine C.mono ?_;rintro e w3 ⟨rfl,hb3⟩;have c0:=(bX.below hb3).c 3 _ rfl)
        go_ret
        exact ⟨(by rw [HT.out];rfl),HW.out.trans (hb3.mono HW.out.size)⟩
      · rw [decide_eq_false hc] at C
        have HN2 : Hid (∀ c ∈ (lvC 3).take 4,s.c ≠ c):=fun c hcm=>by
          rw [show (lvC 3).take 4 = (lvC 3).take 3 ++ [35] from rfl] at hcm
          rcases List.mem_append.1 hcm with h | h
          · exact HN.out c h
          · rw [List.mem_singleton.1 h];exact hc
        have wi : IntKind.i64.wrap ((3 : Int) + 1) = (3 : Int) + 1:=by decide
        clear HB HN hRT hc
        go_wp2_with (go_at_call 46;refine C.mono ?_;rintro e w3 ⟨rfl,hb3⟩)
        go_round
        case rel=>exact ⟨4,by first | rfl | simp,by omega,HV.out.trans (hb3.mono HV.out.size),HN2⟩
        case measure=>first | omega | (simp only [intOf];omega) | (simp;omega) | decide
    · have c0 : wr.cell? ⟨X,4,none⟩ = some (.string ⟨#[126,61]⟩):=bX.c 4 _ rfl
      have C:=see_n b m T s 36 (by decide) (by decide) wr hRT
      rw [show wds 36 = [126,61] from rfl] at C
      by_cases hc : s.c = 36
      · rw [decide_eq_true hc] at C
        have hT:=lv_yes s 3 (by decide) (by decide) 36 (by decide) hc
        rw [show wds 36 = [126,61] from rfl] at hT
        have HT : Hid (lvT s 3 = [126,61]):=hT
        clear HB HN hT hRT HV hc
        go_wp2_with (go_at_call 46;refine C.mono ?_;rintro e w3 ⟨rfl,hb3⟩;have c0:=(bX.below hb3).c 4 _ rfl)
        go_ret
        exact ⟨(by rw [HT.out];rfl),HW.out.trans (hb3.mono HW.out.size)⟩
      · rw [decide_eq_false hc] at C
        have HN2 : Hid (∀ c ∈ (lvC 3).take 5,s.c ≠ c):=fun c hcm=>by
          rw [show (lvC 3).take 5 = (lvC 3).take 4 ++ [36] from rfl] at hcm
          rcases List.mem_append.1 hcm with h | h
          · exact HN.out c h
          · rw [List.mem_singleton.1 h];exact hc
        have wi : IntKind.i64.wrap ((4 : Int) + 1) = (4 : Int) + 1:=by decide
        clear HB HN hRT hc
        go_wp2_with (go_at_call 46;refine C.mono ?_;rintro e w3 ⟨rfl,hb3⟩)
        go_round
        case rel=>exact ⟨5,by first | rfl | simp,by omega,HV.out.trans (hb3.mono HV.out.size),HN2⟩
        case measure=>first | omega | (simp only [intOf];omega) | (simp;omega) | decide
    · have c0 : wr.cell? ⟨X,5,none⟩ = some (.string ⟨#[61,61]⟩):=bX.c 5 _ rfl
      have C:=see_n b m T s 37 (by decide) (by decide) wr hRT
      rw [show wds 37 = [61,61] from rfl] at C
      by_cases hc : s.c = 37
      · rw [decide_eq_true hc] at C
        have hT:=lv_yes s 3 (by decide) (by decide) 37 (by decide) hc
        rw [show wds 37 = [61,61] from rfl] at hT
        have HT : Hid (lvT s 3 = [61,61]):=hT
        clear HB HN hT hRT HV hc
        go_wp2_with (go_at_call 46;refine C.mono ?_;rintro e w3 ⟨rfl,hb3⟩;have c0:=(bX.below hb3).c 5 _ rfl)
        go_ret
        exact ⟨(by rw [HT.out];rfl),HW.out.trans (hb3.mono HW.out.size)⟩
      · rw [decide_eq_false hc] at C
        have HN2 : Hid (∀ c ∈ (lvC 3).take 6,s.c ≠ c):=fun c hcm=>by
          rw [show (lvC 3).take 6 = (lvC 3).take 5 ++ [37] from rfl] at hcm
          rcases List.mem_append.1 hcm with h | h
          · exact HN.out c h
          · rw [List.mem_singleton.1 h];exact hc
        have wi : IntKind.i64.wrap ((5 : Int) + 1) = (5 : Int) + 1:=by decide
        clear HB HN hRT hc
        go_wp2_with (go_at_call 46;refine C.mono ?_;rintro e w3 ⟨rfl,hb3⟩)
        go_round
        case rel=>exact ⟨6,by first | rfl | simp,by omega,HV.out.trans (hb3.mono HV.out.size),HN2⟩
        case measure=>first | omega | (simp only [intOf];omega) | (simp;omega) | decide
    · have HT : Hid (lvT s 3 = []):=lv_no s 3 (by decide) fun c hc=>HN.out c (by rw [show (lvC 3).take 6 = lvC 3 from rfl];exact hc)
      clear HB HN hRT HV
      go_wp2
      go_ret
      exact ⟨(by rw [HT.out];rfl),HW.out⟩
set_option maxHeartbeats 4000000 in
theorem rlevel4 (b m : Nat) (T : List Tok) (s : Sx) (W : World) (h : RT b m T s W) : Calls Tryz.prog 110 #[.pointer (some ⟨b,0,none⟩),.int .i64 4] W fun e w'=>e = .returned (.string ⟨(lvT s 4).toArray⟩) ∧ Below W.heap.size W w':=by
  have B0:=Bx.new (W.alloc (.cells #[.string ⟨#[111,114]⟩] 9)) 9 #[.string ⟨#[46,46]⟩]
  have K0 : Below W.heap.size W ((W.alloc (.cells #[.string ⟨#[111,114]⟩] 9)).alloc (.cells #[.string ⟨#[46,46]⟩] 9)):=((Below.refl _ W).alloc (Nat.le_refl _) _).alloc (by simp) _
  have e1 : (W.alloc (.cells #[.string ⟨#[111,114]⟩] 9)).heap.size = W.heap.size + 1:=by simp
  rw [e1] at B0
  obtain ⟨V,hV⟩ : ∃ V,(W.alloc (.cells #[.string ⟨#[111,114]⟩] 9)).alloc (.cells #[.string ⟨#[46,46]⟩] 9) = V:=⟨_,rfl⟩
  rw [hV] at B0 K0
  obtain ⟨X,hX⟩ : ∃ X,W.heap.size + 1 = X:=⟨_,rfl⟩
  rw [hX] at B0
  clear e1
  have HB : Hid (Bx X 9 #[.string ⟨#[46,46]⟩] V ∧ Below W.heap.size W V ∧ RT b m T s V):=⟨B0,K0,RS.below h K0⟩
  clear B0 K0
  go_enter Tryz.func110,Tryz.ntmps110
  go_wp2_with fail
  clear hV
  go_loopw [6] (fun v6 wx=>∃ i : Nat,v6 = .int .i64 (i : Nat) ∧ i ≤ 1 ∧ Hid (Below V.heap.size V wx) ∧ Hid (∀ c ∈ (lvC 4).take i,s.c ≠ c)) (fun v6 _=>1 - (intOf v6).toNat)
  case atStart=>exact ⟨0,rfl,Nat.zero_le _,Below.refl _ _,fun c hc=>by simp at hc⟩
  case round =>
    obtain ⟨i,rfl,hi,HV,HN⟩:=hrel
    have bX:=HB.out.1.below HV.out
    have hRT:=RS.below HB.out.2.2 HV.out
    have HW : Hid (Below W.heap.size W wr):=HB.out.2.1.trans (HV.out.mono HB.out.2.1.size)
    have hcase : i = 0 ∨ i = 1:=by omega
    rcases hcase with rfl | rfl
    · have c0 : wr.cell? ⟨X,0,none⟩ = some (.string ⟨#[46,46]⟩):=bX.c 0 _ rfl
      have C:=see_n b m T s 38 (by decide) (by decide) wr hRT
      rw [show wds 38 = [46,46] from rfl] at C
      by_cases hc : s.c = 38
      · rw [decide_eq_true hc] at C
        have hT:=lv_yes s 4 (by decide) (by decide) 38 (by decide) hc
        rw [show wds 38 = [46,46] from rfl] at hT
        have HT : Hid (lvT s 4 = [46,46]):=hT
        clear HB HN hT hRT HV hc
        go_wp2_with (go_at_call 46;refine C.mono ?_;rintro e w3 ⟨rfl,hb3⟩;have c0:=(bX.below hb3).c 0 _ rfl)
        go_ret
        exact ⟨(by rw [HT.out];rfl),HW.out.trans (hb3.mono HW.out.size)⟩
      · rw [decide_eq_false hc] at C
        have HN2 : Hid (∀ c ∈ (lvC 4).take 1,s.c ≠ c):=fun c hcm=>by
          rw [show (lvC 4).take 1 = (lvC 4).take 0 ++ [38] from rfl] at hcm
          rcases List.mem_append.1 hcm with h | h
          · exact HN.out c h
          · rw [List.mem_singleton.1 h];exact hc
        have wi : IntKind.i64.wrap ((0 : Int) + 1) = (0 : Int) + 1:=by decide
        clear HB HN hRT hc
        go_wp2_with (go_at_call 46;refine C.mono ?_;rintro e w3 ⟨rfl,hb3⟩)
        go_round
        case rel=>exact ⟨1,by first | rfl | simp,by omega,HV.out.trans (hb3.mono HV.out.size),HN2⟩
        case measure=>first | omega | (simp only [intOf];omega) | (simp;omega) | decide
    · have HT : Hid (lvT s 4 = []):=lv_no s 4 (by decide) fun c hc=>HN.out c (by rw [show (lvC 4).take 1 = lvC 4 from rfl];exact hc)
      clear HB HN hRT HV
      go_wp2
      go_ret
      exact ⟨(by rw [HT.out];rfl),HW.out⟩
set_option maxHeartbeats 4000000 in
theorem rlevel5 (b m : Nat) (T : List Tok) (s : Sx) (W : World) (h : RT b m T s W) : Calls Tryz.prog 110 #[.pointer (some ⟨b,0,none⟩),.int .i64 5] W fun e w'=>e = .returned (.string ⟨(lvT s 5).toArray⟩) ∧ Below W.heap.size W w':=by
  have B0:=Bx.new (W.alloc (.cells #[.string ⟨#[111,114]⟩] 9)) 9 #[.string ⟨#[43]⟩,.string ⟨#[45]⟩]
  have K0 : Below W.heap.size W ((W.alloc (.cells #[.string ⟨#[111,114]⟩] 9)).alloc (.cells #[.string ⟨#[43]⟩,.string ⟨#[45]⟩] 9)):=((Below.refl _ W).alloc (Nat.le_refl _) _).alloc (by simp) _
  have e1 : (W.alloc (.cells #[.string ⟨#[111,114]⟩] 9)).heap.size = W.heap.size + 1:=by simp
  rw [e1] at B0
  obtain ⟨V,hV⟩ : ∃ V,(W.alloc (.cells #[.string ⟨#[111,114]⟩] 9)).alloc (.cells #[.string ⟨#[43]⟩,.string ⟨#[45]⟩] 9) = V:=⟨_,rfl⟩
  rw [hV] at B0 K0
  obtain ⟨X,hX⟩ : ∃ X,W.heap.size + 1 = X:=⟨_,rfl⟩
  rw [hX] at B0
  clear e1
  have HB : Hid (Bx X 9 #[.string ⟨#[43]⟩,.string ⟨#[45]⟩] V ∧ Below W.heap.size W V ∧ RT b m T s V):=⟨B0,K0,RS.below h K0⟩
  clear B0 K0
  go_enter Tryz.func110,Tryz.ntmps110
  go_wp2_with fail
  clear hV
  go_loopw [6] (fun v6 wx=>∃ i : Nat,v6 = .int .i64 (i : Nat) ∧ i ≤ 2 ∧ Hid (Below V.heap.size V wx) ∧ Hid (∀ c ∈ (lvC 5).take i,s.c ≠ c)) (fun v6 _=>2 - (intOf v6).toNat)
  case atStart=>exact ⟨0,rfl,Nat.zero_le _,Below.refl _ _,fun c hc=>by simp at hc⟩
  case round =>
    obtain ⟨i,rfl,hi,HV,HN⟩:=hrel
    have bX:=HB.out.1.below HV.out
    have hRT:=RS.below HB.out.2.2 HV.out
    have HW : Hid (Below W.heap.size W wr):=HB.out.2.1.trans (HV.out.mono HB.out.2.1.size)
    have hcase : i = 0 ∨ i = 1 ∨ i = 2:=by omega
    rcases hcase with rfl | rfl | rfl
    · have c0 : wr.cell? ⟨X,0,none⟩ = some (.string ⟨#[43]⟩):=bX.c 0 _ rfl
      have C:=see_n b m T s 39 (by decide) (by decide) wr hRT
      rw [show wds 39 = [43] from rfl] at C
      by_cases hc : s.c = 39
      · rw [decide_eq_true hc] at C
        have hT:=lv_yes s 5 (by decide) (by decide) 39 (by decide) hc
        rw [show wds 39 = [43] from rfl] at hT
        have HT : Hid (lvT s 5 = [43]):=hT
        clear HB HN hT hRT HV hc
        go_wp2_with (go_at_call 46;refine C.mono ?_;rintro e w3 ⟨rfl,hb3⟩;have c0:=(bX.below hb3).c 0 _ rfl)
        go_ret
        exact ⟨(by rw [HT.out];rfl),HW.out.trans (hb3.mono HW.out.size)⟩
      · rw [decide_eq_false hc] at C
        have HN2 : Hid (∀ c ∈ (lvC 5).take 1,s.c ≠ c):=fun c hcm=>by
          rw [show (lvC 5).take 1 = (lvC 5).take 0 ++ [39] from rfl] at hcm
          rcases List.mem_append.1 hcm with h | h
          · exact HN.out c h
          · rw [List.mem_singleton.1 h];exact hc
        have wi : IntKind.i64.wrap ((0 : Int) + 1) = (0 : Int) + 1:=by decide
        clear HB HN hRT hc
        go_wp2_with (go_at_call 46;refine C.mono ?_;rintro e w3 ⟨rfl,hb3⟩)
        go_round
        case rel=>exact ⟨1,by first | rfl | simp,by omega,HV.out.trans (hb3.mono HV.out.size),HN2⟩
        case measure=>first | omega | (simp only [intOf];omega) | (simp;omega) | decide
    · have c0 : wr.cell? ⟨X,1,none⟩ = some (.string ⟨#[45]⟩):=bX.c 1 _ rfl
      have C:=see_n b m T s 26 (by decide) (by decide) wr hRT
      rw [show wds 26 = [45] from rfl] at C
      by_cases hc : s.c = 26
      · rw [decide_eq_true hc] at C
        have hT:=lv_yes s 5 (by decide) (by decide) 26 (by decide) hc
        rw [show wds 26 = [45] from rfl] at hT
        have HT : Hid (lvT s 5 = [45]):=hT
        clear HB HN hT hRT HV hc
        go_wp2_with (go_at_call 46;refine C.mono ?_;rintro e w3 ⟨rfl,hb3⟩;have c0:=(bX.below hb3).c 1 _ rfl)
        go_ret
        exact ⟨(by rw [HT.out];rfl),HW.out.trans (hb3.mono HW.out.size)⟩
      · rw [decide_eq_false hc] at C
        have HN2 : Hid (∀ c ∈ (lvC 5).take 2,s.c ≠ c):=fun c hcm=>by
          rw [show (lvC 5).take 2 = (lvC 5).take 1 ++ [26] from rfl] at hcm
          rcases List.mem_append.1 hcm with h | h
          · exact HN.out c h
          · rw [List.mem_singleton.1 h];exact hc
        have wi : IntKind.i64.wrap ((1 : Int) + 1) = (1 : Int) + 1:=by decide
        clear HB HN hRT hc
        go_wp2_with (go_at_call 46;refine C.mono ?_;rintro e w3 ⟨rfl,hb3⟩)
        go_round
        case rel=>exact ⟨2,by first | rfl | simp,by omega,HV.out.trans (hb3.mono HV.out.size),HN2⟩
        case measure=>first | omega | (simp only [intOf];omega) | (simp;omega) | decide
    · have HT : Hid (lvT s 5 = []):=lv_no s 5 (by decide) fun c hc=>HN.out c (by rw [show (lvC 5).take 2 = lvC 5 from rfl];exact hc)
      clear HB HN hRT HV
      go_wp2
      go_ret
      exact ⟨(by rw [HT.out];rfl),HW.out⟩
set_option maxHeartbeats 4000000 in
theorem rlevel6 (b m : Nat) (T : List Tok) (s : Sx) (W : World) (h : RT b m T s W) : Calls Tryz.prog 110 #[.pointer (some ⟨b,0,none⟩),.int .i64 6] W fun e w'=>e = .returned (.string ⟨(lvT s 6).toArray⟩) ∧ Below W.heap.size W w':=by
  have B0:=Bx.new (W.alloc (.cells #[.string ⟨#[111,114]⟩] 9)) 9 #[.string ⟨#[42]⟩,.string ⟨#[47,47]⟩,.string ⟨#[37]⟩]
  have K0 : Below W.heap.size W ((W.alloc (.cells #[.string ⟨#[111,114]⟩] 9)).alloc (.cells #[.string ⟨#[42]⟩,.string ⟨#[47,47]⟩,.string ⟨#[37]⟩] 9)):=((Below.refl _ W).alloc (Nat.le_refl _) _).alloc (by simp) _
  have e1 : (W.alloc (.cells #[.string ⟨#[111,114]⟩] 9)).heap.size = W.heap.size + 1:=by simp
  rw [e1] at B0
  obtain ⟨V,hV⟩ : ∃ V,(W.alloc (.cells #[.string ⟨#[111,114]⟩] 9)).alloc (.cells #[.string ⟨#[42]⟩,.string ⟨#[47,47]⟩,.string ⟨#[37]⟩] 9) = V:=⟨_,rfl⟩
  rw [hV] at B0 K0
  obtain ⟨X,hX⟩ : ∃ X,W.heap.size + 1 = X:=⟨_,rfl⟩
  rw [hX] at B0
  clear e1
  have HB : Hid (Bx X 9 #[.string ⟨#[42]⟩,.string ⟨#[47,47]⟩,.string ⟨#[37]⟩] V ∧ Below W.heap.size W V ∧ RT b m T s V):=⟨B0,K0,RS.below h K0⟩
  clear B0 K0
  go_enter Tryz.func110,Tryz.ntmps110
  go_wp2_with fail
  clear hV
  go_loopw [6] (fun v6 wx=>∃ i : Nat,v6 = .int .i64 (i : Nat) ∧ i ≤ 3 ∧ Hid (Below V.heap.size V wx) ∧ Hid (∀ c ∈ (lvC 6).take i,s.c ≠ c)) (fun v6 _=>3 - (intOf v6).toNat)
  case atStart=>exact ⟨0,rfl,Nat.zero_le _,Below.refl _ _,fun c hc=>by simp at hc⟩
  case round =>
    obtain ⟨i,rfl,hi,HV,HN⟩:=hrel
    have bX:=HB.out.1.below HV.out
    have hRT:=RS.below HB.out.2.2 HV.out
    have HW : Hid (Below W.heap.size W wr):=HB.out.2.1.trans (HV.out.mono HB.out.2.1.size)
    have hcase : i = 0 ∨ i = 1 ∨ i = 2 ∨ i = 3:=by omega
    rcases hcase with rfl | rfl | rfl | rfl
    · have c0 : wr.cell? ⟨X,0,none⟩ = some (.string ⟨#[42]⟩):=bX.c 0 _ rfl
      have C:=see_n b m T s 40 (by decide) (by decide) wr hRT
      rw [show wds 40 = [42] from rfl] at C
      by_cases hc : s.c = 40
      · rw [decide_eq_true hc] at C
        have hT:=lv_yes s 6 (by decide) (by decide) 40 (by decide) hc
        rw [show wds 40 = [42] from rfl] at hT
        have HT : Hid (lvT s 6 = [42]):=hT
        clear HB HN hT hRT HV hc
        go_wp2_with (go_at_call 46;refine C.mono ?_;rintro e w3 ⟨rfl,hb3⟩;have c0:=(bX.below hb3).c 0 _ rfl)
        go_ret
        exact ⟨(by rw [HT.out];rfl),HW.out.trans (hb3.mono HW.out.size)⟩
      · rw [decide_eq_false hc] at C
        have HN2 : Hid (∀ c ∈ (lvC 6).take 1,s.c ≠ c):=fun c hcm=>by
          rw [show (lvC 6).take 1 = (lvC 6).take 0 ++ [40] from rfl] at hcm
          rcases List.mem_append.1 hcm with h | h
          · exact HN.out c h
          · rw [List.mem_singleton.1 h];exact hc
        have wi : IntKind.i64.wrap ((0 : Int) + 1) = (0 : Int) + 1:=by decide
        clear HB HN hRT hc
        go_wp2_with (go_at_call 46;refine C.mono ?_;rintro e w3 ⟨rfl,hb3⟩)
        go_round
        case rel=>exact ⟨1,by first | rfl | simp,by omega,HV.out.trans (hb3.mono HV.out.size),HN2⟩
        case measure=>first | omega | (simp only [intOf];omega) | (simp;omega) | decide
    · have c0 : wr.cell? ⟨X,1,none⟩ = some (.string ⟨#[47,47]⟩):=bX.c 1 _ rfl
      have C:=see_n b m T s 41 (by decide) (by decide) wr hRT
      rw [show wds 41 = [47,47] from rfl] at C
      by_cases hc : s.c = 41
      · rw [decide_eq_true hc] at C
        have hT:=lv_yes s 6 (by decide) (by decide) 41 (by decide) hc
        rw [show wds 41 = [47,47] from rfl] at hT
        have HT : Hid (lvT s 6 = [47,47]):=hT
        clear HB HN hT hRT HV hc
        go_wp2_with (go_at_call 46;refine C.mono ?_;rintro e w3 ⟨rfl,hb3⟩;have c0:=(bX.below hb3).c 1 _ rfl)
        go_ret
        exact ⟨(by rw [HT.out];rfl),HW.out.trans (hb3.mono HW.out.size)⟩
      · rw [decide_eq_false hc] at C
        have HN2 : Hid (∀ c ∈ (lvC 6).take 2,s.c ≠ c):=fun c hcm=>by
          rw [show (lvC 6).take 2 = (lvC 6).take 1 ++ [41] from rfl] at hcm
          rcases List.mem_append.1 hcm with h | h
          · exact HN.out c h
          · rw [List.mem_singleton.1 h];exact hc
        have wi : IntKind.i64.wrap ((1 : Int) + 1) = (1 : Int) + 1:=by decide
        clear HB HN hRT hc
        go_wp2_with (go_at_call 46;refine C.mono ?_;rintro e w3 ⟨rfl,hb3⟩)
        go_round
        case rel=>exact ⟨2,by first | rfl | simp,by omega,HV.out.trans (hb3.mono HV.out.size),HN2⟩
        case measure=>first | omega | (simp only [intOf];omega) | (simp;omega) | decide
    · have c0 : wr.cell? ⟨X,2,none⟩ = some (.string ⟨#[37]⟩):=bX.c 2 _ rfl
      have C:=see_n b m T s 42 (by decide) (by decide) wr hRT
      rw [show wds 42 = [37] from rfl] at C
      by_cases hc : s.c = 42
      · rw [decide_eq_true hc] at C
        have hT:=lv_yes s 6 (by decide) (by decide) 42 (by decide) hc
        rw [show wds 42 = [37] from rfl] at hT
        have HT : Hid (lvT s 6 = [37]):=hT
        clear HB HN hT hRT HV hc
        go_wp2_with (go_at_call 46;refine C.mono ?_;rintro e w3 ⟨rfl,hb3⟩;have c0:=(bX.below hb3).c 2 _ rfl)
        go_ret
        exact ⟨(by rw [HT.out];rfl),HW.out.trans (hb3.mono HW.out.size)⟩
      · rw [decide_eq_false hc] at C
        have HN2 : Hid (∀ c ∈ (lvC 6).take 3,s.c ≠ c):=fun c hcm=>by
          rw [show (lvC 6).take 3 = (lvC 6).take 2 ++ [42] from rfl] at hcm
          rcases List.mem_append.1 hcm with h | h
          · exact HN.out c h
          · rw [List.mem_singleton.1 h];exact hc
        have wi : IntKind.i64.wrap ((2 : Int) + 1) = (2 : Int) + 1:=by decide
        clear HB HN hRT hc
        go_wp2_with (go_at_call 46;refine C.mono ?_;rintro e w3 ⟨rfl,hb3⟩)
        go_round
        case rel=>exact ⟨3,by first | rfl | simp,by omega,HV.out.trans (hb3.mono HV.out.size),HN2⟩
        case measure=>first | omega | (simp only [intOf];omega) | (simp;omega) | decide
    · have HT : Hid (lvT s 6 = []):=lv_no s 6 (by decide) fun c hc=>HN.out c (by rw [show (lvC 6).take 3 = lvC 6 from rfl];exact hc)
      clear HB HN hRT HV
      go_wp2
      go_ret
      exact ⟨(by rw [HT.out];rfl),HW.out⟩
end Go.Proofs.YtlgkfhipobdcfaaGreatDoor


namespace Go.Proofs.YtlgkfhipobdcfaaGreatDoor
open Go.RowKit
set_option maxRecDepth 20000
theorem rlevel_any (b m : Nat) (T : List Tok) (s : Sx) (k : Nat) (h1 : 1 ≤ k) (h6 : k ≤ 6) (W : World) (h : RT b m T s W) : Calls Tryz.prog 110 #[.pointer (some ⟨b,0,none⟩),.int .i64 k] W fun e w'=>e = .returned (.string ⟨(lvT s k).toArray⟩) ∧ Below W.heap.size W w':=by
  have : k = 1 ∨ k = 2 ∨ k = 3 ∨ k = 4 ∨ k = 5 ∨ k = 6:=by omega
  rcases this with rfl | rfl | rfl | rfl | rfl | rfl
  · exact rlevel1 b m T s W h
  · exact rlevel2 b m T s W h
  · exact rlevel3 b m T s W h
  · exact rlevel4 b m T s W h
  · exact rlevel5 b m T s W h
  · exact rlevel6 b m T s W h
structure Lr (b m : Nat) (T : List Tok) (s : Sx) (W : World) (X : Nat) (k : Int) (t : List UInt8) (n p : Int) (v : Value) (ks : F) (w : World) : Prop where
  tk : Tt b m T s W w
  res : Bx W.heap.size 32 #[.int .i64 0,.string ⟨#[]⟩,.int .i64 0,.int .i64 0,.slice none 0 0] w
  box : Bx X 32 #[.int .i64 k,.string ⟨t.toArray⟩,.int .i64 n,.int .i64 p,v] w
  tn : TN 32 w (fun g=>W.heap.size < g ∧ g ≠ X) k t n p v ks
  lt : b < W.heap.size ∧ m ≤ W.heap.size ∧ W.heap.size < X
section
variable {b m : Nat} {T : List Tok} {s s' : Sx} {W : World} {X : Nat} {k : Int} {t : List UInt8} {n p : Int} {v : Value} {ks : F} {w w' : World}
theorem Lr.below (h : Lr b m T s W X k t n p v ks w) (hb : Below w.heap.size w w') : Lr b m T s W X k t n p v ks w':=⟨Tr.below h.tk hb,h.res.below hb,h.box.below hb,h.tn.below hb,h.lt⟩
theorem Lr.alloc (h : Lr b m T s W X k t n p v ks w) (o : Obj) : Lr b m T s W X k t n p v ks (w.alloc o):=⟨Tr.alloc h.tk o,h.res.alloc o,h.box.alloc o,h.tn.alloc o,h.lt⟩
theorem Lr.took (h : Lr b m T s W X k t n p v ks w) (hT : Tt b m T s' w w') : Lr b m T s' W X k t n p v ks w':=by
  have hlt:=h.lt
  exact ⟨Tr.trans h.tk hT,h.res.ky hT.ky (by omega),h.box.ky hT.ky (by omega),h.tn.ky hT.ky (by omega),h.lt⟩
theorem Lr.five {Y : Nat} (h : Lr b m T s W X k t n p v ks w) (hY : W.heap.size < Y) (hXY : X ≠ Y) (hP : TN 32 w (fun g=>W.heap.size < g ∧ g ≠ X ∧ g ≠ Y) k t n p v ks) (u0 u1 u2 u3 u4 : Value) : Lr b m T s W X k t n p v ks (((((w.setCell ⟨Y,0,none⟩ u0).setCell ⟨Y,1,none⟩ u1).setCell ⟨Y,2,none⟩ u2).setCell ⟨Y,3,none⟩ u3).setCell ⟨Y,4,none⟩ u4):=by
  have hlt:=h.lt
  exact ⟨Tr.five h.tk (by omega) hlt.2.1 _ _ _ _ _,h.res.five_set (by omega) _ _ _ _ _,h.box.five_set hXY _ _ _ _ _,(hP.five (X:=Y) (by omega) _ _ _ _ _).mono fun g hg _=>⟨hg.1,hg.2.1⟩,h.lt⟩
theorem Lr.put {k' : Int} {t' : List UInt8} {n' p' : Int} {v' : Value} {ks' : F} (h : Lr b m T s W X k t n p v ks w) (ht : TN 32 w (fun g=>W.heap.size < g ∧ g ≠ X) k' t' n' p' v' ks') :
    Lr b m T s W X k' t' n' p' v' ks' (((((w.setCell ⟨X,0,none⟩ (.int .i64 k')).setCell ⟨X,1,none⟩ (.string ⟨t'.toArray⟩)).setCell ⟨X,2,none⟩ (.int .i64 n')).setCell ⟨X,3,none⟩ (.int .i64 p')).setCell ⟨X,4,none⟩ v'):=by
  have hlt:=h.lt
  exact ⟨Tr.five h.tk (by omega) hlt.2.1 _ _ _ _ _,h.res.five_set (by omega) _ _ _ _ _,h.box.five_put _ _ _ _ _,ht.five (by omega) _ _ _ _ _,h.lt⟩
end
theorem RT.inc {b m : Nat} {T : List Tok} {s : Sx} {W : World} (h : RT b m T s W) (hc : s.c ≠ 56) : ∃ i : Nat,W.cell? ⟨b,1,none⟩ = some (.int .i64 i) ∧ W.frozen? ⟨b,1,none⟩ = false ∧ IntKind.i64.wrap ((i : Int) + 1) = (i : Int) + 1 ∧ Tt b m T s.tl W (W.setCell ⟨b,1,none⟩ (.int .i64 ((i : Int) + 1))):=by
  obtain ⟨-,-,i,-,-,-,-,hi,-,-,-,-,-,g2,-⟩:=(RT.cons h).readsA
  obtain ⟨_,hcc⟩:=Sx.c_lt hc
  exact ⟨i,g2,h.ps.fz,by rw [IntKind.wrap_i64];omega,(RT.cons h).next (by rw [← hcc];exact hc) g2,(Ky.refl _ _).setP _⟩
set_option maxHeartbeats 4000000 in
theorem rexp_f (b m : Nat) (T : List Tok) (s : Sx) (k : Nat) (hf : 0 ≤ s.f) (W : World) (h : RT b m T s W) : Calls Tryz.prog 72 #[.pointer (some ⟨b,0,none⟩),.int .i64 k] W (RN b m T W s noF):=by
  have hlt:=RT.lt h
  have B0:=Bx.new W 32 #[.int .i64 0,.string ⟨#[]⟩,.int .i64 0,.int .i64 0,.slice none 0 0]
  have T0:=Tr.alloc (RS.tr h) (.cells #[.int .i64 0,.string ⟨#[]⟩,.int .i64 0,.int .i64 0,.slice none 0 0] 32)
  obtain ⟨A,hA⟩ : ∃ A,W.alloc (.cells #[.int .i64 0,.string ⟨#[]⟩,.int .i64 0,.int .i64 0,.slice none 0 0] 32) = A:=⟨_,rfl⟩
  rw [hA] at B0 T0
  have f2:=T0.rs.fl
  obtain ⟨q0,q1,q2,q3,q4⟩:=B0.five
  obtain ⟨m0,m1,m2,m3,m4⟩:=B0.frozen5
  have HT0 : Hid (Tt b m T s W A):=T0
  have HB : Hid (Bx W.heap.size 32 #[.int .i64 0,.string ⟨#[]⟩,.int .i64 0,.int .i64 0,.slice none 0 0] A):=B0
  clear T0 B0
  go_enter Tryz.func72,Tryz.ntmps72
  go_wp2
  obtain ⟨x0,x1,x2,x3,x4⟩:=(HB.out.five_put (.int .i64 0) (.string ⟨#[]⟩) (.int .i64 0) (.int .i64 0) (.slice none 0 0)).five
  refine bodyPost_ret (v:=(.agg #[.int .i64 (0),.string ⟨#[]⟩,.int .i64 (0),.int .i64 (0),.slice none 0 0])) (by simp [results,Tryz.results72,go_sem,x0,x1,x2,x3,x4]) rfl ?_
  exact ⟨0,[],0,0,none,0,.nil,rfl,rfl,TN.leaf 32 _ _ 0 [] 0 0,Tr.five HT0.out (Nat.le_refl _) hlt.2 _ _ _ _ _⟩
set_option maxHeartbeats 4000000 in
theorem rexp_7 (b m : Nat) (T : List Tok) (s : Sx) (f : F) (s' : Sx) (hf : s.f < 0) (C : ∀ W,RT b m T s W → Calls Tryz.prog 109 #[.pointer (some ⟨b,0,none⟩)] W (RN b m T W s' f)) (W : World) (h : RT b m T s W) : Calls Tryz.prog 72 #[.pointer (some ⟨b,0,none⟩),.int .i64 (7 : Nat)] W (RN b m T W s' f):=by
  have hlt:=RT.lt h
  have hbW : W.heap.size ≠ b:=by omega
  have B0:=Bx.new W 32 #[.int .i64 0,.string ⟨#[]⟩,.int .i64 0,.int .i64 0,.slice none 0 0]
  have T0:=Tr.alloc (RS.tr h) (.cells #[.int .i64 0,.string ⟨#[]⟩,.int .i64 0,.int .i64 0,.slice none 0 0] 32)
  obtain ⟨A,hA⟩ : ∃ A,W.alloc (.cells #[.int .i64 0,.string ⟨#[]⟩,.int .i64 0,.int .i64 0,.slice none 0 0] 32) = A:=⟨_,rfl⟩
  have hAs : (W.alloc (.cells #[.int .i64 0,.string ⟨#[]⟩,.int .i64 0,.int .i64 0,.slice none 0 0] 32)).heap.size = W.heap.size + 1:=by simp
  rw [hA] at B0 T0 hAs
  have f2:=T0.rs.fl
  have C1:=C A T0.rs
  have hf' : ¬ 0 ≤ s.f:=by omega
  clear C
  go_enter Tryz.func72,Tryz.ntmps72
  go_wp2_with (go_at_call 109;refine C1.mono ?_;rintro e w1 ⟨k,t,n,p,a1,c1,ks,e1,rfl,hTN,hT⟩;have B1:=B0.ky hT.ky hbW;obtain ⟨q0,q1,q2,q3,q4⟩:=B1.five;obtain ⟨m0,m1,m2,m3,m4⟩:=B1.frozen5)
  obtain ⟨x0,x1,x2,x3,x4⟩:=(B1.five_put (.int .i64 k) (.string ⟨t.toArray⟩) (.int .i64 n) (.int .i64 p) (.slice a1 ks.len c1)).five
  refine bodyPost_ret (v:=(.agg #[.int .i64 (k),.string ⟨(t).toArray⟩,.int .i64 (n),.int .i64 (p),.slice a1 ks.len c1])) (by simp [results,Tryz.results72,go_sem,x0,x1,x2,x3,x4]) rfl ?_
  refine ⟨k,t,n,p,a1,c1,ks,e1,rfl,?_,Tr.five (Tr.trans T0 hT) (Nat.le_refl _) hlt.2 _ _ _ _ _⟩
  exact (TN.five (X:=W.heap.size) hTN (by rw [hAs];omega) _ _ _ _ _).mono fun g hg _=>by rw [hAs] at hg;omega
end Go.Proofs.YtlgkfhipobdcfaaGreatDoor


namespace Go.Proofs.YtlgkfhipobdcfaaGreatDoor
open Go.RowKit
set_option maxRecDepth 20000
theorem enters47 : ∀ args w,(callFunc 47 args).run Tryz.prog w = .ok (.enter 47 args) w:=enters_of Tryz.func47 (by kernel_rfl) rfl
theorem enters72 : ∀ args w,(callFunc 72 args).run Tryz.prog w = .ok (.enter 72 args) w:=enters_of Tryz.func72 (by kernel_rfl) rfl
theorem Lr.drew {b m : Nat} {T : List Tok} {s : Sx} {W : World} {X : Nat} {k : Int} {t : List UInt8} {n p : Int} {v : Value} {ks : F} {w : World} (h : Lr b m T s W X k t n p v ks w) : Lr b m T s W X k t n p v ks w.drew:=⟨Tr.drew h.tk,h.res.drew,h.box.drew,h.tn.keep fun _ _ _=>rfl,h.lt⟩
structure Lk (b m : Nat) (T : List Tok) (s : Sx) (W : World) (X : Nat) (k : Int) (t : List UInt8) (n p : Int) (a : Option Addr) (c : Nat) (f : F) (w : World) : Prop where
  tk : Tt b m T s W w
  res : Bx W.heap.size 32 #[.int .i64 0,.string ⟨#[]⟩,.int .i64 0,.int .i64 0,.slice none 0 0] w
  box : Bx X 32 #[.int .i64 k,.string ⟨t.toArray⟩,.int .i64 n,.int .i64 p,.slice a f.len c] w
  kl : KL 32 (fun g=>W.heap.size < g ∧ g ≠ X) w (.slice a f.len c) f
  lt : b < W.heap.size ∧ m ≤ W.heap.size ∧ W.heap.size < X
section
variable {b m : Nat} {T : List Tok} {s s' : Sx} {W : World} {X : Nat} {k : Int} {t : List UInt8} {n p : Int} {a : Option Addr} {c : Nat} {f : F} {w w' : World}
theorem Lk.lr (h : Lk b m T s W X k t n p a c f w) : Lr b m T s W X k t n p (.slice a f.len c) f w:=⟨h.tk,h.res,h.box,h.kl.node k t n p,h.lt⟩
theorem Lk.below (h : Lk b m T s W X k t n p a c f w) (hb : Below w.heap.size w w') : Lk b m T s W X k t n p a c f w':=⟨Tr.below h.tk hb,h.res.below hb,h.box.below hb,h.kl.keep fun g _ hl=>hb.block g hl,h.lt⟩
theorem Lk.alloc (h : Lk b m T s W X k t n p a c f w) (o : Obj) : Lk b m T s W X k t n p a c f (w.alloc o):=h.below ((Below.refl _ w).alloc (Nat.le_refl _) o)
theorem Lk.drew (h : Lk b m T s W X k t n p a c f w) : Lk b m T s W X k t n p a c f w.drew:=⟨Tr.drew h.tk,h.res.drew,h.box.drew,h.kl.keep fun _ _ _=>rfl,h.lt⟩
theorem Lk.took (h : Lk b m T s W X k t n p a c f w) (hT : Tt b m T s' w w') : Lk b m T s' W X k t n p a c f w':=by
  have hlt:=h.lt
  exact ⟨Tr.trans h.tk hT,h.res.ky hT.ky (by omega),h.box.ky hT.ky (by omega),h.kl.keep fun g hg hl=>hT.ky.block g hl (fun e=>by omega),h.lt⟩
theorem Lk.grown {a' : Option Addr} {c' : Nat} {f' : F} (h : Lk b m T s W X k t n p a c f w) (hr : KL 32 (fun g=>W.heap.size < g ∧ g ≠ X) w' (.slice a' f'.len c') f') (hk : Ky (fun k=>some k = Value.ownBlock (.slice a f.len c)) w w') :
    ∃ wF,w'.setCell ⟨X,4,none⟩ (.slice a' f'.len c') = wF ∧ Lk b m T s W X k t n p a' c' f' wF ∧ Bx X 32 #[.int .i64 k,.string ⟨t.toArray⟩,.int .i64 n,.int .i64 p,.slice a f.len c] w':=by
  have hlt:=h.lt
  obtain ⟨xs,hown,hoP,_⟩:=h.kl.out
  have hS : ∀ x,some x = Value.ownBlock (.slice a f.len c) → W.heap.size < x ∧ x ≠ X:=fun x e=>hoP x e.symm
  have hB:=h.box.ky hk (fun e=>(hS X e).2 rfl)
  refine ⟨_,rfl,⟨Tr.new (Tr.onto h.tk hk (fun x hx=>by have:=hS x hx;omega) hlt.2.1) (by omega) hlt.2.1 _,(h.res.ky hk (fun e=>by have:=hS _ e;omega)).set (by omega) _,hB.put4 _,hr.keep fun g hg _=>Below.heap_setCell w' _ _ g hg.2,h.lt⟩,hB⟩
theorem Lk.own_lt (h : Lk b m T s W X k t n p a c f w) (g : Nat) (e : Value.ownBlock (.slice a f.len c) = some g) : g < w.heap.size:=by
  obtain ⟨xs,hown,_,_⟩:=h.kl.out
  exact (hown.lt g e).2
theorem Lk.begin {w1 : World} (h : Tt b m T s W w1) (hr : Bx W.heap.size 32 #[.int .i64 0,.string ⟨#[]⟩,.int .i64 0,.int .i64 0,.slice none 0 0] w1) (hlt : b < W.heap.size ∧ m ≤ W.heap.size) (k : Int) (t : List UInt8) (n p : Int) : Lk b m T s W w1.heap.size k t n p none 0 .nil (w1.alloc (.cells #[.int .i64 k,.string ⟨t.toArray⟩,.int .i64 n,.int .i64 p,.slice none 0 0] 32)) :=
  ⟨Tr.alloc h _,hr.alloc _,Bx.new _ _ _,KL.nil _ _ _,⟨hlt.1,hlt.2,hr.lt⟩⟩
theorem Lk.put {v : Value} {ks : F} {k' : Int} {t' : List UInt8} {n' p' : Int} {cur : Array Value} {f' : F} {q : Nat} (h : Lr b m T s W X k t n p v ks w) (hf : KF 32 w (fun g=>W.heap.size < g ∧ g ≠ X) cur.toList f') (hq : f'.len = q) (hl : q ≤ maxLen) :
    Lk b m T s W X k' t' n' p' (some ⟨w.heap.size,0,none⟩) q f' ((((((w.alloc (.cells cur 32)).setCell ⟨X,0,none⟩ (.int .i64 k')).setCell ⟨X,1,none⟩ (.string ⟨t'.toArray⟩)).setCell ⟨X,2,none⟩ (.int .i64 n')).setCell ⟨X,3,none⟩ (.int .i64 p')).setCell ⟨X,4,none⟩ (.slice (some ⟨w.heap.size,0,none⟩) q q)):=by
  subst hq
  have hlt:=h.lt
  have hX:=h.box.lt
  have hW:=h.res.lt
  have h1:=h.alloc (.cells cur 32)
  have hk : KL 32 (fun g=>W.heap.size < g ∧ g ≠ X) (w.alloc (.cells cur 32)) (.slice (some ⟨w.heap.size,0,none⟩) f'.len f'.len) f':=KL.made hf ⟨hW,by omega⟩ rfl hl
  have hB : ∀ (z : World) (o : Nat) (u : Value),KL 32 (fun g=>W.heap.size < g ∧ g ≠ X) z (.slice (some ⟨w.heap.size,0,none⟩) f'.len f'.len) f' → KL 32 (fun g=>W.heap.size < g ∧ g ≠ X) (z.setCell ⟨X,o,none⟩ u) (.slice (some ⟨w.heap.size,0,none⟩) f'.len f'.len) f':=fun z o u h=>h.keep fun g hg _=>Below.heap_setCell z _ _ g hg.2
  exact ⟨Tr.five h1.tk (by omega) hlt.2.1 _ _ _ _ _,h1.res.five_set (by omega) _ _ _ _ _,h1.box.five_put _ _ _ _ _,hB _ _ _ (hB _ _ _ (hB _ _ _ (hB _ _ _ (hB _ _ _ hk)))),h.lt⟩
end
theorem KL.lie {E : TypeId} {P : Nat → Prop} {w : World} {a : Option Addr} {c : Nat} {f : F} (h : KL E P w (.slice a f.len c) f) (h0 : 0 < f.len) : ∃ (ad : Addr) (xs : List Value),a = some ad ∧ KF E w P xs f ∧ (∀ j u,xs[j]? = some u → w.cell? (ad.add j) = some u):=by
  obtain ⟨xs,h1,h2,h3⟩:=h.out
  rcases h1.2 with ⟨_,h4⟩ | ⟨g,cap,cur,e,_,hb,_,_,_,ht⟩
  · omega
  · injection e with e1 e2 e3
    refine ⟨_,xs,e1,h3.mono fun g hg _=>hg.1,fun j u hu=>World.news_of_block hb j u ?_⟩
    rw [← ht] at hu
    rw [List.getElem?_take] at hu
    split at hu
    · exact hu
    · cases hu
theorem step_kl {ops : Array Oper} {o : Oper} {ac : Act} {K : Act → World → Prop} {Q : Exit → Act → World → Prop} {E : Prop} {P : Nat → Prop} {w : World} {a : Option Addr} {c c2 : Nat} {f n : F} {ad : Addr} {news : List Value} (hgd : o.guard = none) (s x : Operand)
    (ho : o.op = .call { callee:=.builtin .append,args:=#[s,x],argTypes:=#[30,30] }) (h : KL 32 P w (.slice a f.len c) f) (hnew : ∀ x,w.heap.size ≤ x → P x) (hB : f.len + n.len ≤ 100000) (hn : 0 < n.len)
    (hk : KF 32 w (fun g=>P g ∧ some g ≠ Value.ownBlock (.slice a f.len c)) news n) (hs : ac.eval s = .slice a f.len c) (hx : ac.eval x = .slice (some ad) n.len c2) (hnews : ∀ j u,news[j]? = some u → w.cell? (ad.add j) = some u)
    (hK : ∀ g cc w2,KL 32 P w2 (.slice (some ⟨g,0,none⟩) (f.app n).len cc) (f.app n) → Ky (fun k=>some k = Value.ownBlock (.slice a f.len c)) w w2 → K (ac.put o.dst (.slice (some ⟨g,0,none⟩) (f.app n).len cc)) w2) :
    if Region.wanted o (yielded ops ac.tmps) = true then Oper.wp Tryz.prog o ac w K Q else E:=by
  obtain ⟨i0,hi0,hz0,hz1,hz2⟩:=info_parts info32
  obtain ⟨xs,hown,hP,hkf⟩:=h.out
  refine step_append_lies _ hgd s x 30 ho 0 32 i0 _ 5 64 Tryz.underlying30 hi0 hz0 hz1 hz2 rfl (by omega) (.slice a f.len c) f.len xs hs hown ad n.len c2 news hx hk.len hnews hk.one hn (by unfold maxLen;omega) (by omega) (Nat.zero_le _) w.heap.size rfl ?_
  intro g cc w2 hown2 hg hat _
  have hl1 : (f.app n).len = f.len + n.len:=F.len_app _ _
  have:=KL.snoc hP hkf hk hown2 (fun k hk hn=>hg.block k hk hn) hnew (hat.imp id (fun e=>by omega))
  have h2:=hK g cc w2 (by rw [hl1];exact this) ⟨hg.os,hg.tape,hg.output,hg.size,fun i hi hn=>hg.block i hi hn⟩
  rw [hl1] at h2
  exact h2
section
variable {ops : Array Oper} {o : Oper} {ac : Act} {K : Act → World → Prop} {Q : Exit → Act → World → Prop} {E : Prop} {b m : Nat} {T : List Tok} {s s' : Sx} {W : World} {X : Nat} {k : Int} {t : List UInt8} {n p : Int} {a : Option Addr} {c : Nat} {f : F} {w w1 : World}
theorem step_lkL {a2 : Option Addr} {c2 : Nat} {g : F} (hgd : o.guard = none) (sv x : Operand) (ho : o.op = .call { callee:=.builtin .append,args:=#[sv,x],argTypes:=#[30,30] })
    (h : Lk b m T s W X k t n p a c f w) (hT : Tt b m T s' w w1) (hg : KL 32 (fun g=>w.heap.size ≤ g) w1 (.slice a2 g.len c2) g) (hn : 0 < g.len) (hB : f.len + g.len ≤ 100000) (hs : ac.eval sv = .slice a f.len c) (hx : ac.eval x = .slice a2 g.len c2)
    (hK : ∀ gg cc w2 wF,w2.setCell ⟨X,4,none⟩ (.slice (some ⟨gg,0,none⟩) (f.app g).len cc) = wF → Lk b m T s' W X k t n p (some ⟨gg,0,none⟩) cc (f.app g) wF → Bx X 32 #[.int .i64 k,.string ⟨t.toArray⟩,.int .i64 n,.int .i64 p,.slice a f.len c] w2 → K (ac.put o.dst (.slice (some ⟨gg,0,none⟩) (f.app g).len cc)) w2) :
    if Region.wanted o (yielded ops ac.tmps) = true then Oper.wp Tryz.prog o ac w1 K Q else E:=by
  have h1:=h.took hT
  obtain ⟨ad,xs,rfl,hkf,hnews⟩:=hg.lie hn
  have hlt:=h.lt
  have hX:=h.box.lt
  have hX1:=h1.box.lt
  refine step_kl (n:=g) (ad:=ad) (news:=xs) hgd sv x ho h1.kl (fun y hy=>by show W.heap.size < y ∧ y ≠ X;omega) hB hn (hkf.mono fun y hy _=>⟨⟨by omega,by omega⟩,fun e=>?_⟩) hs hx hnews ?_
  · have:=h.own_lt y e.symm
    omega
  · intro gg cc w2 hkl hky
    obtain ⟨wF,e,h3,h4⟩:=h1.grown hkl hky
    exact hK gg cc w2 wF e h3 h4
theorem step_lk1 {a' : Option Addr} {c' : Nat} {ks : F} {k' : Int} {t' : List UInt8} {n' p' : Int} (hgd : o.guard = none) (sv x : Operand) (ho : o.op = .call { callee:=.builtin .append,args:=#[sv,x],argTypes:=#[30,30] })
    (h : Lk b m T s W X k t n p a c f w) (hT : Tt b m T s' w w1) (ht : TN 32 w1 (fun g=>w.heap.size ≤ g) k' t' n' p' (.slice a' ks.len c') ks) (hB : f.len ≤ 90000) (hs : ac.eval sv = .slice a f.len c) (hx : ac.eval x = .slice (some ⟨w1.heap.size,0,none⟩) 1 1)
    (hK : ∀ gg cc w2 wF,w2.setCell ⟨X,4,none⟩ (.slice (some ⟨gg,0,none⟩) (f.app (one k' t' n' p' ks)).len cc) = wF → Lk b m T s' W X k t n p (some ⟨gg,0,none⟩) cc (f.app (one k' t' n' p' ks)) wF → Bx X 32 #[.int .i64 k,.string ⟨t.toArray⟩,.int .i64 n,.int .i64 p,.slice a f.len c] w2 → K (ac.put o.dst (.slice (some ⟨gg,0,none⟩) (f.app (one k' t' n' p' ks)).len cc)) w2) :
    if Region.wanted o (yielded ops ac.tmps) = true then Oper.wp Tryz.prog o ac (w1.alloc (.cells #[.int .i64 k',.string ⟨t'.toArray⟩,.int .i64 n',.int .i64 p',.slice a' ks.len c'] 32)) K Q else E:=by
  have h1:=(h.took hT).alloc (.cells #[.int .i64 k',.string ⟨t'.toArray⟩,.int .i64 n',.int .i64 p',.slice a' ks.len c'] 32)
  have hlt:=h.lt
  have hX:=h.box.lt
  have hX1:=h1.box.lt
  have hsz:=hT.ky.size
  refine step_kl (n:=one k' t' n' p' ks) (ad:=⟨w1.heap.size,0,none⟩) (news:=[.int .i64 k',.string ⟨t'.toArray⟩,.int .i64 n',.int .i64 p',.slice a' ks.len c']) hgd sv x ho h1.kl (fun y hy=>by show W.heap.size < y ∧ y ≠ X;omega) (by show f.len + 1 ≤ _;omega) (by show 0 < 1;omega) ?_ hs hx (World.news_of_block (cs:=#[.int .i64 k',.string ⟨t'.toArray⟩,.int .i64 n',.int .i64 p',.slice a' ks.len c']) (t:=32) (fr:=(0,0)) (Go.heap_alloc_new w1 _)) ?_
  · refine ((ht.kf.mono (Q:=fun g=>w.heap.size ≤ g ∧ g < w1.heap.size) fun g x y=>⟨x,y⟩).keep (w':=w1.alloc _) fun g hg _=>(World.grownBy_alloc w1 _ none).block g hg.2 (by simp)).mono fun g hg _=>⟨⟨by omega,by omega⟩,fun e=>?_⟩
    have:=h.own_lt g e.symm
    omega
  · intro gg cc w2 hkl hky
    obtain ⟨wF,e,h3,h4⟩:=h1.grown hkl hky
    exact hK gg cc w2 wF e h3 h4
end
end Go.Proofs.YtlgkfhipobdcfaaGreatDoor
