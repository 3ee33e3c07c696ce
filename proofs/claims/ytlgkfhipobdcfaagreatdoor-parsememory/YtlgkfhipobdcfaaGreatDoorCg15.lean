import Derived.Test.YtlgkfhipobdcfaaGreatDoorCg14
namespace Go.Proofs.YtlgkfhipobdcfaaGreatDoor
open Go.RowKit
set_option maxRecDepth 20000 in
set_option maxHeartbeats 8000000 in
theorem choice_t {N : Nat} (tk tb : Int → List UInt8 → Int → F → Tks) (CE : CT 79 N tk) (CB : CT 27 N tb) (b : Nat) (P : Nat → Prop) (L : Tks) (W : World) (a : Option Addr) (c : Nat) (r : F) (h : Te b P L W) (hr : Rv W (fun g=>g < b) a r) (hs : r.siz ≤ N) (hw : r.wf = true) (hcc : r.len ≤ c ∧ c ≤ maxLen) (hL : L.length + (choT tk tb [105,102] r).length ≤ 1000000) :
    Calls Tryz.prog 78 #[.pointer (some ⟨b,0,none⟩),.slice a r.len c] W (TP b P W (L ++ choT tk tb [105,102] r)):=by
  have hlen:=r.len_siz
  have H0 : Hid (Tq b P L W W ∧ Rv W (fun g=>g < b) a r):=⟨h.tq,hr⟩
  clear h hr
  go_enter Tryz.func78,Tryz.ntmps78
  go_wp2_with fail
  go_loopg [1,4] (r.len + 1) (fun gf kv wv wx=>∃ (q : F) (a' : Option Addr) (c' : Nat) (wd : List UInt8) (L' : Tks),kv = .slice a' q.len c' ∧ wv = .string ⟨wd.toArray⟩ ∧ q.len ≤ r.len ∧ q.len < gf ∧ q.len ≤ c' ∧ c' ≤ maxLen ∧ Hid (Tq b P L' W wx ∧ Rv wx (fun g=>g < b) a' q ∧ L' ++ choT tk tb wd q = L ++ choT tk tb [105,102] r ∧ q.siz ≤ r.siz ∧ q.wf = true))
  case atStart=>exact ⟨r,a,c,[105,102],L,rfl,rfl,Nat.le_refl _,by omega,hcc.1,hcc.2,H0.out.1,H0.out.2,rfl,Nat.le_refl _,hw⟩
  case round =>
    clear H0
    obtain ⟨q,a',c',wd,L',rfl,rfl,hq0,hfu,hc1,hc2,HR⟩:=hrel
    have hEl : L'.length + (choT tk tb wd q).length ≤ 1000000:=by
      have:=congrArg List.length HR.out.2.2.1
      simp only [List.length_append] at this
      omega
    cases q with
    | nil =>
      have HE : Hid (L' ++ [[101,110,100]] = L ++ choT tk tb [105,102] r):=HR.out.2.2.1
      have CA:=HR.out.1.add1 [101,110,100] (by simpa [choT] using hEl)
      clear HR hEl
      simp only [F.len] at hq0 hfu hc1 ⊢
      go_wp2_with fail
      refine CA.mono ?_;rintro e w1 ⟨rfl,D1,-⟩
      have HD : Hid (Tq b P (L' ++ [[101,110,100]]) W w1):=D1
      clear CA D1
      go_wp2
      go_end0
      rw [← HE.out]
      exact ⟨rfl,HD.out.te,HD.out.ky⟩
    | cons k t n p ks q1 =>
      obtain ⟨D,hRv,hE,hz,hwf⟩:=HR.out
      obtain ⟨g,o,a1,c1,e1,hg,k0,k1,k2,k3,k4,hK,hNx,hcc1⟩:=hRv.cons
      subst e1
      obtain ⟨hw1,hw2⟩:=F.wf_cons hwf
      cases q1 with
      | nil =>
        simp only [F.siz,F.len] at hz hq0 hfu hc1 ⊢
        have HE : Hid (L' ++ ([101,108,115,101] :: (tb k t n ks ++ [[101,110,100]])) = L ++ choT tk tb [105,102] r):=hE
        simp only [choT,List.length_cons,List.length_append,List.length_nil] at hEl
        have CA:=D.add1 [101,108,115,101] (by omega)
        have HK : Hid (Rv wr (fun g=>g < b) a1 ks ∧ Rv wr (fun g=>g < b) (some ⟨g,o,none⟩) (.cons k t n p ks .nil)):=⟨hK,hRv⟩
        clear D hRv hE hK hNx HR hg
        go_wp2_with fail
        refine CA.mono ?_;rintro e w1 ⟨rfl,D1,K1⟩
        obtain ⟨g',o',a2,c2,e2,hg2,k0,k1,k2,k3,k4,hK2,_,hcc2⟩:=(HK.out.2.ky K1 D1.te.lo).cons
        injection e2 with e2
        injection e2 with e2 e3
        subst e2 e3
        have C2:=CB b P (L' ++ [[101,108,115,101]]) w1 k t n p a2 c2 ks D1.te hK2 (by omega) hw1 hcc2 (by simp only [List.length_append,List.length_cons,List.length_nil];omega)
        have HD1 : Hid (Tq b P (L' ++ [[101,108,115,101]]) W w1):=D1
        clear CA D1 K1 hK2 hg2
        go_wp2_with fail
        refine C2.mono ?_;rintro e w2 hq2
        have D2:=HD1.out.step hq2
        obtain ⟨rfl,-⟩:=hq2
        have CA:=D2.add1 [101,110,100] (by simp only [List.length_append,List.length_cons,List.length_nil];omega)
        clear C2 D2
        go_wp2_with fail
        refine CA.mono ?_;rintro e w3 ⟨rfl,D3,-⟩
        have HD3 : Hid (Tq b P (L' ++ [[101,108,115,101]] ++ tb k t n ks ++ [[101,110,100]]) W w3):=D3
        clear CA D3
        go_wp2
        go_end0
        have e : L ++ choT tk tb [105,102] r = L' ++ [[101,108,115,101]] ++ tb k t n ks ++ [[101,110,100]]:=by rw [← HE.out];simp
        rw [e]
        exact ⟨rfl,HD3.out.te,HD3.out.ky⟩
      | cons kB tB nB pB ksB q2 =>
        obtain ⟨hwB,hw3⟩:=F.wf_cons hw2
        have HE : Hid (L' ++ choT tk tb wd (.cons k t n p ks (.cons kB tB nB pB ksB q2)) = L ++ choT tk tb [105,102] r):=hE
        simp only [choT,List.length_cons,List.length_append] at hEl
        have CA:=D.add1 wd (by omega)
        have HK : Hid (Rv wr (fun g=>g < b) (some ⟨g,o,none⟩) (.cons k t n p ks (.cons kB tB nB pB ksB q2))):=hRv
        simp only [F.siz,F.len] at hz hq0 hfu hc1 ⊢
        have hgt : (1 : Int) < (q2.len : Int) + 1 + 1:=by omega
        have hgt0 : (0 : Int) < (q2.len : Int) + 1 + 1:=by omega
        clear D hRv hE hK hNx HR hg k0 k1 k2 k3 k4
        by_cases hc3 : c' = 2
        · subst hc3
          obtain rfl : q2 = .nil:=F.nil_of_len (by omega)
          go_wp2_with fail
          refine CA.mono ?_;rintro e w1 ⟨rfl,D1,K1⟩
          obtain ⟨g',o',a2,c2,e2,hg2,k0,k1,k2,k3,k4,hK2,_,hcc2⟩:=(HK.out.ky K1 D1.te.lo).cons
          injection e2 with e2
          injection e2 with e2 e3
          subst e2 e3
          have C2:=CE b P (L' ++ [wd]) w1 k t n p a2 c2 ks D1.te hK2 (by omega) hw1 hcc2 (by simp only [List.length_append,List.length_cons,List.length_nil];omega)
          have HD1 : Hid (Tq b P (L' ++ [wd]) W w1 ∧ Ky (fun k=>k = b ∨ P k) wr w1):=⟨D1,K1⟩
          clear CA D1 K1 hK2 hg2
          go_wp2_with fail
          refine C2.mono ?_;rintro e w2 hq2
          have D2:=HD1.out.1.step hq2
          have HK2 : Hid (Ky (fun k=>k = b ∨ P k) wr w2):=HD1.out.2.trans hq2.2.2
          obtain ⟨rfl,-⟩:=hq2
          have CA:=D2.add1 [116,104,101,110] (by simp only [List.length_append,List.length_cons,List.length_nil];omega)
          clear C2 D2 HD1 k0 k1 k2 k3 k4
          go_wp2_with fail
          refine CA.mono ?_;rintro e w3 ⟨rfl,D3,K3⟩
          obtain ⟨g',o',_,_,e2,_,_,_,_,_,_,_,hNx,_⟩:=(HK.out.ky (HK2.out.trans K3) D3.te.lo).cons
          injection e2 with e2
          injection e2 with e2 e3
          subst e2 e3
          obtain ⟨g',o',a4,c4,e2,hg4,k0,k1,k2,k3,k4,hK4,_,hcc4⟩:=hNx.cons
          injection e2 with e2
          injection e2 with e2 e3
          subst e2 e3
          have C4:=CB b P (L' ++ [wd] ++ tk k t n ks ++ [[116,104,101,110]]) w3 kB tB nB pB a4 c4 ksB D3.te hK4 (by omega) hwB hcc4 (by simp only [List.length_append,List.length_cons,List.length_nil];omega)
          have HD3 : Hid (Tq b P (L' ++ [wd] ++ tk k t n ks ++ [[116,104,101,110]]) W w3 ∧ Ky (fun k=>k = b ∨ P k) wr w3):=⟨D3,HK2.out.trans K3⟩
          clear CA D3 K3 hK4 hg4 hNx HK2
          go_wp2_with fail
          refine C4.mono ?_;rintro e w4 hq4
          have HD4 : Hid (Tq b P (L' ++ [wd] ++ tk k t n ks ++ [[116,104,101,110]] ++ tb kB tB nB ksB) W w4 ∧ Rv w4 (fun g=>g < b) (some ⟨g,o,none⟩) (.cons k t n p ks (.cons kB tB nB pB ksB .nil))):=⟨HD3.out.1.step hq4,HK.out.ky (HD3.out.2.trans hq4.2.2) HD3.out.1.te.lo⟩
          obtain ⟨rfl,-⟩:=hq4
          clear C4 HD3 HK k0 k1 k2 k3 k4
          go_wp2
          go_roundg (F.nil.len + 1)
          case measure=>simp only [F.len] at *;omega
          case rel =>
            refine ⟨.nil,some ⟨g,o,none⟩,0,[101,108,115,101,105,102],L' ++ [wd] ++ tk k t n ks ++ [[116,104,101,110]] ++ tb kB tB nB ksB,by first | rfl | simp,rfl,by simp only [F.len] at *;omega,by simp only [F.len] at *;omega,by simp only [F.len] at *;omega,by simp only [F.len] at *;omega,HD4.out.1,Rv.nil _,?_,by simp only [F.siz] at *;omega,hw3⟩
            rw [← HE.out]
            simp [choT]
        · skip
          go_wp2_with fail
          refine CA.mono ?_;rintro e w1 ⟨rfl,D1,K1⟩
          obtain ⟨g',o',a2,c2,e2,hg2,k0,k1,k2,k3,k4,hK2,_,hcc2⟩:=(HK.out.ky K1 D1.te.lo).cons
          injection e2 with e2
          injection e2 with e2 e3
          subst e2 e3
          have C2:=CE b P (L' ++ [wd]) w1 k t n p a2 c2 ks D1.te hK2 (by omega) hw1 hcc2 (by simp only [List.length_append,List.length_cons,List.length_nil];omega)
          have HD1 : Hid (Tq b P (L' ++ [wd]) W w1 ∧ Ky (fun k=>k = b ∨ P k) wr w1):=⟨D1,K1⟩
          clear CA D1 K1 hK2 hg2
          go_wp2_with fail
          refine C2.mono ?_;rintro e w2 hq2
          have D2:=HD1.out.1.step hq2
          have HK2 : Hid (Ky (fun k=>k = b ∨ P k) wr w2):=HD1.out.2.trans hq2.2.2
          obtain ⟨rfl,-⟩:=hq2
          have CA:=D2.add1 [116,104,101,110] (by simp only [List.length_append,List.length_cons,List.length_nil];omega)
          clear C2 D2 HD1 k0 k1 k2 k3 k4
          go_wp2_with fail
          refine CA.mono ?_;rintro e w3 ⟨rfl,D3,K3⟩
          obtain ⟨g',o',_,_,e2,_,_,_,_,_,_,_,hNx,_⟩:=(HK.out.ky (HK2.out.trans K3) D3.te.lo).cons
          injection e2 with e2
          injection e2 with e2 e3
          subst e2 e3
          obtain ⟨g',o',a4,c4,e2,hg4,k0,k1,k2,k3,k4,hK4,_,hcc4⟩:=hNx.cons
          injection e2 with e2
          injection e2 with e2 e3
          subst e2 e3
          have C4:=CB b P (L' ++ [wd] ++ tk k t n ks ++ [[116,104,101,110]]) w3 kB tB nB pB a4 c4 ksB D3.te hK4 (by omega) hwB hcc4 (by simp only [List.length_append,List.length_cons,List.length_nil];omega)
          have HD3 : Hid (Tq b P (L' ++ [wd] ++ tk k t n ks ++ [[116,104,101,110]]) W w3 ∧ Ky (fun k=>k = b ∨ P k) wr w3):=⟨D3,HK2.out.trans K3⟩
          clear CA D3 K3 hK4 hg4 hNx HK2
          go_wp2_with fail
          refine C4.mono ?_;rintro e w4 hq4
          have HD4 : Hid (Tq b P (L' ++ [wd] ++ tk k t n ks ++ [[116,104,101,110]] ++ tb kB tB nB ksB) W w4 ∧ Rv w4 (fun g=>g < b) (some ⟨g,o,none⟩) (.cons k t n p ks (.cons kB tB nB pB ksB q2))):=⟨HD3.out.1.step hq4,HK.out.ky (HD3.out.2.trans hq4.2.2) HD3.out.1.te.lo⟩
          obtain ⟨rfl,-⟩:=hq4
          clear C4 HD3 HK k0 k1 k2 k3 k4
          go_wp2
          go_roundg (q2.len + 1)
          case measure=>omega
          case rel =>
            refine ⟨q2,some ⟨g,o + 10,none⟩,c' - 2,[101,108,115,101,105,102],L' ++ [wd] ++ tk k t n ks ++ [[116,104,101,110]] ++ tb kB tB nB ksB,by first | rfl | simp,rfl,by omega,by omega,by omega,by omega,HD4.out.1,(by have:=Rv.drop (.cons k t n p ks (.cons kB tB nB pB ksB q2)) 2 HD4.out.2;simpa [F.drop] using this),?_,by omega,hw3⟩
            rw [← HE.out]
            simp [choT]
end Go.Proofs.YtlgkfhipobdcfaaGreatDoor
