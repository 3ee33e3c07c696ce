import Derived.Test.YtlgkfhipobdcfaaGreatDoorCg48
import Derived.Test.YtlgkfhipobdcfaaGreatDoorCg07
import Derived.Deep.Cut
import Derived.Deep.CutBlock
namespace Go.Proofs.YtlgkfhipobdcfaaGreatDoor
open Go.RowKit
theorem u8_45 (c : UInt8) (h : c.toNat = 45) : c = 45:=UInt8.toNat_inj.1 h
theorem pre_no (c : UInt8) (t : List UInt8) (h : c.toNat ≠ 45) : Lib.hasPrefix (c :: t) [45,45] = false:=by
  have hc : ¬ (45 : UInt8) = c:=fun e=>h (by rw [← e];rfl)
  cases t <;> simp [Lib.hasPrefix,List.isPrefixOf,hc]
theorem pre_nil (c : UInt8) : Lib.hasPrefix [c] [45,45] = false:=by simp [Lib.hasPrefix,List.isPrefixOf]
theorem pre_two (c d : UInt8) (t : List UInt8) (h : c.toNat = 45) (b : Bool) (hb : (((d.toNat : Nat) : Int) == 45) = b) : Lib.hasPrefix (c :: d :: t) [45,45] = b:=by
  rw [u8_45 c h]
  cases b
  · have hd : ¬ (45 : UInt8) = d:=fun e=>by rw [← e] at hb;exact absurd hb (by decide)
    simp [Lib.hasPrefix,List.isPrefixOf,hd]
  · have : d = 45:=u8_45 d (by have:=eq_of_beq hb;omega)
    rw [this];rfl
structure TK (w : World) (B : Nat) (p : Int) : Prop where
  a0 : w.cell? ⟨B,0,none⟩ = some (.int .i64 0)
  a1 : w.cell? ⟨B,1,none⟩ = some (.string ⟨#[]⟩)
  a2 : w.cell? ⟨B,2,none⟩ = some (.int .i64 0)
  a3 : w.cell? ⟨B,3,none⟩ = some (.int .i64 p)
  g0 : w.frozen? ⟨B,0,none⟩ = false
  g1 : w.frozen? ⟨B,1,none⟩ = false
  g2 : w.frozen? ⟨B,2,none⟩ = false
  lt : B < w.heap.size
theorem tk_new {w1 w2 : World} {o : Obj} {p : Int} (hb : Below ((w1.alloc o).alloc (.cells #[.int .i64 0,.string ⟨#[]⟩,.int .i64 0,.int .i64 p] 63)).heap.size ((w1.alloc o).alloc (.cells #[.int .i64 0,.string ⟨#[]⟩,.int .i64 0,.int .i64 p] 63)) w2) : TK w2 (w1.heap.size + 1) p:=by
  have hz : ((w1.alloc o).alloc (.cells #[.int .i64 0,.string ⟨#[]⟩,.int .i64 0,.int .i64 p] 63)).heap.size = w1.heap.size + 2:=by simp
  have hl : w1.heap.size + 1 < ((w1.alloc o).alloc (.cells #[.int .i64 0,.string ⟨#[]⟩,.int .i64 0,.int .i64 p] 63)).heap.size:=by omega
  have hy : (w1.alloc o).heap.size = w1.heap.size + 1:=by simp
  have N:=fun j v h=>new_cell (w1.alloc o) [.int .i64 0,.string ⟨#[]⟩,.int .i64 0,.int .i64 p] 63 j v h
  rw [hy] at N
  have hs:=hb.size
  exact ⟨(hb.cell (p:=⟨_,0,none⟩) hl).trans (N 0 _ rfl).1,(hb.cell (p:=⟨_,1,none⟩) hl).trans (N 1 _ rfl).1,(hb.cell (p:=⟨_,2,none⟩) hl).trans (N 2 _ rfl).1,(hb.cell (p:=⟨_,3,none⟩) hl).trans (N 3 _ rfl).1,
    (hb.frozen (p:=⟨_,0,none⟩) hl).trans (N 0 _ rfl).2,(hb.frozen (p:=⟨_,1,none⟩) hl).trans (N 1 _ rfl).2,(hb.frozen (p:=⟨_,2,none⟩) hl).trans (N 2 _ rfl).2,by omega⟩
theorem below_two {wr w1 w2 : World} {o o' : Obj} (h1 : Below wr.heap.size wr w1) (hb : Below ((w1.alloc o).alloc o').heap.size ((w1.alloc o).alloc o') w2) : Below wr.heap.size wr w2:=by
  have:=h1.size
  exact ((h1.alloc (by omega) o).alloc (by simp;omega) o').trans (hb.mono (by simp;omega))
theorem c1_of (X : World) (B : Nat) (hX : X.heap.size = B) (xs : List Value) (ty : TypeId) (j : Nat) (u : Value) (h : xs[j]? = some u) : (X.alloc (.cells xs.toArray ty)).cell? ⟨B,j,none⟩ = some u:=by
  subst hX;exact (new_cell X xs ty j u h).1
theorem bdr {B : Nat} {w w' : World} (h : Below B w w') : Below B w w'.drew:=h.trans ⟨rfl,rfl,rfl,Nat.le_refl _,fun _ _=>rfl⟩
theorem ext_tk (s : ByteArray) (p n : Nat) : s.extract p (p + n) = ⟨((LD s p).take n).toArray⟩:=by
  rw [← ext_LD]
set_option linter.unusedSimpArgs false in
set_option maxRecDepth 20000 in
set_option maxHeartbeats 16000000 in
theorem rScan_small (s : ByteArray) (w : World) (hs : s.size ≤ 20000) (R : Res) (hR : scn (LD s 0) 0 [] = R) : Calls Tryz.prog 23 #[.string s] w fun e W'=>RV R w e W':=by
  obtain ⟨i8,hi8,hy0,hy1,hy2⟩:=info_parts Tryz.info63
  have HR0 : Hid (scn (LD s 0) 0 [] = R):=hR
  obtain ⟨W1,hW1⟩ : ∃ W1,w.alloc (.cells #[.int .i64 0,.int .i64 0] 27) = W1:=⟨_,rfl⟩
  have Z1 : Hid (W1.heap.size = w.heap.size + 1):=by show _ = _;rw [← hW1];simp
  have c0 : W1.cell? ⟨w.heap.size,0,none⟩ = some (.int .i64 0):=by rw [← hW1];simp [go_sem]
  have c1 : W1.cell? ⟨w.heap.size,1,none⟩ = some (.int .i64 0):=by rw [← hW1];simp [go_sem]
  have d0 : W1.frozen? ⟨w.heap.size,0,none⟩ = false:=by rw [← hW1];simp [go_sem]
  have d1 : W1.frozen? ⟨w.heap.size,1,none⟩ = false:=by rw [← hW1];simp [go_sem]
  have hB1 : Below w.heap.size w W1:=by rw [← hW1];exact (Below.refl _ _).alloc (Nat.le_refl _) _
  have fin : ∀ (W W' : World) (x y : Value),Below W1.heap.size W1 W → W' = (W.setCell ⟨w.heap.size,0,none⟩ x).setCell ⟨w.heap.size,1,none⟩ y → Below w.heap.size w W':=fun W W' x y hb he=>by
    subst he
    exact ((hB1.trans (hb.mono (by rw [Z1.out];omega))).setCell (Nat.le_refl _) _).setCell (Nat.le_refl _) _
  have FIN : Hid _:=fin
  clear hR fin
  go_enter Tryz.func23,Tryz.ntmps23
  go_wp2_with fail
  go_loopg [4,5] (s.size + 1) (fun gf v4 v5 wx=>∃ (p : Nat) (ts : List Tok),p ≤ s.size ∧ v5 = .int .i64 p ∧ wx.ownsRow W1.heap.size 63 4 v4 ts.length (cellsT ts) ∧ Below W1.heap.size W1 wx ∧ ts.length ≤ p ∧ Hid (scn (LD s p) p ts = R) ∧ s.size < p + gf)
  case atStart=>exact ⟨0,[],Nat.zero_le _,rfl,World.ownsRow_nil _ _ _ _,Below.refl _ _,Nat.le_refl _,HR0,by omega⟩
  case round =>
    obtain ⟨p,ts,hps,rfl,hown,hB,htl,hI,hfu⟩:=hrel
    obtain ⟨av,cv,rfl⟩:=slice_shape hown
    have hzB:=hB.size
    have hFl : w.heap.size < W1.heap.size:=by rw [Z1.out];omega
    have k0:=(hB.cell (p:=⟨w.heap.size,0,none⟩) hFl).trans c0
    have k1:=(hB.cell (p:=⟨w.heap.size,1,none⟩) hFl).trans c1
    have f0:=(hB.frozen (p:=⟨w.heap.size,0,none⟩) hFl).trans d0
    have f1:=(hB.frozen (p:=⟨w.heap.size,1,none⟩) hFl).trans d1
    have hFw : w.heap.size < wr.heap.size:=Nat.lt_of_lt_of_le hFl hzB
    by_cases hlt : p < s.size
    · obtain ⟨g',rfl⟩ : ∃ g',gk = g' + 1:=⟨gk - 1,by omega⟩
      obtain ⟨c,hc⟩:=LD_cons s p hlt
      have hcs : s[p] = c:=by
        have:=LD_head s p hlt
        rw [hc] at this;exact this.symm
      obtain ⟨cn,hcn⟩ : ∃ cn,s[p].toNat = cn:=⟨_,rfl⟩
      have hccn : c.toNat = cn:=by rw [← hcs,hcn]
      have hne:=LD_ne s p hlt
      have hcr : ∀ n,n < 128 → (rn s p = n ↔ cn = n):=fun n hn=>by
        constructor
        · intro h;rw [← hccn];exact rn_head s p c _ hc n hn h
        · intro h
          have:=asc c (LD s (p + 1)) (by omega)
          rw [rn_drop]
          show rnL (LD s p) = n
          rw [hc,this.1,hccn,h]
      have hrL : rnL (LD s p) = rn s p:=(rn_drop s p).symm
      have HCR : Hid _:=hcr
      have HRL : Hid (rnL (LD s p) = rn s p):=hrL
      have HC : Hid (c.toNat = cn):=hccn
      have HLD : Hid (LD s p = c :: LD s (p + 1)):=hc
      have HCS : Hid (s[p] = c):=hcs
      clear hcr hrL hcs hc hccn
      by_cases hbl : cn = 32 ∨ cn = 9 ∨ cn = 10 ∨ cn = 13
      · have hst : stp (LD s p) = .skip 1:=by rw [HLD.out];have h1:=HC.out;exact stp_blank _ c.toNat (asc c _ (by omega)).1 (by rw [h1];exact hbl)
        have HN : Hid (scn (LD s (p + 1)) (p + 1) ts = R):=by show _ = _;rw [← hI.out,scn_skip hne hst,LD_drop]
        clear hI hst
        have hb : (((cn : Int) == 32) || ((cn : Int) == 9) || ((cn : Int) == 10) || ((cn : Int) == 13)) = true:=by
          simp only [Bool.or_eq_true,beq_iff_eq];omega
        cases b1 : ((cn : Int) == 32) <;> cases b2 : ((cn : Int) == 9) <;> cases b3 : ((cn : Int) == 10) <;> cases b4 : ((cn : Int) == 13)
        all_goals (rw [b1,b2,b3,b4] at hb)
        all_goals first
          | exact absurd hb (by decide)
          | (clear hb hbl
             go_wp2
             go_roundg g'
             case measure=>omega
             case rel=>exact ⟨p + 1,ts,by omega,by go_num,hown,hB,by omega,HN,by omega⟩)
      · have b1 : ((cn : Int) == 32) = false:=by rw [beq_eq_false_iff_ne];omega
        have b2 : ((cn : Int) == 9) = false:=by rw [beq_eq_false_iff_ne];omega
        have b3 : ((cn : Int) == 10) = false:=by rw [beq_eq_false_iff_ne];omega
        have b4 : ((cn : Int) == 13) = false:=by rw [beq_eq_false_iff_ne];omega
        have hbl' : ¬ (rn s p = 32 ∨ rn s p = 9 ∨ rn s p = 10 ∨ rn s p = 13):=by
          rw [HCR.out 32 (by omega),HCR.out 9 (by omega),HCR.out 10 (by omega),HCR.out 13 (by omega)];exact hbl
        obtain ⟨cm,hcm⟩ : ∃ cm,Lib.hasPrefix (LD s p) [45,45] = cm:=⟨_,rfl⟩
        have HCM : Hid (Lib.hasPrefix (LD s p) [45,45] = cm):=hcm
        have HBL : Hid (¬ (rn s p = 32 ∨ rn s p = 9 ∨ rn s p = 10 ∨ rn s p = 13)):=hbl'
        clear hcm hbl' hbl
        go_upto_region 9 with fail
        go_cut [57] from 42 to 57 (fun bw wx=>bw = .bool cm ∧ wx = wr)
        case first =>
          by_cases h45 : cn = 45
          · have b5 : ((cn : Int) == 45) = true:=by simp;omega
            have H45 : Hid (cn = 45):=h45
            clear h45
            by_cases h2 : p + 1 < s.size
            · obtain ⟨dn,hdn⟩ : ∃ dn,s[p + 1].toNat = dn:=⟨_,rfl⟩
              have HM : Hid (∀ b,((dn : Int) == 45) = b → cm = b):=fun b hb=>by
                rw [← HCM.out,HLD.out]
                obtain ⟨d,hd⟩:=LD_cons s (p + 1) h2
                have hh:=LD_head s (p + 1) h2
                rw [hd] at hh ⊢
                exact pre_two c d _ (by rw [HC.out,H45.out]) b (by rw [← hb,← hdn,← hh];rfl)
              cases b6 : ((dn : Int) == 45)
              all_goals
                go_wp2_with fail
                go_meet
                exact ⟨by rw [HM.out _ b6],rfl⟩
            · have HM : Hid (cm = false):=by
                show _ = _
                rw [← HCM.out,HLD.out,LD_nil s (p + 1) h2];exact pre_nil c
              go_wp2_with fail
              go_meet
              exact ⟨by rw [HM.out],rfl⟩
          · have b5 : ((cn : Int) == 45) = false:=by rw [beq_eq_false_iff_ne];omega
            have HM : Hid (cm = false):=by
              show _ = _
              rw [← HCM.out,HLD.out];exact pre_no c _ (by rw [HC.out];exact h45)
            go_wp2_with fail
            go_meet
            exact ⟨by rw [HM.out],rfl⟩
        case rest =>
          obtain ⟨rfl,hwc⟩:=hcut
          have hwc2:=hwc.symm
          subst hwc2
          clear hwc
          cases cm
          · have CA:=fun w=>ruat_any s p w hlt (by omega)
            unfold RAt at CA
            cases hlet : letB (rn s p)
            · cases hdig : digB (rn s p)
              · have hqd : (rn s p = 39 ∨ rn s p = 34) ↔ (cn = 39 ∨ cn = 34):=by rw [HCR.out 39 (by omega),HCR.out 34 (by omega)]
                by_cases hq : cn = 39 ∨ cn = 34
                · have hst:=stp_quote (LD s p) _ HRL.out HBL.out HCM.out hlet hdig (hqd.2 hq)
                  have hhd : (LD s p).headD 0 = c:=by rw [HLD.out];rfl
                  have hdr : (LD s p).drop 1 = LD s (p + 1):=by rw [HLD.out];rfl
                  rw [hhd,hdr] at hst
                  have CT:=fun w=>text_any s p w hlt hs c HCS.out (by rw [HC.out];exact hq)
                  have hbq : (((cn : Int) == 34) || ((cn : Int) == 39)) = true:=by simp only [Bool.or_eq_true,beq_iff_eq];omega
                  clear hhd hdr hqd hq
                  cases hqt : qt c (LD s (p + 1)) 1 [] with
                  | ok v n =>
                    rw [hqt] at hst CT
                    unfold TX at CT
                    have hnp:=((stp_pos (LD s p) hne).2 _ _ _ _ hst)
                    have hlen : (LD s p).length = s.size - p:=by simp [LD]
                    rw [hlen] at hnp
                    have HN : Hid (scn (LD s (p + n)) (p + n) (ts ++ [⟨4,v,0,p⟩]) = R):=by show _ = _;rw [← hI.out,scn_tok hne hst,LD_drop]
                    obtain ⟨tx,htx⟩ : ∃ tx : ByteArray,⟨v.toArray⟩ = tx:=⟨_,rfl⟩
                    have HTX : Hid (tx = ⟨v.toArray⟩):=htx.symm
                    simp only [htx] at CT
                    clear hst hI hlen hqt htx
                    cases b7 : ((cn : Int) == 34) <;> cases b8 : ((cn : Int) == 39)
                    all_goals rw [b7,b8] at hbq
                    all_goals first
                      | exact absurd hbq (by decide)
                      | (exfalso;have h7:=eq_of_beq b7;have h8:=eq_of_beq b8;omega)
                      | skip
                    all_goals clear hbq
                    all_goals
                      go_wp2_with (first | (go_at_call 36;refine (CA _).mono ?_;rintro e w1 ⟨rfl,hb1⟩;have hBw:=hB.trans (hb1.mono hzB);have q0:=(hBw.cell (p:=⟨w.heap.size,0,none⟩) hFl).trans c0;have q1:=(hBw.cell (p:=⟨w.heap.size,1,none⟩) hFl).trans c1;have r0:=(hBw.frozen (p:=⟨w.heap.size,0,none⟩) hFl).trans d0;have r1:=(hBw.frozen (p:=⟨w.heap.size,1,none⟩) hFl).trans d1;have hF1 : w.heap.size < w1.heap.size:=Nat.lt_of_lt_of_le hFw hb1.size;have hF2 : ¬ w.heap.size = w1.heap.size:=Nat.ne_of_lt hF1;have hF3 : ¬ w.heap.size = w1.heap.size + 1:=Nat.ne_of_lt (Nat.lt_succ_of_lt hF1)) | (go_at_call 37;refine (rletter_any _ _).mono ?_;rintro e w' ⟨rfl,rfl⟩) | (go_at_call 40;refine (rdigit_any _ _).mono ?_;rintro e w' ⟨rfl,rfl⟩) | (go_at_call 42;refine (CT _).mono ?_;rintro e w2 ⟨rfl,hb2⟩;have hB2:=below_two hb1 hb2;obtain ⟨a0,a1,a2,a3,g0,g1,g2,hl2⟩:=tk_new hb2;have hsz1:=hb1.size;have hz2:=hB2.size) | (at_builtin;refine wpList_append_own _ rfl _ _ 55 rfl W1.heap.size 63 i8 (.agg #[.int .i64 0,.string ⟨#[]⟩,.int .i64 0,.int .i64 0]) 4 40 Tryz.underlying55 hi8 hy0 hy1 hy2 rfl (by decide) (.slice av ts.length cv) ts.length (cellsT ts) rfl ?o1 ⟨w2.heap.size + 1,0,none⟩ 1 1 [.int .i64 4,.string tx,.int .i64 0,.int .i64 p] rfl rfl ?c1 ?c2 ?c3 ?c4 ?c5 ?_))
                      case o1=>exact own_below hown ((((hB2.setCell (by show _ ≤ w1.heap.size + 1;omega) _).setCell (by show _ ≤ w1.heap.size + 1;omega) _).alloc (by simp;omega) _).alloc (by simp;omega) _)
                      case c1 =>
                        intro j u hj
                        match j,hj with
                        | 0,hj=>exact c1_of _ _ (by simp) [.int .i64 4,.string tx,.int .i64 0,.int .i64 p] 63 0 u hj
                        | 1,hj=>exact c1_of _ _ (by simp) [.int .i64 4,.string tx,.int .i64 0,.int .i64 p] 63 1 u hj
                        | 2,hj=>exact c1_of _ _ (by simp) [.int .i64 4,.string tx,.int .i64 0,.int .i64 p] 63 2 u hj
                        | 3,hj=>exact c1_of _ _ (by simp) [.int .i64 4,.string tx,.int .i64 0,.int .i64 p] 63 3 u hj
                      case c2=>intro u hu;simp at hu;rcases hu with rfl | rfl | rfl | rfl <;> rfl
                      case c3=>unfold maxLen;omega
                      case c4=>omega
                      case c5=>simp;omega
                      intro v5 w5 ho5 hg5 _
                      have hB5 : Below W1.heap.size W1 w5:=((hB.trans ((((hB2.setCell (by show _ ≤ w1.heap.size + 1;omega) _).setCell (by show _ ≤ w1.heap.size + 1;omega) _).alloc (by simp;omega) _).mono hzB)).alloc (by simp;omega) _).grown hg5 (by simp;omega) (fun k hk=>(hown.lt k hk).1)
                      have ho6 : w5.ownsRow W1.heap.size 63 4 v5 (ts ++ [(⟨4,v,0,p⟩ : Tok)]).length (cellsT (ts ++ [⟨4,v,0,p⟩])):=by rw [cellsT_snoc,List.length_append];unfold cellT;rw [← HTX.out];exact ho5
                      clear ho5 hg5
                      go_wp2_with fail
                      go_roundg g'
                      case measure=>omega
                      case rel=>exact ⟨p + n,ts ++ [⟨4,v,0,p⟩],by omega,by go_num,ho6,hB5,by simp;omega,HN,by omega⟩
                  | bad cc x =>
                    rw [hqt] at hst CT
                    unfold TX at CT
                    have hbc:=stp_badc (LD s p) hne cc x hst
                    have HR : Hid (R = .bad cc (p + x)):=by show _ = _;rw [← hI.out,scn_bad hne hst]
                    have bz : ((cc : Int) != 0) = true:=by simpa using hbc.1
                    clear hst hI hqt hbc
                    cases b7 : ((cn : Int) == 34) <;> cases b8 : ((cn : Int) == 39)
                    all_goals rw [b7,b8] at hbq
                    all_goals first
                      | exact absurd hbq (by decide)
                      | (exfalso;have h7:=eq_of_beq b7;have h8:=eq_of_beq b8;omega)
                      | skip
                    all_goals clear hbq
                    all_goals
                      go_wp2_with (first | (go_at_call 36;refine (CA _).mono ?_;rintro e w1 ⟨rfl,hb1⟩;have hBw:=hB.trans (hb1.mono hzB);have q0:=(hBw.cell (p:=⟨w.heap.size,0,none⟩) hFl).trans c0;have q1:=(hBw.cell (p:=⟨w.heap.size,1,none⟩) hFl).trans c1;have r0:=(hBw.frozen (p:=⟨w.heap.size,0,none⟩) hFl).trans d0;have r1:=(hBw.frozen (p:=⟨w.heap.size,1,none⟩) hFl).trans d1;have hF1 : w.heap.size < w1.heap.size:=Nat.lt_of_lt_of_le hFw hb1.size;have hF2 : ¬ w.heap.size = w1.heap.size:=Nat.ne_of_lt hF1;have hF3 : ¬ w.heap.size = w1.heap.size + 1:=Nat.ne_of_lt (Nat.lt_succ_of_lt hF1)) | (go_at_call 37;refine (rletter_any _ _).mono ?_;rintro e w' ⟨rfl,rfl⟩) | (go_at_call 40;refine (rdigit_any _ _).mono ?_;rintro e w' ⟨rfl,rfl⟩) | (go_at_call 42;refine (CT _).mono ?_;rintro e w2 ⟨rfl,hb2⟩;have hBz:=hB.trans ((below_two hb1 hb2).mono hzB);have s0:=(hBz.cell (p:=⟨w.heap.size,0,none⟩) hFl).trans c0;have s1:=(hBz.cell (p:=⟨w.heap.size,1,none⟩) hFl).trans c1;have t0:=(hBz.frozen (p:=⟨w.heap.size,0,none⟩) hFl).trans d0;have t1:=(hBz.frozen (p:=⟨w.heap.size,1,none⟩) hFl).trans d1;have hF4 : w.heap.size < w2.heap.size:=Nat.lt_of_lt_of_le hFl hBz.size;have hF5 : ¬ w.heap.size = w2.heap.size:=Nat.ne_of_lt hF4))
                      go_region
                      go_wp2_with fail
                      exact bodyPost_ret (v:=.tuple #[.slice none 0 0,.agg #[.int .i64 cc,.int .i64 ((p + x : Nat) : Int)]]) (by simp [results,Tryz.results23,go_sem,s0,s1,hF4,hF5]) rfl (RV.bad HR.out rfl (bdr ((FIN.out _ _ _ _ hBz rfl).alloc (by simp;omega) _)))
                · have hst:=stp_sign (LD s p) _ HRL.out HBL.out HCM.out hlet hdig (fun h=>hq (hqd.1 h))
                  have CS:=fun w=>rsign_any s p w hlt hs
                  obtain ⟨n,hn⟩ : ∃ n,sgz (LD s p) = n:=⟨_,rfl⟩
                  rw [hn] at hst CS
                  have hnl : ((LD s p).take n).length = n:=by
                    rw [List.length_take]
                    have hlen : (LD s p).length = s.size - p:=by simp [LD]
                    have h0 : n ≤ (LD s p).length:=by
                      rw [← hn];exact (sgz_le _).2
                    omega
                  clear hn
                  obtain ⟨tx,htx⟩ : ∃ tx : ByteArray,⟨((LD s p).take n).toArray⟩ = tx:=⟨_,rfl⟩
                  have HTX : Hid (tx = ⟨((LD s p).take n).toArray⟩):=htx.symm
                  have hts : tx.size = n:=by rw [← htx];show ((LD s p).take n).toArray.size = n;rw [List.size_toArray,hnl]
                  rw [htx] at CS
                  have b7 : ((cn : Int) == 34) = false:=by rw [beq_eq_false_iff_ne];omega
                  have b8 : ((cn : Int) == 39) = false:=by rw [beq_eq_false_iff_ne];omega
                  clear htx hqd hnl
                  by_cases hz : n = 0
                  · rw [if_pos hz] at hst
                    have HR : Hid (R = .bad 4 p):=by show _ = _;rw [← hI.out,scn_bad hne hst];rfl
                    have bz : ((n : Int) == 0) = true:=by simp [hz]
                    clear hst hI hz
                    go_wp2_with (first | (go_at_call 36;refine (CA _).mono ?_;rintro e w1 ⟨rfl,hb1⟩;have hBw:=hB.trans (hb1.mono hzB);have q0:=(hBw.cell (p:=⟨w.heap.size,0,none⟩) hFl).trans c0;have q1:=(hBw.cell (p:=⟨w.heap.size,1,none⟩) hFl).trans c1;have r0:=(hBw.frozen (p:=⟨w.heap.size,0,none⟩) hFl).trans d0;have r1:=(hBw.frozen (p:=⟨w.heap.size,1,none⟩) hFl).trans d1;have hF1 : w.heap.size < w1.heap.size:=Nat.lt_of_lt_of_le hFw hb1.size;have hF2 : ¬ w.heap.size = w1.heap.size:=Nat.ne_of_lt hF1;have hF3 : ¬ w.heap.size = w1.heap.size + 1:=Nat.ne_of_lt (Nat.lt_succ_of_lt hF1)) | (go_at_call 37;refine (rletter_any _ _).mono ?_;rintro e w' ⟨rfl,rfl⟩) | (go_at_call 40;refine (rdigit_any _ _).mono ?_;rintro e w' ⟨rfl,rfl⟩) | (go_at_call 43;refine (CS _).mono ?_;rintro e w' ⟨rfl,rfl⟩))
                    exact bodyPost_ret (v:=.tuple #[.slice none 0 0,.agg #[.int .i64 4,.int .i64 p]]) (by simp [results,Tryz.results23,go_sem,q0,q1,hF1,hF2,hF3]) rfl (RV.bad HR.out rfl (((FIN.out _ _ _ _ hBw rfl).alloc (by simp;omega) _).alloc (by simp;omega) _))
                  · rw [if_neg hz] at hst
                    have hnp:=((stp_pos (LD s p) hne).2 _ _ _ _ hst)
                    have hlen : (LD s p).length = s.size - p:=by simp [LD]
                    rw [hlen] at hnp
                    have HN : Hid (scn (LD s (p + n)) (p + n) (ts ++ [⟨5,(LD s p).take n,0,p⟩]) = R):=by show _ = _;rw [← hI.out,scn_tok hne hst,LD_drop]
                    have bz : ((n : Int) == 0) = false:=by rw [beq_eq_false_iff_ne];omega
                    clear hst hI hz hlen
                    go_wp2_with (first | (go_at_call 36;refine (CA _).mono ?_;rintro e w1 ⟨rfl,hb1⟩;have hBw:=hB.trans (hb1.mono hzB);have q0:=(hBw.cell (p:=⟨w.heap.size,0,none⟩) hFl).trans c0;have q1:=(hBw.cell (p:=⟨w.heap.size,1,none⟩) hFl).trans c1;have r0:=(hBw.frozen (p:=⟨w.heap.size,0,none⟩) hFl).trans d0;have r1:=(hBw.frozen (p:=⟨w.heap.size,1,none⟩) hFl).trans d1;have hF1 : w.heap.size < w1.heap.size:=Nat.lt_of_lt_of_le hFw hb1.size;have hF2 : ¬ w.heap.size = w1.heap.size:=Nat.ne_of_lt hF1;have hF3 : ¬ w.heap.size = w1.heap.size + 1:=Nat.ne_of_lt (Nat.lt_succ_of_lt hF1)) | (go_at_call 37;refine (rletter_any _ _).mono ?_;rintro e w' ⟨rfl,rfl⟩) | (go_at_call 40;refine (rdigit_any _ _).mono ?_;rintro e w' ⟨rfl,rfl⟩) | (go_at_call 43;refine (CS _).mono ?_;rintro e w' ⟨rfl,rfl⟩) | (at_builtin;refine wpList_append_own _ rfl _ _ 55 rfl W1.heap.size 63 i8 (.agg #[.int .i64 0,.string ⟨#[]⟩,.int .i64 0,.int .i64 0]) 4 40 Tryz.underlying55 hi8 hy0 hy1 hy2 rfl (by decide) (.slice av ts.length cv) ts.length (cellsT ts) rfl ?o1 ⟨w1.heap.size + 2,0,none⟩ 1 1 [.int .i64 5,.string tx,.int .i64 0,.int .i64 p] rfl rfl ?c1 ?c2 ?c3 ?c4 ?c5 ?_))
                    all_goals have hsz1:=hb1.size
                    case o1=>exact own_below hown (((hb1.alloc hb1.size _).alloc (by simp;omega) _).alloc (by simp;omega) _)
                    case c1 =>
                      intro j u hj
                      match j,hj with
                      | 0,hj=>exact c1_of _ _ (by simp) [.int .i64 5,.string tx,.int .i64 0,.int .i64 p] 63 0 u hj
                      | 1,hj=>exact c1_of _ _ (by simp) [.int .i64 5,.string tx,.int .i64 0,.int .i64 p] 63 1 u hj
                      | 2,hj=>exact c1_of _ _ (by simp) [.int .i64 5,.string tx,.int .i64 0,.int .i64 p] 63 2 u hj
                      | 3,hj=>exact c1_of _ _ (by simp) [.int .i64 5,.string tx,.int .i64 0,.int .i64 p] 63 3 u hj
                    case c2=>intro u hu;simp at hu;rcases hu with rfl | rfl | rfl | rfl <;> rfl
                    case c3=>unfold maxLen;omega
                    case c4=>omega
                    case c5=>simp;omega
                    intro v5 w5 ho5 hg5 _
                    have hB5 : Below W1.heap.size W1 w5:=((hB.trans (((hb1.alloc hb1.size _).alloc (by simp;omega) _).mono hzB)).alloc (by simp;omega) _).grown hg5 (by simp;omega) (fun k hk=>(hown.lt k hk).1)
                    have ho6 : w5.ownsRow W1.heap.size 63 4 v5 (ts ++ [(⟨5,(LD s p).take n,0,p⟩ : Tok)]).length (cellsT (ts ++ [⟨5,(LD s p).take n,0,p⟩])):=by rw [cellsT_snoc,List.length_append];unfold cellT;rw [← HTX.out];exact ho5
                    clear ho5 hg5
                    go_wp2_with fail
                    go_roundg g'
                    case measure=>omega
                    case rel=>exact ⟨p + n,ts ++ [⟨5,(LD s p).take n,0,p⟩],by omega,by go_num,ho6,hB5,by simp;omega,HN,by omega⟩
              · have hst:=stp_number (LD s p) _ HRL.out HBL.out HCM.out hlet hdig
                have CN:=fun w=>names_any s p w (by omega) hs
                obtain ⟨n,hn⟩ : ∃ n,spn inNm (LD s p) = n:=⟨_,rfl⟩
                have hnl : n ≤ s.size - p:=by have:=spn_le inNm (LD s p);rw [hn] at this;simpa [LD] using this
                rw [hn] at hst CN
                clear hn
                have CP:=fun w=>W.rparse_any (s.extract p (p + n)) w (ext_size s _ _ hs)
                rw [ext_LD] at CP
                obtain ⟨tx,htx⟩ : ∃ tx,s.extract p (p + n) = tx:=⟨_,rfl⟩
                have HTX : Hid (tx = ⟨((LD s p).take n).toArray⟩):=by show _ = _;rw [← htx,ext_tk]
                rw [htx] at CP
                obtain ⟨pe,hpe⟩ : ∃ pe,W.parE ((LD s p).take n) = pe:=⟨_,rfl⟩
                obtain ⟨pn,hpn⟩ : ∃ pn,W.parN ((LD s p).take n) = pn:=⟨_,rfl⟩
                rw [hpe,hpn] at CP hst
                clear hpe hpn
                by_cases hz : pe = 0
                · rw [if_neg (by simpa using hz)] at hst
                  have hnp:=((stp_pos (LD s p) hne).2 _ _ _ _ hst).1
                  have HN : Hid (scn (LD s (p + n)) (p + n) (ts ++ [⟨3,(LD s p).take n,pn,p⟩]) = R):=by show _ = _;rw [← hI.out,scn_tok hne hst,LD_drop]
                  have bz : ((pe : Int) != 0) = false:=by simp [hz]
                  clear hst hI hz
                  go_wp2_with (first
                  | (go_at_call 36;refine (CA _).mono ?_;rintro e w1 ⟨rfl,hb1⟩)
                  | (go_at_call 37;refine (rletter_any _ _).mono ?_;rintro e w' ⟨rfl,rfl⟩)
                  | (go_at_call 40;refine (rdigit_any _ _).mono ?_;rintro e w' ⟨rfl,rfl⟩)
                  | (go_at_call 41;refine (CP _).mono ?_;rintro e w' ⟨rfl,hw'⟩;rw [hw'];clear hw')
                  | (go_at_call 38;refine (CN _).mono ?_;rintro e w2 ⟨rfl,hb2⟩;have hB2:=below_two hb1 hb2;obtain ⟨a0,a1,a2,a3,g0,g1,g2,hl2⟩:=tk_new hb2))
                  have hsz1:=hb1.size
                  clear hb1 hb2
                  have hX1 : ∀ x y z : Value,Below wr.heap.size wr (((w2.setCell ⟨w1.heap.size + 1,0,none⟩ x).setCell ⟨w1.heap.size + 1,1,none⟩ y).setCell ⟨w1.heap.size + 1,2,none⟩ z).drew:=fun x y z=>bdr (((hB2.setCell (by show _ ≤ w1.heap.size + 1;omega) _).setCell (by show _ ≤ w1.heap.size + 1;omega) _).setCell (by show _ ≤ w1.heap.size + 1;omega) _)
                  have hz2:=hB2.size
                  go_region
                  go_wp2_with (at_builtin;refine wpList_append_own _ rfl _ _ 55 rfl W1.heap.size 63 i8 (.agg #[.int .i64 0,.string ⟨#[]⟩,.int .i64 0,.int .i64 0]) 4 40 Tryz.underlying55 hi8 hy0 hy1 hy2 rfl (by decide) (.slice av ts.length cv) ts.length (cellsT ts) rfl ?o1 ⟨w2.heap.size,0,none⟩ 1 1 [.int .i64 3,.string tx,.int .i64 pn,.int .i64 p] rfl rfl ?c1 ?c2 ?c3 ?c4 ?c5 ?_)
                  case o1=>exact own_below hown ((hX1 _ _ _).alloc (by simp;omega) _)
                  case c1 =>
                    intro j u hj
                    match j,hj with
                    | 0,hj=>exact c1_of _ _ (by simp) [.int .i64 3,.string tx,.int .i64 pn,.int .i64 p] 63 0 u hj
                    | 1,hj=>exact c1_of _ _ (by simp) [.int .i64 3,.string tx,.int .i64 pn,.int .i64 p] 63 1 u hj
                    | 2,hj=>exact c1_of _ _ (by simp) [.int .i64 3,.string tx,.int .i64 pn,.int .i64 p] 63 2 u hj
                    | 3,hj=>exact c1_of _ _ (by simp) [.int .i64 3,.string tx,.int .i64 pn,.int .i64 p] 63 3 u hj
                  case c2=>intro u hu;simp at hu;rcases hu with rfl | rfl | rfl | rfl <;> rfl
                  case c3=>unfold maxLen;omega
                  case c4=>omega
                  case c5=>simp;omega
                  intro v5 w5 ho5 hg5 _
                  have hB5 : Below W1.heap.size W1 w5:=((hB.trans ((hX1 _ _ _).mono hzB)).alloc (by simp;omega) _).grown hg5 (by simp;omega) (fun k hk=>(hown.lt k hk).1)
                  have ho6 : w5.ownsRow W1.heap.size 63 4 v5 (ts ++ [(⟨3,(LD s p).take n,pn,p⟩ : Tok)]).length (cellsT (ts ++ [⟨3,(LD s p).take n,pn,p⟩])):=by rw [cellsT_snoc,List.length_append];unfold cellT;rw [← HTX.out];exact ho5
                  clear ho5 hg5
                  go_wp2_with fail
                  go_roundg g'
                  case measure=>omega
                  case rel=>exact ⟨p + n,ts ++ [⟨3,(LD s p).take n,pn,p⟩],by omega,by go_num,ho6,hB5,by simp;omega,HN,by omega⟩
                · rw [if_pos hz] at hst
                  have HR : Hid (R = .bad pe p):=by show _ = _;rw [← hI.out,scn_bad hne hst];rfl
                  have bz : ((pe : Int) != 0) = true:=by simpa using hz
                  clear hst hI hz
                  go_wp2_with (first
                  | (go_at_call 36;refine (CA _).mono ?_;rintro e w1 ⟨rfl,hb1⟩)
                  | (go_at_call 37;refine (rletter_any _ _).mono ?_;rintro e w' ⟨rfl,rfl⟩)
                  | (go_at_call 40;refine (rdigit_any _ _).mono ?_;rintro e w' ⟨rfl,rfl⟩)
                  | (go_at_call 41;refine (CP _).mono ?_;rintro e w' ⟨rfl,hw'⟩;rw [hw'];clear hw')
                  | (go_at_call 38;refine (CN _).mono ?_;rintro e w2 ⟨rfl,hb2⟩;have hBz:=hB.trans ((below_two hb1 hb2).mono hzB);have q0:=(hBz.cell (p:=⟨w.heap.size,0,none⟩) hFl).trans c0;have q1:=(hBz.cell (p:=⟨w.heap.size,1,none⟩) hFl).trans c1;have r0:=(hBz.frozen (p:=⟨w.heap.size,0,none⟩) hFl).trans d0;have r1:=(hBz.frozen (p:=⟨w.heap.size,1,none⟩) hFl).trans d1))
                  exact bodyPost_ret (v:=.tuple #[.slice none 0 0,.agg #[.int .i64 pe,.int .i64 p]]) (by simp [results,Tryz.results23,go_sem,q0,q1]) rfl (RV.bad HR.out rfl (FIN.out _ _ _ _ hBz rfl))
            · have hst:=stp_name (LD s p) _ HRL.out HBL.out HCM.out hlet
              have CN:=fun w=>names_any s p w (by omega) hs
              obtain ⟨n,hn⟩ : ∃ n,spn inNm (LD s p) = n:=⟨_,rfl⟩
              have hnl : n ≤ s.size - p:=by have:=spn_le inNm (LD s p);rw [hn] at this;simpa [LD] using this
              rw [hn] at hst CN
              clear hn
              by_cases h40 : 40 < n
              · rw [if_pos h40] at hst
                have HR : Hid (R = .bad 14 p):=by show _ = _;rw [← hI.out,scn_bad hne hst];rfl
                clear hst hI
                go_wp2_with (first
                  | (go_at_call 36;refine (CA _).mono ?_;rintro e w1 ⟨rfl,hb1⟩)
                  | (go_at_call 37;refine (rletter_any _ _).mono ?_;rintro e w' ⟨rfl,rfl⟩)
                  | (go_at_call 38;refine (CN _).mono ?_;rintro e w2 ⟨rfl,hb2⟩;have hB2:=hB.trans ((below_two hb1 hb2).mono hzB);have q0:=(hB2.cell (p:=⟨w.heap.size,0,none⟩) hFl).trans c0;have q1:=(hB2.cell (p:=⟨w.heap.size,1,none⟩) hFl).trans c1;have r0:=(hB2.frozen (p:=⟨w.heap.size,0,none⟩) hFl).trans d0;have r1:=(hB2.frozen (p:=⟨w.heap.size,1,none⟩) hFl).trans d1))
                exact bodyPost_ret (v:=.tuple #[.slice none 0 0,.agg #[.int .i64 14,.int .i64 p]]) (by simp [results,Tryz.results23,go_sem,q0,q1]) rfl (RV.bad HR.out rfl (FIN.out _ _ _ _ hB2 rfl))
              · rw [if_neg h40] at hst
                have hnp:=((stp_pos (LD s p) hne).2 _ _ _ _ hst).1
                obtain ⟨kk,hkk⟩ : ∃ kk : Int,(if wordB ((LD s p).take n) then 2 else 1) = kk:=⟨_,rfl⟩
                rw [hkk] at hst
                have HN : Hid (scn (LD s (p + n)) (p + n) (ts ++ [⟨kk,(LD s p).take n,0,p⟩]) = R):=by show _ = _;rw [← hI.out,scn_tok hne hst,LD_drop]
                have CW:=fun w=>rIsWord_any (s.extract p (p + n)) w
                rw [ext_LD] at CW
                obtain ⟨tx,htx⟩ : ∃ tx,s.extract p (p + n) = tx:=⟨_,rfl⟩
                have HTX : Hid (tx = ⟨((LD s p).take n).toArray⟩):=by show _ = _;rw [← htx,ext_tk]
                rw [htx] at CW
                obtain ⟨wb,hwb⟩ : ∃ wb,wordB ((LD s p).take n) = wb:=⟨_,rfl⟩
                rw [hwb] at CW hkk
                have HKK : Hid ((if wb then 2 else 1) = kk):=hkk
                clear hst hI hkk hwb
                go_wp2_with (first
                  | (go_at_call 36;refine (CA _).mono ?_;rintro e w1 ⟨rfl,hb1⟩)
                  | (go_at_call 37;refine (rletter_any _ _).mono ?_;rintro e w' ⟨rfl,rfl⟩)
                  | (go_at_call 38;refine (CN _).mono ?_;rintro e w2 ⟨rfl,hb2⟩;have hB2:=below_two hb1 hb2;obtain ⟨a0,a1,a2,a3,g0,g1,g2,hl2⟩:=tk_new hb2))
                have hsz1:=hb1.size
                clear hb1 hb2
                have hX1 : ∀ x y : Value,Below wr.heap.size wr ((w2.setCell ⟨w1.heap.size + 1,0,none⟩ x).setCell ⟨w1.heap.size + 1,1,none⟩ y).drew:=fun x y=>bdr ((hB2.setCell (by show _ ≤ w1.heap.size + 1;omega) _).setCell (by show _ ≤ w1.heap.size + 1;omega) _)
                have hX2 : ∀ x y z : Value,Below wr.heap.size wr (((w2.setCell ⟨w1.heap.size + 1,0,none⟩ x).setCell ⟨w1.heap.size + 1,1,none⟩ y).drew.setCell ⟨w1.heap.size + 1,0,none⟩ z):=fun x y z=>(hX1 x y).setCell (by show _ ≤ w1.heap.size + 1;omega) _
                have hz2:=hB2.size
                go_region
                cases wb
                · have hk2:=HKK.out
                  simp only [Bool.false_eq_true,if_false] at hk2
                  subst hk2
                  go_wp2_with (first
                    | (go_at_call 39;refine (CW _).mono ?_;rintro e w' ⟨rfl,rfl⟩)
                    | (at_builtin;refine wpList_append_own _ rfl _ _ 55 rfl W1.heap.size 63 i8 (.agg #[.int .i64 0,.string ⟨#[]⟩,.int .i64 0,.int .i64 0]) 4 40 Tryz.underlying55 hi8 hy0 hy1 hy2 rfl (by decide) (.slice av ts.length cv) ts.length (cellsT ts) rfl ?o1 ⟨w2.heap.size,0,none⟩ 1 1 [.int .i64 1,.string tx,.int .i64 0,.int .i64 p] rfl rfl ?c1 ?c2 ?c3 ?c4 ?c5 ?_))
                  case o1=>exact own_below hown ((hX1 _ _).alloc (by simp;omega) _)
                  case c1 =>
                    intro j u hj
                    match j,hj with
                    | 0,hj=>exact c1_of _ _ (by simp) [.int .i64 1,.string tx,.int .i64 0,.int .i64 p] 63 0 u hj
                    | 1,hj=>exact c1_of _ _ (by simp) [.int .i64 1,.string tx,.int .i64 0,.int .i64 p] 63 1 u hj
                    | 2,hj=>exact c1_of _ _ (by simp) [.int .i64 1,.string tx,.int .i64 0,.int .i64 p] 63 2 u hj
                    | 3,hj=>exact c1_of _ _ (by simp) [.int .i64 1,.string tx,.int .i64 0,.int .i64 p] 63 3 u hj
                  case c2=>intro u hu;simp at hu;rcases hu with rfl | rfl | rfl | rfl <;> rfl
                  case c3=>unfold maxLen;omega
                  case c4=>omega
                  case c5=>simp;omega
                  intro v5 w5 ho5 hg5 _
                  have hB5 : Below W1.heap.size W1 w5:=((hB.trans ((hX1 _ _).mono hzB)).alloc (by simp;omega) _).grown hg5 (by simp;omega) (fun k hk=>(hown.lt k hk).1)
                  have ho6 : w5.ownsRow W1.heap.size 63 4 v5 (ts ++ [(⟨1,(LD s p).take n,0,p⟩ : Tok)]).length (cellsT (ts ++ [⟨1,(LD s p).take n,0,p⟩])):=by rw [cellsT_snoc,List.length_append];unfold cellT;rw [← HTX.out];exact ho5
                  clear ho5 hg5
                  go_wp2_with fail
                  go_roundg g'
                  case measure=>omega
                  case rel=>exact ⟨p + n,ts ++ [⟨1,(LD s p).take n,0,p⟩],by omega,by go_num,ho6,hB5,by simp;omega,HN,by omega⟩
                · have hk2:=HKK.out
                  simp only [if_true] at hk2
                  subst hk2
                  go_wp2_with (first
                    | (go_at_call 39;refine (CW _).mono ?_;rintro e w' ⟨rfl,rfl⟩)
                    | (at_builtin;refine wpList_append_own _ rfl _ _ 55 rfl W1.heap.size 63 i8 (.agg #[.int .i64 0,.string ⟨#[]⟩,.int .i64 0,.int .i64 0]) 4 40 Tryz.underlying55 hi8 hy0 hy1 hy2 rfl (by decide) (.slice av ts.length cv) ts.length (cellsT ts) rfl ?o1 ⟨w2.heap.size,0,none⟩ 1 1 [.int .i64 2,.string tx,.int .i64 0,.int .i64 p] rfl rfl ?c1 ?c2 ?c3 ?c4 ?c5 ?_))
                  case o1=>exact own_below hown ((hX2 _ _ _).alloc (by simp;omega) _)
                  case c1 =>
                    intro j u hj
                    match j,hj with
                    | 0,hj=>exact c1_of _ _ (by simp) [.int .i64 2,.string tx,.int .i64 0,.int .i64 p] 63 0 u hj
                    | 1,hj=>exact c1_of _ _ (by simp) [.int .i64 2,.string tx,.int .i64 0,.int .i64 p] 63 1 u hj
                    | 2,hj=>exact c1_of _ _ (by simp) [.int .i64 2,.string tx,.int .i64 0,.int .i64 p] 63 2 u hj
                    | 3,hj=>exact c1_of _ _ (by simp) [.int .i64 2,.string tx,.int .i64 0,.int .i64 p] 63 3 u hj
                  case c2=>intro u hu;simp at hu;rcases hu with rfl | rfl | rfl | rfl <;> rfl
                  case c3=>unfold maxLen;omega
                  case c4=>omega
                  case c5=>simp;omega
                  intro v5 w5 ho5 hg5 _
                  have hB5 : Below W1.heap.size W1 w5:=((hB.trans ((hX2 _ _ _).mono hzB)).alloc (by simp;omega) _).grown hg5 (by simp;omega) (fun k hk=>(hown.lt k hk).1)
                  have ho6 : w5.ownsRow W1.heap.size 63 4 v5 (ts ++ [(⟨2,(LD s p).take n,0,p⟩ : Tok)]).length (cellsT (ts ++ [⟨2,(LD s p).take n,0,p⟩])):=by rw [cellsT_snoc,List.length_append];unfold cellT;rw [← HTX.out];exact ho5
                  clear ho5 hg5
                  go_wp2_with fail
                  go_roundg g'
                  case measure=>omega
                  case rel=>exact ⟨p + n,ts ++ [⟨2,(LD s p).take n,0,p⟩],by omega,by go_num,ho6,hB5,by simp;omega,HN,by omega⟩
          · have hst:=stp_comment (LD s p) _ HRL.out HBL.out HCM.out
            rw [spn_nl] at hst
            obtain ⟨m,hm⟩ : ∃ m,((LD s p).takeWhile fun c=>decide (c.toNat ≠ 10)).length = m:=⟨_,rfl⟩
            rw [hm] at hst
            have hmp:=(stp_pos (LD s p) hne).1 m hst
            have hlen : (LD s p).length = s.size - p:=by simp [LD]
            rw [hlen] at hmp
            have HN : Hid (scn (LD s (p + m)) (p + m) ts = R):=by show _ = _;rw [← hI.out,scn_skip hne hst,LD_drop]
            have HTM : Hid (p + ((LD s p).takeWhile fun c=>decide (c.toNat ≠ 10)).length = p + m):=by show _ = _;rw [hm]
            clear hst hm hI hlen
            go_wp2_with fail
            go_loopg [5] (s.size + 1) (fun gf v5 wx=>∃ q : Nat,p ≤ q ∧ q ≤ s.size ∧ v5 = .int .i64 q ∧ Hid (q + ((LD s q).takeWhile fun c=>decide (c.toNat ≠ 10)).length = p + m) ∧ wx = wr ∧ s.size < q + gf)
            case atStart=>exact ⟨p,Nat.le_refl _,by omega,rfl,HTM,rfl,by omega⟩
            case round =>
              obtain ⟨q,hpq,hqs,rfl,hT,rfl,hfu2⟩:=hrel
              by_cases hq : q < s.size
              · obtain ⟨g2,rfl⟩ : ∃ g2,gk = g2 + 1:=⟨gk - 1,by omega⟩
                obtain ⟨d,hd⟩:=LD_cons s q hq
                have hh:=LD_head s q hq
                rw [hd] at hh
                have hdd : d = s[q]:=hh
                obtain ⟨dn,hdn⟩ : ∃ dn,s[q].toNat = dn:=⟨_,rfl⟩
                have hT1:=hT.out
                rw [hd,List.takeWhile_cons,hdd,hdn] at hT1
                clear hT hd hh hdd
                by_cases h10 : dn = 10
                · have b5 : ((dn : Int) != 10) = false:=by simp;omega
                  have HQ : Hid (q = p + m):=by show _ = _;rw [← hT1];simp [h10]
                  clear hT1 h10
                  go_wp2_with fail
                  go_roundg g'
                  case measure=>omega
                  case rel=>exact ⟨q,ts,hqs,rfl,hown,hB,by omega,by have h:=HQ.out;subst h;exact HN,by have h:=HQ.out;omega⟩
                · have b5 : ((dn : Int) != 10) = true:=by simp;omega
                  have HT2 : Hid (q + 1 + ((LD s (q + 1)).takeWhile fun c=>decide (c.toNat ≠ 10)).length = p + m):=by
                    show _ = _;rw [← hT1];simp [h10];omega
                  clear hT1 h10
                  go_wp2_with fail
                  go_roundg g2
                  case measure=>omega
                  case rel=>exact ⟨q + 1,by omega,by omega,by go_num,HT2,rfl,by omega⟩
              · have HQ : Hid (q = p + m):=by show _ = _;rw [← hT.out,LD_nil s q hq];rfl
                clear hT
                go_wp2_with fail
                go_roundg g'
                case measure=>omega
                case rel=>exact ⟨q,ts,hqs,rfl,hown,hB,by omega,by have h:=HQ.out;subst h;exact HN,by have h:=HQ.out;omega⟩
    · have HR : Hid (R = .ok (ts ++ [⟨6,[],0,s.size⟩])):=by show _ = _;rw [← hI.out,LD_nil s p hlt,scn_nil,show p = s.size by omega]
      clear hI
      go_wp2_with (at_builtin;refine wpList_append_own _ rfl _ _ 55 rfl W1.heap.size 63 i8 (.agg #[.int .i64 0,.string ⟨#[]⟩,.int .i64 0,.int .i64 0]) 4 40 Tryz.underlying55 hi8 hy0 hy1 hy2 rfl (by decide) (.slice av ts.length cv) ts.length (cellsT ts) rfl (World.ownsRow.alloc hown _) ⟨wr.heap.size,0,none⟩ 1 1 [.int .i64 6,.string ⟨#[]⟩,.int .i64 0,.int .i64 s.size] rfl rfl ?c1 ?c2 ?c3 ?c4 ?c5 ?_)
      case c1 =>
        intro j u hj
        match j,hj with
        | 0,hj=>simp at hj;subst hj;exact (new_cell wr [.int .i64 6,.string ⟨#[]⟩,.int .i64 0,.int .i64 s.size] 63 0 _ rfl).1
        | 1,hj=>simp at hj;subst hj;exact (new_cell wr [.int .i64 6,.string ⟨#[]⟩,.int .i64 0,.int .i64 s.size] 63 1 _ rfl).1
        | 2,hj=>simp at hj;subst hj;exact (new_cell wr [.int .i64 6,.string ⟨#[]⟩,.int .i64 0,.int .i64 s.size] 63 2 _ rfl).1
        | 3,hj=>simp at hj;subst hj;exact (new_cell wr [.int .i64 6,.string ⟨#[]⟩,.int .i64 0,.int .i64 s.size] 63 3 _ rfl).1
      case c2=>intro u hu;simp at hu;rcases hu with rfl | rfl | rfl | rfl <;> rfl
      case c3=>unfold maxLen;omega
      case c4=>omega
      case c5=>simp;omega
      intro v5 w5 ho5 hg5 _
      have hB5 : Below W1.heap.size W1 w5:=(hB.alloc hzB _).grown hg5 (by simp;omega) (fun k hk=>(hown.lt k hk).1)
      have ho6 : w5.ownsRow W1.heap.size 63 4 v5 (ts ++ [(⟨6,[],0,s.size⟩ : Tok)]).length (cellsT (ts ++ [⟨6,[],0,s.size⟩])):=by rw [cellsT_snoc,List.length_append];exact ho5
      obtain ⟨a6,c6,rfl⟩:=slice_shape ho6
      have q0:=(hB5.cell (p:=⟨w.heap.size,0,none⟩) hFl).trans c0
      have q1:=(hB5.cell (p:=⟨w.heap.size,1,none⟩) hFl).trans c1
      have r0:=(hB5.frozen (p:=⟨w.heap.size,0,none⟩) hFl).trans d0
      have r1:=(hB5.frozen (p:=⟨w.heap.size,1,none⟩) hFl).trans d1
      clear ho5 hg5
      go_wp2_with fail
      have ho7 : ∀ x y,((w5.setCell ⟨w.heap.size,0,none⟩ x).setCell ⟨w.heap.size,1,none⟩ y).ownsRow w.heap.size 63 4 (.slice a6 (ts ++ [(⟨6,[],0,s.size⟩ : Tok)]).length c6) (ts ++ [(⟨6,[],0,s.size⟩ : Tok)]).length (cellsT (ts ++ [⟨6,[],0,s.size⟩])):=fun x y =>
        own_base (ownsRow_setCell_below (ownsRow_setCell_below ho6 hFl x) hFl y) (Nat.le_of_lt hFl)
      exact bodyPost_ret (v:=.tuple #[.slice a6 (ts ++ [(⟨6,[],0,s.size⟩ : Tok)]).length c6,.agg #[.int .i64 0,.int .i64 0]]) (by simp [results,Tryz.results23,go_sem,q0,q1]) rfl ⟨_,_,0,0,rfl,by rw [HR.out],ho7 _ _,FIN.out _ _ _ _ hB5 rfl⟩
end Go.Proofs.YtlgkfhipobdcfaaGreatDoor
