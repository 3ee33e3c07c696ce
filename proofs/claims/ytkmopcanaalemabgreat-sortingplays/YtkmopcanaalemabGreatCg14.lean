import Derived.Test.YtkmopcanaalemabGreatCg12
import Derived.BigRegion
import Derived.Deep.DeepCutAuto
namespace Go.Proofs.YtkmopcanaalemabGreat
open Go.RowKit
set_option maxRecDepth 20000 in
set_option maxHeartbeats 40000000 in
theorem part_gt {No : Nat → Prop} {w : World} {B : Nat} {wv : Value} {T A b a S hb c : Nat} {d : SD} (h : So No w B wv T A b a S hb c d) (hc : c ≤ 500000) (b1 : -2305843009213693952 ≤ d.1.lo) (b2 : d.1.lo ≤ 2305843009213693952) (b3 : -2305843009213693952 ≤ d.1.up) (b4 : d.1.up ≤ 2305843009213693952) (b7 : -2305843009213693952 ≤ d.1.i) (b8 : d.1.i ≤ 2305843009213693952) (hwl : d.1.wt.length ≤ 900000) (hr : ∀ r ∈ d.1.wt,r.1 < r.2 → -4611686018427387904 ≤ r.1 ∧ r.2 ≤ 4611686018427387904) (hcd : ¬ (d.1.up - d.1.i ≤ d.1.i - d.1.lo)) :
    Calls Tryz.prog 105 #[.pointer (some ⟨B,0,none⟩)] w (GP No w B T S hb (c + 18) (partR d)):=by
  obtain ⟨ad,cap0,ewv⟩:=h.form
  subst ewv
  have HRO : Hid (∀ r ∈ [(d.1.lo,d.1.i - 1),(d.1.i + 1,d.1.up)] ++ d.1.wt,r.1 < r.2 → -4611686018427387904 ≤ r.1 ∧ r.2 ≤ 4611686018427387904):=fun r hr' hlt=>by
    rcases List.mem_append.1 hr' with e | e
    · simp only [List.mem_cons,List.not_mem_nil,or_false] at e
      rcases e with rfl | rfl
      · exact ⟨by simp only;omega,by simp only;omega⟩
      · exact ⟨by simp only;omega,by simp only;omega⟩
    · exact hr r e hlt
  clear hr
  obtain ⟨N2,s0,HF0⟩:=h.tell2
  have HF : Hid _:=HF0
  obtain ⟨W0,hW0⟩ : ∃ W0,w.alloc z8 = W0:=⟨_,rfl⟩
  rw [hW0] at HF s0
  unfold z8 at hW0
  clear HF0
  have a1 : W0.cell? ⟨B,1,none⟩ = some (.int .i64 d.1.lo):=s0.so.cell (j:=1) rfl
  have a2 : W0.cell? ⟨B,2,none⟩ = some (.int .i64 d.1.up):=s0.so.cell (j:=2) rfl
  have a5 : W0.cell? ⟨B,5,none⟩ = some (.int .i64 d.1.p):=s0.so.cell (j:=5) rfl
  have a6 : W0.cell? ⟨B,6,none⟩ = some (.int .i64 d.1.i):=s0.so.cell (j:=6) rfl
  have a7 : W0.cell? ⟨B,7,none⟩ = some (.int .i64 d.1.j):=s0.so.cell (j:=7) rfl
  have wu : IntKind.i64.wrap (d.1.up - 1) = d.1.up - 1:=by rw [IntKind.wrap_i64];omega
  have wi1 : IntKind.i64.wrap (d.1.i - 1) = d.1.i - 1:=by rw [IntKind.wrap_i64];omega
  have wi2 : IntKind.i64.wrap (d.1.i + 1) = d.1.i + 1:=by rw [IntKind.wrap_i64];omega
  have wd1 : IntKind.i64.wrap (d.1.i - d.1.lo) = d.1.i - d.1.lo:=by rw [IntKind.wrap_i64];omega
  have wd2 : IntKind.i64.wrap (d.1.up - d.1.i) = d.1.up - d.1.i:=by rw [IntKind.wrap_i64];omega
  obtain ⟨R,hR⟩ : ∃ R,partR d = R:=⟨_,rfl⟩
  rw [hR]
  unfold GP
  have HR0 : Hid (∀ v1 v2,rdV d (d.1.up - 1) = v1 ∧ rdV (rdD d (d.1.up - 1)) d.1.i = v2 → (if putE ({ d.1 with x:=v1,y:=v2 },(rdD (rdD d (d.1.up - 1)) d.1.i).2) (d.1.up - 1) v2 d.1.i v1 ≠ 0 then (endD (({ d.1 with x:=v1,y:=v2 } : SS),(putD ({ d.1 with x:=v1,y:=v2 },(rdD (rdD d (d.1.up - 1)) d.1.i).2) (d.1.up - 1) v2 d.1.i v1).2) (putE ({ d.1 with x:=v1,y:=v2 },(rdD (rdD d (d.1.up - 1)) d.1.i).2) (d.1.up - 1) v2 d.1.i v1),endT (putE ({ d.1 with x:=v1,y:=v2 },(rdD (rdD d (d.1.up - 1)) d.1.i).2) (d.1.up - 1) v2 d.1.i v1)) else partT (({ d.1 with x:=v1,y:=v2 } : SS),(putD ({ d.1 with x:=v1,y:=v2 },(rdD (rdD d (d.1.up - 1)) d.1.i).2) (d.1.up - 1) v2 d.1.i v1).2)) = R):=fun v1 v2 hv=>(part_eq hv.1 hv.2 rfl).symm.trans hR
  go_enter Tryz.func105,Tryz.ntmps105
  go_wp2_with fail
  have C1:=s0.rdw (bdrew1 W0) (by omega) (d.1.up - 1) (by omega) (by omega)
  obtain ⟨v1,hv1⟩ : ∃ v,rdV (d) (d.1.up - 1) = v:=⟨_,rfl⟩
  obtain ⟨v2,hv2⟩ : ∃ v,rdV (rdD (d) (d.1.up - 1)) (d.1.i) = v:=⟨_,rfl⟩
  rw [hv1] at C1
  have HV : Hid (rdV (d) (d.1.up - 1) = v1 ∧ rdV (rdD (d) (d.1.up - 1)) (d.1.i) = v2):=⟨hv1,hv2⟩
  have HC2 : Hid (∀ w2,Sk N2 W0 w2 B (.slice ad d.1.wt.length cap0) T A b a S hb (c + 1) (rdD (d) (d.1.up - 1)) → Calls Tryz.prog 100 #[.pointer (some ⟨B,0,none⟩),.int .i64 (d.1.i)] w2 fun e w'=>e = .returned (.agg #[.int .i64 v2.1,.int .i64 v2.2.1,.string v2.2.2]) ∧ Sk N2 W0 w' B (.slice ad d.1.wt.length cap0) T A b a S hb (c + 1 + 1) (rdD (rdD (d) (d.1.up - 1)) (d.1.i))):=fun w2 k2=>(by
    have:=k2.rd0 (by omega) (d.1.i) (by omega) (by omega)
    rw [hv2] at this
    exact this)
  clear hv1 hv2 h hR s0
  go_cut [] (fun wx=>Sk N2 W0 wx B (.slice ad d.1.wt.length cap0) T A b a S hb (c + 2) ({ (d).1 with x:=v1,y:=v2 },(rdD (rdD (d) (d.1.up - 1)) (d.1.i)).2))
  case first =>
    go_region_with (first
      | (go_at_call 100;(fail_if_success (have kz:=k2));refine (C1).mono ?_;rintro e w2 ⟨rfl,k2⟩;have d1 : w2.cell? ⟨B,1,none⟩ = some (.int .i64 (d).1.lo):=k2.so.cell (j:=1) rfl;have d2 : w2.cell? ⟨B,2,none⟩ = some (.int .i64 (d).1.up):=k2.so.cell (j:=2) rfl;have d5 : w2.cell? ⟨B,5,none⟩ = some (.int .i64 (d).1.p):=k2.so.cell (j:=5) rfl;have d6 : w2.cell? ⟨B,6,none⟩ = some (.int .i64 (d).1.i):=k2.so.cell (j:=6) rfl;have d7 : w2.cell? ⟨B,7,none⟩ = some (.int .i64 (d).1.j):=k2.so.cell (j:=7) rfl)
      | (go_at_call 100;refine (HC2.out w2 k2).mono ?_;rintro e w3 ⟨rfl,k3⟩;have d8 : w3.cell? ⟨B,8,none⟩ = some (.int .i64 (d).1.x.1):=k3.so.cell (j:=8) rfl;have d9 : w3.cell? ⟨B,9,none⟩ = some (.int .i64 (d).1.x.2.1):=k3.so.cell (j:=9) rfl;have d10 : w3.cell? ⟨B,10,none⟩ = some (.string (d).1.x.2.2):=k3.so.cell (j:=10) rfl;have d11 : w3.cell? ⟨B,11,none⟩ = some (.int .i64 (d).1.y.1):=k3.so.cell (j:=11) rfl;have d12 : w3.cell? ⟨B,12,none⟩ = some (.int .i64 (d).1.y.2.1):=k3.so.cell (j:=12) rfl;have d13 : w3.cell? ⟨B,13,none⟩ = some (.string (d).1.y.2.2):=k3.so.cell (j:=13) rfl;have dfz:=k3.so.free))
    all_goals
      go_wp2_with fail
      go_meet
      exact ((k3.more (c':=c + 2) (by omega)).st3 8 v1 { (d).1 with x:=v1 } rfl rfl).st3 11 v2 { (d).1 with x:=v1,y:=v2 } rfl rfl
  case rest =>
    clear C1 HC2 
    have hR:=HR0.out v1 v2 HV.out
    clear HR0 HV
    have e1 : wc.cell? ⟨B,1,none⟩ = some (.int .i64 d.1.lo):=hcut.so.cell (j:=1) rfl
    have e2 : wc.cell? ⟨B,2,none⟩ = some (.int .i64 d.1.up):=hcut.so.cell (j:=2) rfl
    have e5 : wc.cell? ⟨B,5,none⟩ = some (.int .i64 d.1.p):=hcut.so.cell (j:=5) rfl
    have e6 : wc.cell? ⟨B,6,none⟩ = some (.int .i64 d.1.i):=hcut.so.cell (j:=6) rfl
    have e7 : wc.cell? ⟨B,7,none⟩ = some (.int .i64 d.1.j):=hcut.so.cell (j:=7) rfl
    have e8 : wc.cell? ⟨B,8,none⟩ = some (.int .i64 v1.1):=hcut.so.cell (j:=8) rfl
    have e9 : wc.cell? ⟨B,9,none⟩ = some (.int .i64 v1.2.1):=hcut.so.cell (j:=9) rfl
    have e10 : wc.cell? ⟨B,10,none⟩ = some (.string v1.2.2):=hcut.so.cell (j:=10) rfl
    have e11 : wc.cell? ⟨B,11,none⟩ = some (.int .i64 v2.1):=hcut.so.cell (j:=11) rfl
    have e12 : wc.cell? ⟨B,12,none⟩ = some (.int .i64 v2.2.1):=hcut.so.cell (j:=12) rfl
    have e13 : wc.cell? ⟨B,13,none⟩ = some (.string v2.2.2):=hcut.so.cell (j:=13) rfl
    have C5:=hcut.pu0 (bdrew1 wc) (by omega) (d.1.up - 1) (d.1.i) v2 v1 (by omega) (by omega) (by omega) (by omega)
    obtain ⟨E,hE⟩ : ∃ E,putE (({ d.1 with x:=v1,y:=v2 },(rdD (rdD d (d.1.up - 1)) d.1.i).2)) (d.1.up - 1) (v2) (d.1.i) (v1) = E:=⟨_,rfl⟩
    obtain ⟨P2,hP2⟩ : ∃ P2,(putD (({ d.1 with x:=v1,y:=v2 },(rdD (rdD d (d.1.up - 1)) d.1.i).2)) (d.1.up - 1) (v2) (d.1.i) (v1)).2 = P2:=⟨_,rfl⟩
    rw [hE,hP2] at C5 hR
    clear hE hP2 hcut a1 a2 a5 a6 a7
    by_cases hE0 : E = 0
    · subst hE0
      rw [if_neg (by simp)] at hR
      have HR : Hid (_ = R):=hR
      clear hR
      go_wp2_with fail
      refine wp_tail 19 (by kernel_rfl) (by kernel_rfl) ?_
      simp only [List.take_succ_cons,List.take_zero,List.drop_succ_cons,List.drop_zero]
      repeat still_step
      refine wpStill_nil ?_
      go_wp2_with fail
      refine C5.mono ?_
      rintro e w5 ⟨rfl,A5,B5,D5,k5⟩
      clear C5 e1 e2 e5 e6 e7 e8 e9 e10 e11 e12 e13
      have g1 : w5.cell? ⟨B,1,none⟩ = some (.int .i64 d.1.lo):=k5.so.cell (j:=1) rfl
      have g2 : w5.cell? ⟨B,2,none⟩ = some (.int .i64 d.1.up):=k5.so.cell (j:=2) rfl
      have g5 : w5.cell? ⟨B,5,none⟩ = some (.int .i64 d.1.p):=k5.so.cell (j:=5) rfl
      have g6 : w5.cell? ⟨B,6,none⟩ = some (.int .i64 d.1.i):=k5.so.cell (j:=6) rfl
      have g7 : w5.cell? ⟨B,7,none⟩ = some (.int .i64 d.1.j):=k5.so.cell (j:=7) rfl
      have g3 : w5.cell? ⟨B,3,none⟩ = some (.slice ad d.1.wt.length cap0):=k5.so.cell (j:=3) rfl
      have gf:=k5.so.free
      have hBl : B < w5.heap.size:=k5.so.lt
      have hT : partT (({ d.1 with x:=v1,y:=v2 } : SS),P2) = R:=HR.out
      unfold partT at hT
      clear HR
      go_wp2_with fail
      go_cut [4,5] (fun fv tv wx=>∃ f0 t0 : Nat,fv = .pointer (some ⟨f0,0,none⟩) ∧ tv = .pointer (some ⟨t0,0,none⟩) ∧ Tw2 N2 W0 wx B (.slice ad d.1.wt.length cap0) T A5 B5 D5 S hb (c + 2 + 14) (({ d.1 with x:=v1,y:=v2 } : SS),P2) f0 t0 (d.1.lo,d.1.i - 1) (d.1.i + 1,d.1.up))
      case first =>
        go_region
        all_goals
          go_wp2_with fail
          go_meet
          first | exact ⟨_,_,rfl,rfl,k5.two1 (d.1.lo,d.1.i - 1) (d.1.i + 1,d.1.up)⟩ | exact ⟨_,_,rfl,rfl,k5.two2 (d.1.lo,d.1.i - 1) (d.1.i + 1,d.1.up)⟩
      case rest =>
        obtain ⟨f0,t0,rfl,rfl,H2⟩:=hcut
        clear g1 g2 g3 g5 g6 g7 gf hBl k5
        have h1 : wc.cell? ⟨B,1,none⟩ = some (.int .i64 d.1.lo):=H2.sk.so.cell (j:=1) rfl
        have h2 : wc.cell? ⟨B,2,none⟩ = some (.int .i64 d.1.up):=H2.sk.so.cell (j:=2) rfl
        have h5 : wc.cell? ⟨B,5,none⟩ = some (.int .i64 d.1.p):=H2.sk.so.cell (j:=5) rfl
        have h6 : wc.cell? ⟨B,6,none⟩ = some (.int .i64 d.1.i):=H2.sk.so.cell (j:=6) rfl
        have h7 : wc.cell? ⟨B,7,none⟩ = some (.int .i64 d.1.j):=H2.sk.so.cell (j:=7) rfl
        obtain ⟨⟨p0,p1,p2,p3⟩,pf,pt⟩:=H2.cells
        simp only at p0 p1 p2 p3
        rw [if_neg (show ¬ (d.1.up - d.1.i ≤ d.1.i - d.1.lo) from by omega)] at hT
        have HT : Hid (_ = R):=hT
        clear hT
        have hcd' : ¬ (d.1.up - d.1.i ≤ d.1.i - d.1.lo):=by omega
        go_wp2_with fail
        go_quiet (fail)
        have H3:=H2.below (bdrewN wc nq)
        obtain ⟨W8,hW8⟩ : ∃ W8,wc.drewN nq = W8:=⟨_,rfl⟩
        rw [hW8] at H3
        clear H2
        rw [hW8]
        go_wp2_with fail
        clear h1 h2 h5 h6 h7 p0 p1 p2 p3 pf pt
        have hown:=H3.sk.so.row
        have c1 : W8.cell? ⟨B,1,none⟩ = some (.int .i64 d.1.lo):=H3.sk.so.cell (j:=1) rfl
        have c2 : W8.cell? ⟨B,2,none⟩ = some (.int .i64 d.1.up):=H3.sk.so.cell (j:=2) rfl
        have c3 : W8.cell? ⟨B,3,none⟩ = some (.slice ad d.1.wt.length cap0):=H3.sk.so.cell (j:=3) rfl
        have cf:=H3.sk.so.free
        obtain ⟨⟨p0,p1,p2,p3⟩,_,_⟩:=H3.cells
        simp only at p0 p1 p2 p3
        have hB8 : B < W8.heap.size:=H3.sk.so.lt
        have hf8 : f0 < W8.heap.size:=(Array.getElem?_eq_some_iff.1 H3.fb).1
        have ht8 : t0 < W8.heap.size:=(Array.getElem?_eq_some_iff.1 H3.tb).1
        have hneB : some B ≠ (Value.slice ad d.1.wt.length cap0).ownBlock:=fun e=>by have:=(hown.lt B e.symm).1;omega
        have hneF : some f0 ≠ (Value.slice ad d.1.wt.length cap0).ownBlock:=fun e=>by
          obtain ⟨N3,s3,_,n3,_⟩:=H3.n3
          exact s3.nW f0 e.symm n3
        have za : ∀ (o : Obj) (g j : Nat),g < W8.heap.size → (W8.alloc o).cell? ⟨g,j,none⟩ = W8.cell? ⟨g,j,none⟩:=fun o g j hg=>(bw1 W8 o).cell (by exact hg)
        have zf : ∀ (o : Obj) (j : Nat),(W8.alloc o).frozen? ⟨B,j,none⟩ = false:=fun o j=>(H3.sk.below (bw1 W8 o)).so.free j
        have zs : ∀ o : Obj,(W8.alloc o).heap.size = W8.heap.size + 1:=fun o=>by simp
        have HP : Hid (∀ (Wa : World) (gg cap : Nat) (w2 : World),Below W8.heap.size W8 Wa → Wa.heap.size = W8.heap.size + 1 → w2.ownsRow (B + 1) 70 2 (.slice (some ⟨gg,0,none⟩) (d.1.wt.length + 1) cap) (d.1.wt.length + 1) (rws d.1.wt.reverse ++ [.int .i64 (d.1.i + 1),.int .i64 (d.1.up)]) → Wa.grownBy w2 (Value.slice ad d.1.wt.length cap0).ownBlock → ((Value.slice ad d.1.wt.length cap0).ownBlock = some gg ∨ gg = W8.heap.size + 1) → gg < w2.heap.size →
            Sk N2 W0 (((w2.setCell ⟨B,1,none⟩ (.int .i64 (d.1.lo))).setCell ⟨B,2,none⟩ (.int .i64 (d.1.i - 1))).setCell ⟨B,3,none⟩ (.slice (some ⟨gg,0,none⟩) (d.1.wt.length + 1) cap)) B (.slice (some ⟨gg,0,none⟩) (d.1.wt.length + 1) cap) T A5 B5 D5 S hb (c + 2 + 14) (({ d.1 with x:=v1,y:=v2,lo:=d.1.lo,up:=d.1.i - 1,wt:=(d.1.i + 1,d.1.up) :: d.1.wt } : SS),P2)):=fun Wa gg cap w2 kW eW ho hg hat hlt=>by
          have sA:=H3.sk.below kW
          have kB : Keep (fun x=>x ≠ B) w2 (((w2.setCell ⟨B,1,none⟩ (.int .i64 (d.1.lo))).setCell ⟨B,2,none⟩ (.int .i64 (d.1.i - 1))).setCell ⟨B,3,none⟩ (.slice (some ⟨gg,0,none⟩) (d.1.wt.length + 1) cap)):=(((Keep.refl _ w2).set (p:=⟨B,1,none⟩) (fun z=>z rfl) _).set (p:=⟨B,2,none⟩) (fun z=>z rfl) _).set (p:=⟨B,3,none⟩) (fun z=>z rfl) _
          have bB : w2.heap[B]? = _:=(hg.block B (by rw [eW];omega) (fun e=>hneB e)).trans sA.so.blk
          have b1':=blk_set (j:=1) bB (.int .i64 (d.1.lo))
          have b2':=blk_set (j:=2) b1' (.int .i64 (d.1.i - 1))
          have b3':=blk_set (j:=3) b2' (.slice (some ⟨gg,0,none⟩) (d.1.wt.length + 1) cap)
          obtain ⟨x1,x2⟩:=sA.so.pushed (s':={ d.1 with x:=v1,y:=v2,lo:=d.1.lo,up:=d.1.i - 1,wt:=(d.1.i + 1,d.1.up) :: d.1.wt }) hg (by rw [eW];exact hat) hlt (by simp only [rws_snoc];exact ho) kB (b3'.trans rfl)
          exact ⟨x1,sA.kp.trans x2⟩
        have HT' : Hid (nrow (({ d.1 with x:=v1,y:=v2,lo:=d.1.lo,up:=d.1.i - 1,wt:=(d.1.i + 1,d.1.up) :: d.1.wt } : SS),P2) = R):=HT.out
        obtain ⟨i0,hi0,hz0,hz1,hz2⟩:=info_parts info70
        clear HT H3
        go_cut [] (fun wx=>∃ wv9 : Value,Sk N2 W0 wx B wv9 T A5 B5 D5 S hb (c + 2 + 14) (({ d.1 with x:=v1,y:=v2,lo:=d.1.lo,up:=d.1.i - 1,wt:=(d.1.i + 1,d.1.up) :: d.1.wt } : SS),P2))
        case first =>
          go_region_law ((refine step_append_lies _ (by rfl) _ _ _ (by rfl) (B + 1) 70 i0 _ 2 16 Tryz.underlying71 hi0 hz0 hz1 hz2 rfl (by omega) (.slice ad d.1.wt.length cap0) d.1.wt.length (rws d.1.wt.reverse) (by rfl) (by first | exact (hown.alloc _).drew | exact hown.alloc _) ⟨W8.heap.size,0,none⟩ 1 1 [.int .i64 (d.1.i + 1),.int .i64 (d.1.up)] (by rfl) (by rfl) (World.news_of_block (cs:=#[.int .i64 (d.1.i + 1),.int .i64 (d.1.up)]) (t:=70) (fr:=(0,0)) (heap_alloc_new W8 _)) (by simp [Value.oneCell']) (by omega) (by unfold maxLen;omega) (by omega) (by simp;omega) (W8.heap.size + 1) (by simp) ?_;intro gg cap w2 hown1 hgrow hat hlt2;have s1 : w2.cell? ⟨B,1,none⟩ = some (.int .i64 d.1.lo):=((hgrow.cell_far ⟨B,1,none⟩ (by simp;omega) hneB).trans (za _ B 1 hB8)).trans c1;have s2 : w2.cell? ⟨B,2,none⟩ = some (.int .i64 d.1.up):=((hgrow.cell_far ⟨B,2,none⟩ (by simp;omega) hneB).trans (za _ B 2 hB8)).trans c2;have s3 : w2.cell? ⟨B,3,none⟩ = some (.slice ad d.1.wt.length cap0):=((hgrow.cell_far ⟨B,3,none⟩ (by simp;omega) hneB).trans (za _ B 3 hB8)).trans c3;have s4 : w2.frozen? ⟨B,1,none⟩ = false:=(hgrow.frozen_far ⟨B,1,none⟩ (by simp;omega) hneB).trans (zf _ 1);have s5 : w2.frozen? ⟨B,2,none⟩ = false:=(hgrow.frozen_far ⟨B,2,none⟩ (by simp;omega) hneB).trans (zf _ 2);have s6 : w2.frozen? ⟨B,3,none⟩ = false:=(hgrow.frozen_far ⟨B,3,none⟩ (by simp;omega) hneB).trans (zf _ 3);have s7 : w2.cell? ⟨f0,0,none⟩ = some (.int .i64 (d.1.lo)):=((hgrow.cell_far ⟨f0,0,none⟩ (by simp;omega) hneF).trans (za _ f0 0 hf8)).trans p0;have s8 : w2.cell? ⟨f0,1,none⟩ = some (.int .i64 (d.1.i - 1)):=((hgrow.cell_far ⟨f0,1,none⟩ (by simp;omega) hneF).trans (za _ f0 1 hf8)).trans p1))
          all_goals
            go_wp2_with fail
            go_meet
            exact ⟨_,HP.out _ gg cap w2 (by first | exact bthen (bw1 W8 _) (bw1 W8 _).size (bdrew1 _) | exact bw1 W8 _) (by simp) hown1 hgrow hat hlt2⟩
        case rest =>
          obtain ⟨wv9,s9⟩:=hcut
          have CN:=s9.of0 (f:=63) (xs:=#[.pointer (some ⟨B,0,none⟩)]) (bself wc) (fun q=>nrow_any q (by omega) (fun r' hr' hlt=>HRO.out r' (by simp only [List.cons_append,List.nil_append,List.mem_cons] at hr' ⊢;rcases hr' with z | z | z <;> simp [z]) hlt))
          simp only at CN
          rw [HT'.out] at CN
          clear HT' hown c1 c2 c3 cf p0 p1 p2 p3 za zf zs hneB hneF hB8 hf8 ht8 HRO HP s9
          go_wp2_with fail
          refine (CN).mono ?_
          rintro e w4 ⟨rfl,wv4,A4,b4,a4,s4⟩
          obtain ⟨r4,r5,s5,k5⟩:=HF.out w4 wv4 A4 b4 a4 _ _ R.2 s4
          have HZ : Hid (_ ∧ _ ∧ _):=⟨r5,s5,k5⟩
          obtain ⟨tl,htl⟩ : ∃ tl,R.2 = tl:=⟨_,rfl⟩
          rw [htl] at HZ ⊢
          obtain ⟨W5,hW5⟩ : ∃ W5,set8 w4 w.heap.size tl = W5:=⟨_,rfl⟩
          rw [hW5] at HZ
          unfold set8 at hW5
          unfold tolV
          obtain ⟨n0,n1,n2,n3,n4,n5,n6,n7⟩:=r4.eight
          simp only [nil] at n0 n1 n2 n3 n4 n5 n6 n7
          have nf:=fun j=>r4.free j
          clear r4 r5 s5 k5 s4 HF CN
          go_wp2
          obtain ⟨q1,q2,q3⟩:=HZ.out
          obtain ⟨r0,r1,r2,r3,r4,r5,r6,r7⟩:=q1.eight
          exact bodyPost_ret (v:=tolV tl) (by simp [results,Tryz.results105,go_sem,r0,r1,r2,r3,r4,r5,r6,r7,tolV]) rfl ⟨by first | rfl | rw [htl],⟨_,_,_,_,q2.more (by omega)⟩,q3⟩
    · have hE' : (E != 0) = true:=by simpa using hE0
      rw [if_pos hE0] at hR
      have HR : Hid (_ = R):=hR
      clear hR
      go_wp2_with fail
      refine wp_tail 19 (by kernel_rfl) (by kernel_rfl) ?_
      simp only [List.take_succ_cons,List.take_zero,List.drop_succ_cons,List.drop_zero]
      repeat still_step
      refine wpStill_nil ?_
      go_wp2_with fail
      refine C5.mono ?_
      rintro e w5 ⟨rfl,A5,B5,D5,k5⟩
      have C8:=k5.en0 (bself w5) E
      rw [HR.out] at C8
      clear HR k5 C5 hE0
      go_wp2_with fail
      refine (C8).mono ?_
      rintro e w4 ⟨rfl,wv4,A4,b4,a4,s4⟩
      obtain ⟨r4,r5,s5,k5⟩:=HF.out w4 wv4 A4 b4 a4 _ _ R.2 s4
      have HZ : Hid (_ ∧ _ ∧ _):=⟨r5,s5,k5⟩
      obtain ⟨tl,htl⟩ : ∃ tl,R.2 = tl:=⟨_,rfl⟩
      rw [htl] at HZ ⊢
      obtain ⟨W5,hW5⟩ : ∃ W5,set8 w4 w.heap.size tl = W5:=⟨_,rfl⟩
      rw [hW5] at HZ
      unfold set8 at hW5
      unfold tolV
      obtain ⟨n0,n1,n2,n3,n4,n5,n6,n7⟩:=r4.eight
      simp only [nil] at n0 n1 n2 n3 n4 n5 n6 n7
      have nf:=fun j=>r4.free j
      clear r4 r5 s5 k5 s4 HF C8
      go_wp2
      obtain ⟨q1,q2,q3⟩:=HZ.out
      obtain ⟨r0,r1,r2,r3,r4,r5,r6,r7⟩:=q1.eight
      exact bodyPost_ret (v:=tolV tl) (by simp [results,Tryz.results105,go_sem,r0,r1,r2,r3,r4,r5,r6,r7,tolV]) rfl ⟨by first | rfl | rw [htl],⟨_,_,_,_,q2.more (by omega)⟩,q3⟩
end Go.Proofs.YtkmopcanaalemabGreat
