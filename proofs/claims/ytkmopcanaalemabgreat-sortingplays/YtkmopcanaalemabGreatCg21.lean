import Derived.Test.YtkmopcanaalemabGreatCg20
import Derived.Test.YtkmopcanaalemabGreatCg18
import Derived.Test.YtkmopcanaalemabGreatCg04
import Derived.Test.YtkmopcanaalemabGreatCg03
namespace Go.Proofs.YtkmopcanaalemabGreat
open Go.RowKit
theorem made_vals {w : World} {b n : Nat} (h : w.heap[b]? = some (.cells (zeros3 n) 36)) : Rv w b n (fun _=>nil):=⟨fun i hi j hj=>by
  rw [cell_of_row h]
  have h1 : i * 3 + j < n * 3:=by omega
  have h2 : i * 3 < n * 3:=by omega
  have hm : (i * 3 + j) % 3 = j:=by omega
  rcases lt3 hj with rfl | rfl | rfl <;> simp [zeros3,madeCells,Value.cells,vc,nil,h1,h2,hm]⟩
theorem made_chain {w : World} {b n : Nat} (h : w.heap[b]? = some (.cells (zeros1 n) 46)) {m : Nat} (hm : m < n) : w.cell? ⟨b,m,none⟩ = some (.slice none 0 0):=by
  rw [cell_of_row h]
  simp [zeros1,madeCells,Value.cells,hm,Nat.mod_one]
theorem free_of {w : World} {b : Nat} {cs : Array Value} {t : TypeId} (h : w.heap[b]? = some (.cells cs t)) (j : Nat) : w.frozen? ⟨b,j,none⟩ = false:=by
  unfold World.frozen?
  rw [h]
  simp
theorem Rn.rs {w w' : World} {S ka va ca n : Nat} (h : Rn w w' S ka va ca n) : Rs (fun g=>g < w.heap.size) w w' S ka va ca n (g0 n) (fun _=>0):=by
  refine ⟨⟨by rw [cell_of_row h.s];rfl,by rw [cell_of_row h.s];rfl,by rw [cell_of_row h.s];rfl,by rw [cell_of_row h.s];rfl,made_vals h.k,made_vals h.v,fun m hm=>⟨_,made_chain h.c hm,.inl ⟨rfl,rfl⟩⟩,free_of h.s,free_of h.k,free_of h.v,free_of h.c,h.ne,fun m _ he=>absurd rfl he,fun m m' _ _ he=>absurd rfl he,h.lt⟩,fun x hx=>?_,Keep.of h.bel⟩
  rcases hx with q | q | q | q | ⟨m,_,he,_⟩
  · rw [q];exact Nat.not_lt.2 h.ge.1
  · rw [q];exact Nat.not_lt.2 h.ge.2.1
  · rw [q];exact Nat.not_lt.2 h.ge.2.2.1
  · rw [q];exact Nat.not_lt.2 h.ge.2.2.2
  · exact absurd rfl he
theorem rput_all {N : Nat → Prop} {S ka va ca z : Nat} {g : G} {cb : Nat → Nat} (k v : V) (w0 w : World) (h : Rs N w0 w S ka va ca z g cb) (hNw : ∀ g,N g → g < w.heap.size) (hi : Inv z (pl z) KOK g) (hz : Rt z) (hr : Rng k) :
    Calls Tryz.prog 55 #[pp S,vl k.1 k.2.1 k.2.2,vl v.1 v.2.1 v.2.2] w fun e w'=>e = .returned (.tuple #[.int .i64 ((put z g k v).2.1 : Nat),.int .i64 (put z g k v).2.2]) ∧ ∃ cb',Rs N w w' S ka va ca z (put z g k v).1 cb':=by
  by_cases hf : fm k = true ∧ fm v = true
  · by_cases hk : k.1 = 0
    · have e : put z g k v = (g,0,9):=by rw [put,if_pos hf,if_pos hk]
      rw [e]
      exact (rput_key k v w hf hk).mono fun e w' ⟨h1,h2⟩=>⟨h1,cb,h.rp.below h2,h.ge,Keep.of h2⟩
    · by_cases hz0 : z = 0
      · subst hz0
        have e : put 0 g k v = (g,0,if v.1 = 0 then 0 else 12):=by rw [put,if_pos hf,if_neg hk,if_pos rfl]
        rw [e]
        exact (rput_zero k v w h.rp hi hf hk hr).mono fun e w' ⟨h1,h2⟩=>⟨h1,cb,h.rp.below h2,h.ge,Keep.of h2⟩
      · exact rput_good k v w h.rp h.ge hNw hi (hz.resolve_left hz0) ⟨hf.1,hk,hr.1,hr.2⟩ hf.2
  · have e : put z g k v = (g,0,2):=by rw [put,if_neg hf]
    rw [e]
    exact (rput_form k v w hf).mono fun e w' ⟨h1,h2⟩=>⟨h1,cb,h.rp.below h2,h.ge,Keep.of h2⟩
end Go.Proofs.YtkmopcanaalemabGreat


namespace Go.Proofs.YtkmopcanaalemabGreat
open Go.RowKit
theorem RH.frame2 {No : Nat → Prop} {w w' : World} {S c : Nat} {s : H.St} (h : RH No w S c s) (hs : w.heap.size ≤ w'.heap.size) (hb : ∀ g,g < w.heap.size → ¬ No g → w'.heap[g]? = w.heap[g]?) : RH (fun g=>No g ∨ (w.heap.size ≤ g ∧ g < w'.heap.size)) w' S c s:=by
  obtain ⟨va,r,h1,h2,h3⟩:=h
  refine ⟨va,r,h1.far (hb S h1.apart.2 h1.noS) (fun g e=>hb g (h1.row.lt g e).2 (h1.nov g e)) (Nat.le_refl _) (fun g q=>?_),h2,h3⟩
  rcases q with q | q
  · have:=h1.nos g q
    exact ⟨by omega,fun e=>h1.noS (e ▸ q),fun e=>h1.nov g e q⟩
  · exact ⟨q.2,fun e=>by have:=h1.apart.2;omega,fun e=>by have:=(h1.row.lt g e).2;omega⟩
structure RQ (No : Nat → Prop) (w : World) (RT A P ka va ca : Nat) (cb : Nat → Nat) (G c : Nat) (t : TS) (s : H.St) : Prop where
  rb : Rb w RT A P ka va ca cb G t
  rh : RH (fun g=>No g ∨ Rb.Own RT A P ka va ca cb t g) w G c s
  no : ∀ x,Rb.Own RT A P ka va ca cb t x → ¬ No x
  ti : TI t.p
  iv : H.Inv 0 s
  p0 : 0 ≤ t.pr
  p1 : t.pr ≤ (c : Int) * 65536
section
variable {No : Nat → Prop} {w w' : World} {RT A P ka va ca : Nat} {cb : Nat → Nat} {G c : Nat} {t : TS} {s : H.St}
theorem RQ.nos (h : RQ No w RT A P ka va ca cb G c t s) : ∀ g,No g → g < w.heap.size:=fun g q=>h.rh.nos g (.inl q)
theorem RQ.below (h : RQ No w RT A P ka va ca cb G c t s) (k : Below w.heap.size w w') : RQ No w' RT A P ka va ca cb G c t s:=⟨h.rb.below k,h.rh.below k,h.no,h.ti,h.iv,h.p0,h.p1⟩
theorem RQ.more (h : RQ No w RT A P ka va ca cb G c t s) {c' : Nat} (hc : c ≤ c') : RQ No w RT A P ka va ca cb G c' t s:=⟨h.rb,h.rh.more hc,h.no,h.ti,h.iv,h.p0,by have:=h.p1;omega⟩
theorem RQ.sub (h : RQ No w RT A P ka va ca cb G c t s) {No' : Nat → Prop} (hn : ∀ g,No' g → No g) : RQ No' w RT A P ka va ca cb G c t s:=⟨h.rb,h.rh.sub (fun g q=>q.imp (hn g) id),fun x q e=>h.no x q (hn x e),h.ti,h.iv,h.p0,h.p1⟩
theorem RQ.news (h : RQ No w RT A P ka va ca cb G c t s) (k : Below w.heap.size w w') : RQ (fun g=>No g ∨ (w.heap.size ≤ g ∧ g < w'.heap.size)) w' RT A P ka va ca cb G c t s:=by
  refine ⟨h.rb.below k,(h.rh.news k).sub (fun g q=>?_),fun x q e=>?_,h.ti,h.iv,h.p0,h.p1⟩
  · rcases q with (q | q) | q
    · exact .inl (.inl q)
    · exact .inr q
    · exact .inl (.inr q)
  · have hlt:=h.rh.nos x (.inr q)
    rcases e with e | e
    · exact h.no x q e
    · omega
theorem RQ.frame (h : RQ No w RT A P ka va ca cb G c t s) (k : Keep (fun g=>¬ No g) w w') : RQ (fun g=>No g ∨ (w.heap.size ≤ g ∧ g < w'.heap.size)) w' RT A P ka va ca cb G c t s:=by
  refine ⟨h.rb.kept k h.no,(h.rh.frame2 k.size (fun g hg hn=>k.block g hg (fun q=>hn (.inl q)))).sub (fun g q=>?_),fun x q e=>?_,h.ti,h.iv,h.p0,h.p1⟩
  · rcases q with (q | q) | q
    · exact .inl (.inl q)
    · exact .inr q
    · exact .inl (.inr q)
  · have hlt:=h.rh.nos x (.inr q)
    rcases e with e | e
    · exact h.no x q e
    · omega
abbrev Np (w : World) (P ka va ca z : Nat) (g : Proofs.YtkmopcanaalemabGreat.G) (cb : Nat → Nat) : Nat → Prop:=fun x=>x < w.heap.size ∧ ¬ Rp.Own P ka va ca z g cb x
theorem RQ.part (h : RQ No w RT A P ka va ca cb G c t s) {g' : Proofs.YtkmopcanaalemabGreat.G} {cb' : Nat → Nat} (hs : Rs (Np w P ka va ca t.p.z t.p.g cb) w w' P ka va ca t.p.z g' cb') (ti : TI { t.p with g:=g' }) :
    RQ No w' RT A P ka va ca cb' G c { t with p:={ t.p with g:=g' } } s ∧ Keep No w w':=by
  have nR : Np w P ka va ca t.p.z t.p.g cb RT:=⟨h.rb.ltR,fun q=>h.rb.nR RT q rfl⟩
  have nA : Np w P ka va ca t.p.z t.p.g cb A:=⟨h.rb.ltA,fun q=>h.rb.nA A q rfl⟩
  have eR:=hs.keep.block RT h.rb.ltR nR
  have eA:=hs.keep.block A h.rb.ltA nA
  have hown : ∀ x,Rp.Own P ka va ca t.p.z g' cb' x → Rp.Own P ka va ca t.p.z t.p.g cb x ∨ (w.heap.size ≤ x ∧ x < w'.heap.size):=fun x q=>by
    by_cases hx : x < w.heap.size
    · by_cases ho : Rp.Own P ka va ca t.p.z t.p.g cb x
      · exact .inl ho
      · exact absurd ⟨hx,ho⟩ (hs.ge x q)
    · exact .inr ⟨by omega,hs.rp.own_lt q⟩
  have kN : Keep No w w':=hs.keep.sub (fun g q=>⟨h.nos g q,fun e=>h.no g (.inr (.inr e)) q⟩)
  refine ⟨⟨⟨by rw [World.cell?_of_block (w:=w) eR];exact h.rb.c0,by rw [World.cell?_of_block (w:=w) eR];exact h.rb.c1,by rw [World.cell?_of_block (w:=w) eR];exact h.rb.c2,by rw [World.cell?_of_block (w:=w) eR];exact h.rb.c3,by rw [World.cell?_of_block (w:=w) eR];exact h.rb.c4,by rw [World.cell?_of_block (w:=w) eR];exact h.rb.c5,by rw [World.cell?_of_block (w:=w) eR];exact h.rb.c6,fun j=>by rw [World.frozen?_of_block (w:=w) eR];exact h.rb.fz j,h.rb.sl.block eA,fun j=>by rw [World.frozen?_of_block (w:=w) eA];exact h.rb.fA j,Nat.lt_of_lt_of_le h.rb.ltR hs.keep.size,Nat.lt_of_lt_of_le h.rb.ltA hs.keep.size,hs.rp,h.rb.nRA,fun x q e=>hs.ge x q (e ▸ nR),fun x q e=>hs.ge x q (e ▸ nA)⟩,?_,fun x q e=>?_,ti,h.iv,h.p0,h.p1⟩,kN⟩
  · refine (h.rh.frame2 hs.keep.size (fun g hg hn=>hs.keep.block g hg ⟨hg,fun q=>hn (.inr (.inr (.inr q)))⟩)).sub (fun g q=>?_)
    rcases q with q | q | q | q
    · exact .inl (.inl q)
    · exact .inl (.inr (.inl q))
    · exact .inl (.inr (.inr (.inl q)))
    · rcases hown g q with r | r
      · exact .inl (.inr (.inr (.inr r)))
      · exact .inr r
  · rcases q with q | q | q
    · exact h.no x (.inl q) e
    · exact h.no x (.inr (.inl q)) e
    · rcases hown x q with r | r
      · exact h.no x (.inr (.inr r)) e
      · have:=h.nos x e;omega
theorem RQ.put (h : RQ No w RT A P ka va ca cb G c t s) (k v : V) (hr : Rng k) (ti : TI { t.p with g:=(put t.p.z t.p.g k v).1 }) :
    Calls Tryz.prog 55 #[.pointer (some ⟨P,0,none⟩),vv k,vv v] w fun e w'=>e = .returned (.tuple #[.int .i64 ((Proofs.YtkmopcanaalemabGreat.put t.p.z t.p.g k v).2.1 : Nat),.int .i64 (Proofs.YtkmopcanaalemabGreat.put t.p.z t.p.g k v).2.2]) ∧ (∃ cb',RQ No w' RT A P ka va ca cb' G c { t with p:={ t.p with g:=(Proofs.YtkmopcanaalemabGreat.put t.p.z t.p.g k v).1 } } s) ∧ Keep No w w':=by
  have hs : Rs (Np w P ka va ca t.p.z t.p.g cb) w w P ka va ca t.p.z t.p.g cb:=⟨h.rb.rp,fun x q e=>e.2 q,Keep.refl _ _⟩
  refine (rput_all k v w w hs (fun g q=>q.1) h.ti.inv h.ti.rt hr).mono ?_
  rintro e w' ⟨rfl,cb',h'⟩
  obtain ⟨q1,q2⟩:=h.part h' ti
  exact ⟨rfl,⟨cb',q1⟩,q2⟩
theorem RQ.slot (h : RQ No w RT A P ka va ca cb G c t s) {i : Nat} (hi : i < t.p.n) (x : V) (ti : TI { t.p with F:=upd t.p.F i x }) :
    RQ No (set3i w A i x) RT A P ka va ca cb G c { t with p:={ t.p with F:=upd t.p.F i x } } s ∧ Keep No w (set3i w A i x):=by
  have k : Keep (fun y=>y ≠ A) w (set3i w A i x):=set3i_keep w A i x
  have hsl:=h.rb.sl.seti hi x
  have hfA : ∀ j,(set3i w A i x).frozen? ⟨A,j,none⟩ = false:=fun j=>by rw [set3i_frozen];exact h.rb.fA j
  generalize set3i w A i x = W1 at *
  have eR:=k.block RT h.rb.ltR h.rb.nRA
  have hrp:=h.rb.rp.kept k h.rb.nA
  have hrh:=h.rh.frame k.size (fun g hg hn=>k.block g hg (fun e=>hn (.inr (.inr (.inl e)))))
  refine ⟨⟨⟨by rw [World.cell?_of_block (w:=w) eR];exact h.rb.c0,by rw [World.cell?_of_block (w:=w) eR];exact h.rb.c1,by rw [World.cell?_of_block (w:=w) eR];exact h.rb.c2,by rw [World.cell?_of_block (w:=w) eR];exact h.rb.c3,by rw [World.cell?_of_block (w:=w) eR];exact h.rb.c4,by rw [World.cell?_of_block (w:=w) eR];exact h.rb.c5,by rw [World.cell?_of_block (w:=w) eR];exact h.rb.c6,fun j=>by rw [World.frozen?_of_block (w:=w) eR];exact h.rb.fz j,hsl,hfA,Nat.lt_of_lt_of_le h.rb.ltR k.size,Nat.lt_of_lt_of_le h.rb.ltA k.size,hrp,h.rb.nRA,h.rb.nR,h.rb.nA⟩,hrh,h.no,ti,h.iv,h.p0,h.p1⟩,k.sub (fun g q e=>h.no A (.inr (.inl rfl)) (e ▸ q))⟩
end
end Go.Proofs.YtkmopcanaalemabGreat


namespace Go.Proofs.YtkmopcanaalemabGreat
open Go.RowKit
set_option maxRecDepth 20000 in
set_option maxHeartbeats 4000000 in
theorem rlay_any {No : Nat → Prop} {w : World} {RT A P ka va ca : Nat} {cb : Nat → Nat} {G c : Nat} {t : TS} {s : H.St} (h : RQ No w RT A P ka va ca cb G c t s) (k v : V) (hr : Rng k) (hv : fm v = true) :
    Calls Tryz.prog 57 #[.pointer (some ⟨RT,0,none⟩),vv k,vv v] w fun e w'=>e = .returned (.tuple #[]) ∧ (∃ cb',RQ No w' RT A P ka va ca cb' G c { t with p:=(pset t.p k v).1 } s) ∧ Keep No w w':=by
  have hti : TI (pset t.p k v).1:=h.ti.set hr hv
  have B0:=b2 w (.cells #[.int .i64 k.1,.int .i64 k.2.1,.string k.2.2] 36) (.cells #[.int .i64 v.1,.int .i64 v.2.1,.string v.2.2] 36)
  have X1 : Bx ((w.alloc (vb k.1 k.2.1 k.2.2)).alloc (vb v.1 v.2.1 v.2.2)) w.heap.size k:=(Bx.made w k).below (b1 _ _)
  have X2 : Bx ((w.alloc (vb k.1 k.2.1 k.2.2)).alloc (vb v.1 v.2.1 v.2.2)) (w.heap.size + 1) v:=by
    have h2:=Bx.made (w.alloc (vb k.1 k.2.1 k.2.2)) v
    rw [show (w.alloc (vb k.1 k.2.1 k.2.2)).heap.size = w.heap.size + 1 by simp] at h2
    exact h2
  unfold vb at X1 X2
  obtain ⟨Wx,hWx⟩ : ∃ Wx,w.alloc (.cells #[.int .i64 k.1,.int .i64 k.2.1,.string k.2.2] 36) = Wx:=⟨_,rfl⟩
  have hsx : Wx.heap.size = w.heap.size + 1:=by rw [← hWx];simp
  rw [hWx] at X1 X2 B0
  obtain ⟨W0,hW0⟩ : ∃ W0,Wx.alloc (.cells #[.int .i64 v.1,.int .i64 v.2.1,.string v.2.2] 36) = W0:=⟨_,rfl⟩
  rw [hW0] at X1 X2 B0
  have h0:=h.below B0
  have CW:=rwithin_any k W0 h0.rb.c0 h0.rb.ltR
  have HKB : Hid (Keep No w W0):=Keep.of B0
  have HX1 : Hid (Bx W0 w.heap.size k):=X1
  have HX2 : Hid (Bx W0 (w.heap.size + 1) v):=X2
  have HQ0 : Hid (RQ No W0 RT A P ka va ca cb G c t s):=h0
  have HTI : Hid (TI (pset t.p k v).1):=hti
  have HR : Hid (Rng k):=hr
  have d0:=X1.c0
  have d1:=X1.c1
  have d2:=X1.c2
  have hle:=h.ti.le
  clear h hti B0 X1 X2 h0 hr hv
  generalize hsz : w.heap.size = N at *
  have HSZ : Hid (w.heap.size = N):=hsz
  by_cases hA : inA t.p.n k
  · rw [decide_eq_true hA] at CW
    have hp : (pset t.p k v).1 = { t.p with F:=upd t.p.F (ix k) v }:=by unfold pset;rw [if_pos hA]
    have hix : ix k < t.p.n:=by have:=hA.2.2;unfold ix;omega
    have Hk1 : Hid (k.2.1 = (ix k : Int) + 1):=by have:=hA.2.2;show k.2.1 = (ix k : Int) + 1;unfold ix;omega
    have hwr : IntKind.i64.wrap (k.2.1 - 1) = (ix k : Int):=by have:=Hk1.out;rw [IntKind.wrap_i64];omega
    rw [hp] at HTI ⊢
    unfold vv vl at CW ⊢
    clear hA
    go_enter Tryz.func57,Tryz.ntmps57
    go_wp2_with fail
    refine CW.mono ?_;rintro e W1 ⟨rfl,hb1⟩
    have HQ1 : Hid (RQ No W1 RT A P ka va ca cb G c t s):=HQ0.out.below hb1
    have x1:=HX1.out.below hb1
    have x2:=HX2.out.below hb1
    have e0:=HQ1.out.rb.c0
    have e1:=x1.c1
    have v0:=x2.c0
    have v1:=x2.c1
    have v2:=x2.c2
    obtain ⟨s1,s2⟩:=HQ1.out.slot hix v HTI.out
    obtain ⟨c0',c1',c2'⟩:=HQ1.out.rb.sl.at hix
    have fA:=HQ1.out.rb.fA
    have hixi : (ix k : Int) < (t.p.n : Int):=by omega
    have HK1 : Hid (Keep No w W1):=HKB.out.trans (Keep.of hb1)
    obtain ⟨W2,hW2⟩ : ∃ W2,set3i W1 A (ix k) v = W2:=⟨_,rfl⟩
    rw [hW2] at s1 s2
    have HS : Hid (RQ No W2.drew RT A P ka va ca cb G c { t with p:={ t.p with F:=upd t.p.F (ix k) v } } s ∧ Keep No w W2.drew):=⟨s1.below (bdrew1 W2),(HK1.out.trans s2).trans (Keep.of (bdrew1 W2))⟩
    unfold set3i at hW2
    clear s1 s2 x1 x2 hb1 CW HQ1 HX1 HX2 HQ0 HKB hp HTI d0 d1 d2 hW0 hWx hsx
    go_wp2_with fail
    go_region
    all_goals
      go_wp2_with fail
      refine bodyPost_ret (v:=.tuple #[]) ?_ rfl ⟨rfl,⟨cb,HS.out.1⟩,HS.out.2⟩
      simp [results,Tryz.results57,go_sem]
  · rw [decide_eq_false hA] at CW
    have hp : (pset t.p k v).1 = { t.p with g:=(put t.p.z t.p.g k v).1 }:=by unfold pset;rw [if_neg hA]
    rw [hp] at HTI ⊢
    unfold vv vl at CW ⊢
    clear hA
    go_enter Tryz.func57,Tryz.ntmps57
    go_wp2_with fail
    refine CW.mono ?_;rintro e W1 ⟨rfl,hb1⟩
    have HQ1 : Hid (RQ No W1 RT A P ka va ca cb G c t s):=HQ0.out.below hb1
    have x1:=HX1.out.below hb1
    have x2:=HX2.out.below hb1
    have e1:=HQ1.out.rb.c1
    have k0:=x1.c0
    have k1:=x1.c1
    have k2:=x1.c2
    have v0:=x2.c0
    have v1:=x2.c1
    have v2:=x2.c2
    have CP:=(HQ1.out.below (bdrew1 W1)).put k v HR.out HTI.out
    have HK1 : Hid (Keep No w W1.drew):=(HKB.out.trans (Keep.of hb1)).trans (Keep.of (bdrew1 W1))
    unfold vv vl at CP
    clear x1 x2 hb1 CW HQ1 HX1 HX2 HQ0 HKB hp HTI d0 d1 d2 hW0 hWx hsx
    go_wp2_with fail
    go_region_with (go_at_call 55;refine CP.mono ?_;rintro e W2 ⟨rfl,q1,q2⟩;have HS : Hid ((∃ cb',RQ No W2 RT A P ka va ca cb' G c { t with p:={ t.p with g:=(put t.p.z t.p.g k v).1 } } s) ∧ Keep No w W2):=⟨q1,HK1.out.trans q2⟩;clear q1 q2)
    all_goals
      go_wp2_with fail
      go_end0
      exact ⟨rfl,HS.out.1,HS.out.2⟩
end Go.Proofs.YtkmopcanaalemabGreat


namespace Go.Proofs.YtkmopcanaalemabGreat
open Go.RowKit
theorem Lv.app2 {w:World} {B:Nat} {v:Value} {n:Nat} {F:Nat→V} (h:Lv w B v n F) {b:Nat} (x:V) (hx:Bx w b x) (hn:n≤200000) (hB:B≤w.heap.size):
 ∃g c w',(Builtin.append_ #[22,22] 22 #[v,.slice (some ⟨b,0,none⟩) 1 1]).run Tryz.prog w= .ok (.slice (some ⟨g,0,none⟩) (n+1) c) w'∧Lv w' B (.slice (some ⟨g,0,none⟩) (n+1) c) (n+1) (upd F n x)∧w.grownBy w' v.ownBlock∧(v.ownBlock=some g∨g=w.heap.size)∧g<w'.heap.size:=by
 obtain ⟨i0,hi,hz0,hz1,hz2⟩:=info_parts info32
 obtain ⟨g,c,w',h1,h2,h3,h4,h5⟩:=run_append_lies (P:=Tryz.prog) w 22 22 B 36 i0 (vl 0 0 ⟨#[]⟩) 3 32 Tryz.underlying22 hi hz0 hz1 hz2 rfl (by omega) v n (cellsV F n) h.own ⟨b,0,none⟩ 1 1 [.int .i64 x.1,.int .i64 x.2.1,.string x.2.2] rfl (fun j u hu=>by
  have hadd:(⟨b,0,none⟩:Addr).add j=⟨b,j,none⟩:=by unfold Addr.add;split<;>simp_all
  rw[hadd]
  have hj:j<3:=(List.getElem?_eq_some_iff.1 hu).1
  rcases lt3 hj with rfl | rfl | rfl
  ·simp at hu;rw[←hu];exact hx.c0
  ·simp at hu;rw[←hu];exact hx.c1
  ·simp at hu;rw[←hu];exact hx.c2) (by intro u hu;simp at hu;rcases hu with rfl | rfl | rfl<;>rfl) (by omega) (by simp only[maxLen];omega) (by omega) hB _ rfl
 exact ⟨g,c,w',h1,⟨by rw[←cellsV_snoc];exact h2⟩,h3,h4,h5⟩
def Is (F:Nat→V) (m:Nat) (l:List V):Prop:=l.length=m∧∀i,i<m→l[i]?=some (F i)
theorem Is.snoc {F:Nat→V} {m:Nat} {l:List V} (h:Is F m l) (x:V):Is (upd F m x) (m+1) (l++[x]):=by
 refine ⟨by simp[h.1],fun i hi=>?_⟩
 by_cases e:i=m
 ·rw[e,upd_at,List.getElem?_append_right (by rw[h.1];omega)];simp[h.1]
 ·rw[upd_ne _ _ e,List.getElem?_append_left (by rw[h.1];omega)];exact h.2 i (by omega)
theorem Lv.push {w0 w:World} {B:Nat} {v:Value} {n:Nat} {F:Nat→V} (hb:Below B w0 w) (hB:B≤w.heap.size) (h:Lv w B v n F) (x:V) (hn:n≤200000):
 ∃g c w',(Builtin.append_ #[22,22] 22 #[v,.slice (some ⟨w.heap.size,0,none⟩) 1 1]).run Tryz.prog (w.alloc (.cells #[.int .i64 x.1,.int .i64 x.2.1,.string x.2.2] 36))= .ok (.slice (some ⟨g,0,none⟩) (n+1) c) w'∧Lv w' B (.slice (some ⟨g,0,none⟩) (n+1) c) (n+1) (upd F n x)∧Below B w0 w':=by
 have b5:=b1 w (.cells #[.int .i64 x.1,.int .i64 x.2.1,.string x.2.2] 36)
 have X5:Bx (w.alloc (.cells #[.int .i64 x.1,.int .i64 x.2.1,.string x.2.2] 36)) w.heap.size x:=Bx.made w x
 obtain ⟨g,c,w6,hr,l6,g6,at6,lt6⟩:=(h.below b5).app2 x X5 hn (by have:=b5.size;omega)
 refine ⟨g,c,w6,hr,l6,(bthen hb hB b5).trans ⟨g6.os,g6.tape,g6.output,g6.size,fun y hy=>g6.block y (by have:=b5.size;omega) (fun e=>?_)⟩⟩
 have:=(h.own.lt y e.symm).1
 omega
set_option maxRecDepth 20000 in
set_option maxHeartbeats 4000000 in
theorem rpresent_any {w:World} {RT A P ka va ca:Nat} {cb:Nat→Nat} {G:Nat} {t:TS} (h:Rb w RT A P ka va ca cb G t) (ti:TI t.p):
 Calls Tryz.prog 96 #[.pointer (some ⟨RT,0,none⟩)] w fun e w'=>∃v F,e= .returned v∧Lv w' w.heap.size v (pres t.p).length F∧Is F (pres t.p).length (pres t.p)∧Below w.heap.size w w':=by
 have HH:Hid (Rb w RT A P ka va ca cb G t):=h
 have hn:=ti.le
 have hz:=ti.rt.le
 clear h
 go_enter Tryz.func96,Tryz.ntmps96
 go_wp2_with fail
 go_loopw [3,4] (fun lw jw wr=>∃i m:Nat,jw= .int .i64 (i:Nat)∧i≤t.p.n∧m≤i∧Hid (∃F,Lv wr w.heap.size lw m F∧Is F m (kA t.p.F i))∧Hid (Below w.heap.size w wr)) (fun _ jw _=>t.p.n - (intOf jw).toNat)
 case atStart=>exact ⟨0,0,rfl,by omega,by omega,⟨fun _=>nil,Lv.nil _ _ _,rfl,fun i hi=>(by omega)⟩,Below.refl _ _⟩
 case round=>
  obtain ⟨i,m,rfl,hi,hmi,HL,HB⟩:=hrel
  obtain ⟨F,hL,hI⟩:=HL.out
  obtain ⟨ak,ck,hvk⟩:=hL.form
  subst hvk
  have HLv:Hid (Lv wr w.heap.size (.slice ak m ck) m F):=hL
  have HIs:Hid (Is F m (kA t.p.F i)):=hI
  clear hL hI HL
  have c0:=(HH.out.below HB.out).c0
  by_cases hlt:i<t.p.n
  ·have hlt':(i:Int)<(t.p.n:Int):=by omega
   have k0:=((HH.out.below HB.out).sl.at hlt).1
   generalize hx:t.p.F i=x at *
   by_cases h0:x.1=0
   ·have hb0:(x.1 !=0)=false:=by simp[h0]
    have HE:Hid (kA t.p.F (i+1)=kA t.p.F i):=by show _=_;rw[kA,hx,if_pos h0,List.append_nil]
    clear h0
    go_wp2_with fail
    go_round
    case rel=>exact ⟨i+1,m,by go_num,by omega,by omega,⟨F,HLv.out,by rw[HE.out];exact HIs.out⟩,HB⟩
    case measure=>simp[intOf];omega
   ·have hb0:(x.1 !=0)=true:=by simpa using h0
    have HE:Hid (kA t.p.F (i+1)=kA t.p.F i++[kn ((i:Int)+1)]):=by show _=_;rw[kA,hx,if_neg h0]
    have CI:=mkI ((i:Int)+1) wr
    have hwi:IntKind.i64.wrap ((i:Int)+1)=(i:Int)+1:=by rw[IntKind.wrap_i64];omega
    unfold vl at CI
    clear h0
    go_wp2_with fail
    refine CI.mono ?_;rintro e w4 ⟨rfl,hb4⟩
    have hB4:=bthen HB.out HB.out.size hb4
    obtain ⟨g,c,w6,hr,l6,hb6⟩:=Lv.push hB4 hB4.size (HLv.out.below hb4) (kn ((i:Int)+1)) (by omega)
    have HB6:Hid (Below w.heap.size w w6∧Lv w6 w.heap.size (.slice (some ⟨g,0,none⟩) (m+1) c) (m+1) (upd F m (kn ((i:Int)+1)))):=⟨hb6,l6⟩
    clear hb4 hB4 hb6 l6 CI
    go_wp2_with (at_builtin;refine wp_app rfl _ _ 22 rfl 22 rfl _ _ rfl rfl hr ?_)
    go_round
    case rel=>exact ⟨i+1,m+1,by go_num,by omega,by omega,⟨_,HB6.out.2,by rw[HE.out];exact HIs.out.snoc _⟩,HB6.out.1⟩
    case measure=>simp[intOf];omega
  ·have hle:¬(i:Int)<(t.p.n:Int):=by omega
   obtain rfl:i=t.p.n:=by omega
   have HM0:Hid (∃F,Lv wr w.heap.size (.slice ak m ck) m F∧Is F m (kA t.p.F t.p.n++kH t.p.g 0)):=⟨F,HLv.out,by rw[show kA t.p.F t.p.n++kH t.p.g 0=kA t.p.F t.p.n by simp[kH]];exact HIs.out⟩
   clear HLv HIs
   go_wp2_with fail
   obtain ⟨wo,hwo⟩:∃wo,wo=wr:=⟨_,rfl⟩
   rw[←hwo] at HM0 HB c0⊢
   clear hwo c0
   go_loopw [3,5] (fun lw jw wr=>∃i m:Nat,jw= .int .i64 (i:Nat)∧i≤t.p.z∧m≤t.p.n+i∧Hid (∃F,Lv wr w.heap.size lw m F∧Is F m (kA t.p.F t.p.n++kH t.p.g i))∧Hid (Below w.heap.size w wr)) (fun _ jw _=>t.p.z - (intOf jw).toNat)
   case atStart=>exact ⟨0,m,rfl,by omega,by omega,HM0,HB⟩
   case round=>
    obtain ⟨i,m2,rfl,hi2,hmi2,HL,HB2⟩:=hrel
    clear HM0
    obtain ⟨F2,hL,hI⟩:=HL.out
    obtain ⟨ak2,ck2,hvk⟩:=hL.form
    subst hvk
    have HLv:Hid (Lv wr w.heap.size (.slice ak2 m2 ck2) m2 F2):=hL
    have HIs:Hid (Is F2 m2 (kA t.p.F t.p.n++kH t.p.g i)):=hI
    clear hL hI HL
    have hR:=HH.out.below HB2.out
    have c1:=hR.c1
    have CZ:=rpsize_any wr hR.rp
    by_cases hlt:i<t.p.z
    ·have hlt':(i:Int)<(t.p.z:Int):=by omega
     have s0:=hR.rp.s0
     have s1:=hR.rp.s1
     have x0:=(hR.rp.v.at hlt).1
     obtain ⟨k0,k1,k2⟩:=hR.rp.k.at hlt
     clear hR
     generalize hx:t.p.g.X i=x at *
     generalize hk:t.p.g.K i=k at *
     by_cases h0:x.1=0
     ·have hb0:(x.1 !=0)=false:=by simp[h0]
      have HE:Hid (kH t.p.g (i+1)=kH t.p.g i):=by show _=_;rw[kH,hx,if_pos h0,List.append_nil]
      clear h0
      go_wp2_with fail
      refine CZ.mono ?_;rintro e w4 ⟨rfl,hw4⟩;rw[hw4];clear hw4 CZ
      go_wp2_with fail
      go_round
      case rel=>exact ⟨i+1,m2,by go_num,by omega,by omega,⟨F2,HLv.out,by rw[HE.out];exact HIs.out⟩,HB2⟩
      case measure=>simp[intOf];omega
     ·have hb0:(x.1 !=0)=true:=by simpa using h0
      have HE:Hid (kA t.p.F t.p.n++kH t.p.g (i+1)=kA t.p.F t.p.n++kH t.p.g i++[k]):=by show _=_;rw[kH,hx,if_neg h0,hk,List.append_assoc]
      obtain ⟨g,c,w6,hr,l6,hb6⟩:=Lv.push HB2.out HB2.out.size HLv.out k (by omega)
      have HB6:Hid (Below w.heap.size w w6∧Lv w6 w.heap.size (.slice (some ⟨g,0,none⟩) (m2+1) c) (m2+1) (upd F2 m2 k)):=⟨hb6,l6⟩
      clear h0 hb6 l6
      go_wp2_with fail
      refine CZ.mono ?_;rintro e w4 ⟨rfl,hw4⟩;rw[hw4];clear hw4 CZ
      go_wp2_with (at_builtin;refine wp_app rfl _ _ 22 rfl 22 rfl _ _ rfl rfl hr ?_)
      go_round
      case rel=>exact ⟨i+1,m2+1,by go_num,by omega,by omega,⟨_,HB6.out.2,by rw[HE.out];exact HIs.out.snoc k⟩,HB6.out.1⟩
      case measure=>simp[intOf];omega
    ·have hle2:¬(i:Int)<(t.p.z:Int):=by omega
     have HE:Hid (i=t.p.z):=by show _=_;omega
     clear hR
     go_wp2_with fail
     refine CZ.mono ?_;rintro e w4 ⟨rfl,hw4⟩;rw[hw4];clear hw4 CZ
     go_wp2_with fail
     go_ret
     have hI:=HIs.out
     rw[HE.out] at hI
     have hl:=hI.1
     exact ⟨_,F2,rfl,by show Lv wr w.heap.size _ (pres t.p).length F2;rw[show (pres t.p).length=m2 from hl];exact HLv.out,by rw[show (pres t.p).length=m2 from hl];exact hI,HB2.out⟩
end Go.Proofs.YtkmopcanaalemabGreat


namespace Go.Proofs.YtkmopcanaalemabGreat.C
open Go.RowKit
set_option maxRecDepth 20000 in
set_option maxHeartbeats 2000000 in
theorem rchoose_ok (l:List Int) (v:Value) (w:World) (h:Ints w.heap.size w v l) (hok:okC l=true):
 Calls Tryz.prog 131 #[v] w fun e w'=>e= .returned (.tuple #[.int .i64 (chA l 17),.int .i64 (chN l 17),.int .i64 0])∧w'=w:=by
 obtain ⟨a,cap,rfl,hcap,h⟩:=h
 have HC:Hid _:=h
 have HL:Hid (l≠[]):=by intro q;have:=okC_len hok;rw[q] at this;simp at this
 have HG:Hid (∀k,k<17→0≤l.getD k 0∧l.getD k 0≤4294967296):=fun k hk=>okC_get hok k hk
 have HB:Hid (∀k,k≤17→0≤pre l k∧pre l k≤73014444032):=fun k hk=>by
  have:=pre_bound hok k hk
  have :(k:Int) * 4294967296≤17 * 4294967296:=Int.mul_le_mul_of_nonneg_right (by omega) (by omega)
  omega
 have HS:Hid (∀k,k<17→pre l (k+1)=pre l k+l.getD k 0):=fun k hk=>pre_succ l k (by rw[okC_len hok];exact hk)
 clear h hcap
 rw[okC_len hok] at HC⊢
 clear hok
 obtain ⟨g,off,rfl,hg,hc⟩:=HC.out HL.out
 have HC2:Hid _:=hc
 clear HC HL hc hg
 go_enter Tryz.func131,Tryz.ntmps131
 go_wp2
 go_loop [5,6] (fun s i=>∃k:Nat,i= .int .i64 k∧k≤17∧∃z:Int,s= .int .i64 z∧Hid (z=pre l k)) (fun _ i=>17 - (intOf i).toNat)
 case atStart=>exact ⟨0,rfl,by omega,0,rfl,rfl⟩
 case round=>
  obtain ⟨k,rfl,hk,S,rfl,HT⟩:=hrel
  by_cases hlt:k<17
  ·have c1:=HC2.out k hlt
   have hlt':(k:Int)<17:=by omega
   have hx:=HG.out k hlt
   have hS:=HB.out k (by omega)
   rw[←HT.out] at hS
   have HN:Hid (S+l.getD k 0=pre l (k+1)):=by rw[HT.out];exact (HS.out k hlt).symm
   obtain ⟨hx0,hx1⟩:=hx
   obtain ⟨hS0,hS1⟩:=hS
   clear HT
   generalize l.getD k 0=x at *
   go_wp2
   go_round
   case rel=>exact ⟨k+1,by go_num,by omega,_,rfl,HN⟩
   case measure=>simp[intOf];omega
  ·obtain rfl:k=17:=by omega
   go_wp2
   go_loop [5,7] (fun s i=>∃k:Nat,i= .int .i64 ((k:Int) - 1)∧k≤17∧∃z:Int,s= .int .i64 z∧Hid (z=pre l k)∧Hid (chA l 17=chA l k∧chN l 17=chN l k)) (fun _ i=>((intOf i)+1).toNat)
   case atStart=>exact ⟨17,rfl,by omega,_,rfl,HT,rfl,rfl⟩
   case round=>
    obtain ⟨k,rfl,hk2,Z,rfl,HT2,HR⟩:=hrel
    cases k with
    | zero=>
      go_wp2
      go_ret3
      exact ⟨ret3 HR.out.1.symm HR.out.2.symm rfl,rfl⟩
    | succ k=>
      have hk3:((k+1:Nat):Int) - 1=(k:Int):=by omega
      rw[hk3]
      have c1:=HC2.out k (by omega)
      have hS:=HB.out (k+1) (by omega)
      have hx:=HG.out k (by omega)
      rw[←HT2.out] at hS
      have HN:Hid (Z - l.getD k 0=pre l k):=by rw[HT2.out,show pre l (k+1)=_ from HS.out k (by omega)];show _+_ - _=_;omega
      have hp:=pow_fit k (by omega)
      have hp2:=pow16 k (by omega)
      obtain ⟨hx0,hx1⟩:=hx
      obtain ⟨hS0,hS1⟩:=hS
      have hk4:(k:Int)<17:=by omega
      have hk5:¬(k:Int)<0:=by omega
      by_cases hq:(2:Int) ^ k<2 * Z
      ·have e1:(2:Int) ^ k=chA l 17:=by rw[HR.out.1,chA_succ,←HT2.out,if_pos hq]
       have e2:Z=chN l 17:=by rw[HR.out.2,chN_succ,←HT2.out,if_pos hq]
       have E1:Hid _:=e1
       have E2:Hid _:=e2
       clear HR HT2 HN e1 e2 hk3
       generalize l.getD k 0=x at *
       go_wp2
       go_ret3
       exact ⟨ret3 E1.out E2.out rfl,rfl⟩
      ·have HR2:Hid (chA l 17=chA l k∧chN l 17=chN l k):=by
        rw[HR.out.1,HR.out.2,chA_succ,chN_succ,←HT2.out,if_neg hq,if_neg hq];exact ⟨rfl,rfl⟩
       clear HR HT2 hk3
       generalize l.getD k 0=x at *
       go_wp2
       go_round
       case rel=>exact ⟨k,by go_num,by omega,_,rfl,HN,HR2⟩
       case measure=>simp[intOf]
set_option maxRecDepth 20000 in
set_option maxHeartbeats 600000 in
theorem rslice_any (n:Int) (w:World) (h1:n≤9223372036854775807):Calls Tryz.prog 137 #[.int .i64 n] w fun e w'=>e= .returned (.int .i64 (lg n))∧w'=w:=by
 by_cases h:n<1
 ·have hl:lg n=-1:=by simp[lg,h]
  rw[hl]
  clear hl
  go_enter Tryz.func137,Tryz.ntmps137
  go_wp2
  go_ret
  exact ⟨rfl,rfl⟩
 ·rw[lg_pos n (by omega)]
  have h0:1≤n:=by omega
  have H1:Hid (n≤9223372036854775807):=h1
  clear h1
  go_enter Tryz.func137,Tryz.ntmps137
  go_wp2
  go_loop [3,4] (fun i v=>∃k:Nat,k≤62∧Hid (k=0∨2 ^ (k - 1)<n.toNat)∧i= .int .i64 k∧v= .int .i64 (2 ^ k)) (fun i _=>62 - (intOf i).toNat)
  case atStart=>exact ⟨0,by omega,.inl rfl,rfl,rfl⟩
  case round=>
   obtain ⟨k,hk,HK,rfl,rfl⟩:=hrel
   have HP:Hid (((2 ^ k:Nat):Int)=(2:Int) ^ k):=pow_int k
   have HQ:Hid (k<62→wrap64 ((2:Int) ^ k * 2)=2 ^ (k+1)):=by
    intro hk2
    have:=pow_fit (k+1) (by omega)
    rw[Int.pow_succ] at this
    rw[this,Int.pow_succ]
   by_cases hq:(2:Int) ^ k<n
   ·have HK2:Hid (2 ^ (k+1 - 1)<n.toNat):=by have:=HP.out;show 2 ^ k<_;omega
    by_cases h62:k=62
    ·subst h62
     have HF:Hid (lgN n=63):=by
      have h63:n.toNat≤2 ^ 63:=by have:=H1.out;omega
      exact (lgN_unique n 63 h0 H1.out h63 (.inr HK2.out)).symm
     go_wp2
     go_ret
     exact ⟨ret1 (by rw[HF.out];rfl),rfl⟩
    ·have hk3:¬(k:Int)+1=63:=by omega
     go_wp2
     go_round
     case rel=>exact ⟨k+1,by omega,.inr HK2.out,by go_num,congrArg (Value.int .i64) (HQ.out (by omega))⟩
     case measure=>simp[intOf];omega
   ·have HF:Hid (k=lgN n):=lgN_unique n k h0 H1.out (by have:=HP.out;omega) HK.out
    go_wp2
    go_ret
    exact ⟨ret1 (by rw[←HF.out]),rfl⟩
end Go.Proofs.YtkmopcanaalemabGreat.C


namespace Go.Proofs.YtkmopcanaalemabGreat.C
open Go.RowKit
theorem lg_small (x:Int) (h1:x≤9223372036854775807):(1≤x∧x≤65536)↔(0≤lg x∧lg x<17):=by
 by_cases h0:1≤x
 ·obtain ⟨a,b,c⟩:=lgN_spec x h0 h1
  rw[lg_pos x h0]
  constructor
  ·intro h
   refine ⟨by omega,?_⟩
   rcases b with b | b
   ·omega
   ·rcases Nat.lt_or_ge (lgN x) 17 with q | q
    ·omega
    ·have:=Nat.pow_le_pow_right (n:=2) (by omega) (show 16≤lgN x - 1 by omega)
     omega
  ·intro h
   have:=Nat.pow_le_pow_right (n:=2) (by omega) (show lgN x≤16 by omega)
   omega
 ·have :lg x=-1:=by unfold lg;rw[if_pos (by omega)]
  omega
set_option maxRecDepth 20000 in
set_option maxHeartbeats 1000000 in
theorem rcount_any (l:List Int) (v:Value) (w:World) (h:Ints w.heap.size w v l) (hf:Fit l) (hlen:l.length≤1000000):
 Calls Tryz.prog 132 #[v] w fun e w'=>e= .returned (.slice (some ⟨w.heap.size,0,none⟩) 17 17)∧Own17 w.heap.size w' (cnt l)∧Below w.heap.size w w':=by
 obtain ⟨a,cap,rfl,hcap,h⟩:=h
 have HC:Hid _:=h
 have HF:Hid _:=hf
 have HL:Hid (l≠[]↔0<l.length):=by
  show _↔_
  cases l<;>simp
 have HS:Hid (∀k i,k<l.length→cnt (l.take (k+1)) i=cnt (l.take k) i+(if lg (l.getD k 0)=i then 1 else 0)):=fun k i hk=>cnt_succ l k i hk
 have HB:Hid (∀k i,k≤l.length→0≤cnt (l.take k) i∧cnt (l.take k) i≤1000000):=fun k i hk=>by
  have:=cnt_bound (l.take k) i
  rw[List.length_take] at this
  omega
 have HE:Hid (l.take l.length=l):=List.take_length
 clear h hf hcap
 have hmk:(Instr.makeSlice 46 (.int .i64 17) (.int .i64 17)).run Tryz.prog w=_:=make_int 17 (by omega) w
 have M:Own17 w.heap.size (w.alloc (.cells (madeCells (Value.int .i64 0).cells (17 * 1)) 3)) (cnt (l.take 0)):=
  ⟨fun j hj=>by rw[made_cell w 17 j hj];simp[cnt],fun j hj=>new_free w _ _ j,by simp⟩
 have m3:Below w.heap.size w (w.alloc (.cells (madeCells (Value.int .i64 0).cells (17 * 1)) 3)):=(Below.refl _ _).alloc (Nat.le_refl _) _
 obtain ⟨W1,hW1⟩:∃W1,W1=(w.alloc (.cells (madeCells (Value.int .i64 0).cells (17 * 1)) 3)):=⟨_,rfl⟩
 rw[←hW1] at hmk M m3
 clear hW1
 have HM:Hid _:=M
 clear M
 obtain ⟨L,hL⟩:∃L,l.length=L:=⟨_,rfl⟩
 rw[hL] at HC HL HS HB HE hlen⊢
 obtain ⟨G,hG⟩:∃G,w.heap.size=G:=⟨_,rfl⟩
 rw[hG] at hmk HM m3 HC⊢
 have C1:∀k,k<L→∀W,Calls Tryz.prog 137 #[.int .i64 (l.getD k 0)] W fun e w'=>e= .returned (.int .i64 (lg (l.getD k 0)))∧w'=W:=fun k hk W=>rslice_any _ W (HF.out k (by omega)).2
 have HG:Hid (∀k,k<L→((1≤l.getD k 0∧l.getD k 0≤65536)↔(0≤lg (l.getD k 0)∧lg (l.getD k 0)<17))):=fun k hk=>lg_small _ (HF.out k (by omega)).2
 clear HF hL
 go_enter Tryz.func132,Tryz.ntmps132
 go_wp2_with fail
 go_loopw [4] (fun i wr=>∃k:Nat,i= .int .i64 k∧k≤L∧Hid (Own17 G wr (cnt (l.take k)))∧Below G w wr) (fun i _=>L - (intOf i).toNat)
 case atStart=>exact ⟨0,rfl,by omega,HM,m3⟩
 case round=>
  obtain ⟨k,rfl,hk,HO,hb⟩:=hrel
  by_cases hlt:k<L
  ·have hlt':(k:Int)<(L:Int):=by omega
   obtain ⟨g,off,rfl,hg,hc⟩:=HC.out (HL.out.2 (by omega))
   have c1:wr.cell? ⟨g,off+k,none⟩=some (.int .i64 (l.getD k 0)):=by rw[hb.cell (by exact hg)];exact hc k hlt
   have C2:=C1 k hlt
   have HS2:Hid (∀i,cnt (l.take (k+1)) i=cnt (l.take k) i+(if lg (l.getD k 0)=i then 1 else 0)):=fun i=>HS.out k i hlt
   have HB2:Hid (∀i,0≤cnt (l.take k) i∧cnt (l.take k) i≤1000000):=fun i=>HB.out k i hk
   have HG2:=HG.out k hlt
   have HG3:Hid _:=HG2
   clear hc C1 HB HS HC HG HG2
   generalize l.getD k 0=x at *
   generalize lg x=s at *
   by_cases hs:0≤s∧s<17
   ·obtain ⟨hx1,hx2⟩:=HG3.out.2 hs
    obtain ⟨j,rfl⟩:∃j:Nat,s=j:=⟨s.toNat,by omega⟩
    have hj:j<17:=by omega
    have hj':(j:Int)<17:=by omega
    have c2:=HO.out.1 j hj
    have f2:=HO.out.2.1 j hj
    have hcb:=HB2.out j
    have HO2:Hid (∀c,c=cnt (l.take k) j→Own17 G (wr.setCell ⟨G,j,none⟩ (.int .i64 (c+1))) (cnt (l.take (k+1)))):=by
     intro c hc
     refine HO.out.upd j hj _ ?_ fun i hi=>?_
     ·rw[HS2.out j,if_pos rfl,hc]
     ·rw[HS2.out i,if_neg (by omega)];omega
    obtain ⟨c,hc⟩:∃c,c=cnt (l.take k) j:=⟨_,rfl⟩
    have HO3:Hid _:=HO2.out c hc
    rw[←hc] at c2 hcb
    clear hc HO2 HB2 HS2 HO hs HG3
    go_wp2_with (go_at_call 137;refine (C2 _).mono ?_;rintro e w2 ⟨rfl,rfl⟩)
    go_roundw
    case rel=>exact ⟨k+1,by go_num,by omega,HO3,hb.setCell (by simp) _⟩
    case measure=>simp[intOf];omega
   ·have HO3:Hid (Own17 G wr (cnt (l.take (k+1)))):=by
     have e:∀i,i<17→cnt (l.take (k+1)) i=cnt (l.take k) i:=fun i hi=>by rw[HS2.out i,if_neg (by omega)];omega
     exact ⟨fun j hj=>by rw[e j hj];exact HO.out.1 j hj,HO.out.2⟩
    have hx:¬(1≤x∧x≤65536):=fun q=>hs (HG3.out.1 q)
    clear HO HB2 HS2 HG3 hs
    by_cases hs0:1≤x
    ·have hs1:¬x≤65536:=by omega
     clear hx
     go_wp2_with fail
     go_roundw
     case rel=>exact ⟨k+1,by go_num,by omega,HO3,hb⟩
     case measure=>simp[intOf];omega
    ·clear hx
     go_wp2_with fail
     go_roundw
     case rel=>exact ⟨k+1,by go_num,by omega,HO3,hb⟩
     case measure=>simp[intOf];omega
  ·obtain rfl:k=L:=by omega
   rw[HE.out] at HO
   go_wp2
   go_ret
   exact ⟨rfl,HO.out,hb⟩
end Go.Proofs.YtkmopcanaalemabGreat.C
