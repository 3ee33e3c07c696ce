import Derived.Test.YtkjbgggghigapaaGreatCg04
import Derived.Test.YtkjbgggghigapaaGreatCg07
import Derived.Test.YtkjbgggghigapaaGreatCg06
import Derived.Deep.RegionHeldLaw
namespace Go.Proofs.YtkjbgggghigapaaGreat
open Go.RowKit
def s0 (p:Int):Cs:=⟨[⟨[],p,0,0,[]⟩],[],0,[],0,[],0,0⟩
def outC (s:Cs):(List Fn×List Tx)×Int×Int:=if s.bad=true then (([],[]),s.cd,s.ct) else ((s.fs,s.gl),0,0)
def chF:F→(List Fn×List Tx)×Int×Int
 | .nil=>(([],[]),0,0)
 | .cons k t n p ks _=>if 100<ks.hgt+1 then (([],[]),6,p) else outC (ck (ks.siz+1) k t n p ks (s0 p))
def chT (l:List UInt8):(List Fn×List Tx)×Int×Int:=if (prT l).2.1=0 then chF (prT l).1 else (([],[]),(prT l).2.1,(prT l).2.2)
theorem CK.start (W:World) (p:Int) {W4:World} (hW:((W.alloc (.map #[] 0)).alloc (.cells #[.slice (some ⟨W.heap.size+1+1,0,none⟩) 1 1,.slice none 0 0,.map (some W.heap.size),.int .i64 0,.slice none 0 0,.int .i64 0,.slice none 0 0,.int .i64 0,.int .i64 0] 76)).alloc (.cells #[.string ⟨#[]⟩,.int .i64 p,.int .i64 0,.int .i64 0,.slice none 0 0] 43)=W4):
 Ck (fun g=>g<W.heap.size) (W.heap.size+1) (s0 p) W4∧Kn (fun g=>g<W.heap.size) W W4:=by
 have e1:(W.alloc (.map #[] 0)).heap.size=W.heap.size+1:=by simp
 have X1:=Bx.new (W.alloc (.map #[] 0)) 76 #[.slice (some ⟨W.heap.size+1+1,0,none⟩) 1 1,.slice none 0 0,.map (some W.heap.size),.int .i64 0,.slice none 0 0,.int .i64 0,.slice none 0 0,.int .i64 0,.int .i64 0]
 rw[e1] at X1
 have hM:Ms (W.alloc (.map #[] 0)) W.heap.size []:=⟨.map [],0,World.ownsMap_made W Tryz.prog 9 unitElem,Nat.le_refl _,fun t=>by simp[Maps.has]⟩
 have e2:((W.alloc (.map #[] 0)).alloc (.cells #[.slice (some ⟨W.heap.size+1+1,0,none⟩) 1 1,.slice none 0 0,.map (some W.heap.size),.int .i64 0,.slice none 0 0,.int .i64 0,.slice none 0 0,.int .i64 0,.int .i64 0] 76)).heap.size=W.heap.size+1+1:=by simp
 obtain ⟨V2,hV2⟩:∃V2,(W.alloc (.map #[] 0)).alloc (.cells #[.slice (some ⟨W.heap.size+1+1,0,none⟩) 1 1,.slice none 0 0,.map (some W.heap.size),.int .i64 0,.slice none 0 0,.int .i64 0,.slice none 0 0,.int .i64 0,.int .i64 0] 76)=V2:=⟨_,rfl⟩
 have B2:Below (W.heap.size+1) (W.alloc (.map #[] 0)) V2:=by rw[←hV2,←e1];exact (Below.refl _ _).alloc (Nat.le_refl _) _
 have B0:Below W.heap.size W (W.alloc (.map #[] 0)):=(Below.refl _ _).alloc (Nat.le_refl _) _
 rw[hV2] at X1 e2 hW
 have X3:=Bx.new V2 43 #[.string ⟨#[]⟩,.int .i64 p,.int .i64 0,.int .i64 0,.slice none 0 0]
 rw[e2] at X3
 have B3:Below (W.heap.size+1+1) V2 (V2.alloc (.cells #[.string ⟨#[]⟩,.int .i64 p,.int .i64 0,.int .i64 0,.slice none 0 0] 43)):=by rw[←e2];exact (Below.refl _ _).alloc (Nat.le_refl _) _
 rw[hW] at X3 B3
 have X4:Bx (W.heap.size+1) 76 _ W4:=⟨(B3.block _ (by omega)).trans X1.blk⟩
 have hM4:Ms W4 W.heap.size []:=hM.keep ((B3.block _ (by omega)).trans (B2.block _ (by omega)))
 have hs3:=X3.lt
 clear hW
 refine ⟨⟨⟨.slice (some ⟨W.heap.size+1+1,0,none⟩) 1 1,.slice none 0 0,.slice none 0 0,.slice none 0 0,W.heap.size,[.slice none 0 0],fun g=>if g=W.heap.size+1 then 1 else if g=W.heap.size+1+1 then 2 else if g=W.heap.size then 5 else 0⟩,X4,?_,World.ownsRow_nil _ _ _ _,World.ownsRow_nil _ _ _ _,World.ownsRow_nil _ _ _ _,hM4,fun i f v hf hv=>?_,rfl,if_pos rfl,fun g hg=>?_,fun g hg=>?_,fun g hg=>?_,fun g hg=>?_,?_,fun i v g hv hg=>?_,fun g hg=>⟨?_,?_⟩,Nat.zero_lt_one⟩,⟨?_,?_,?_,?_,fun g hg hn=>?_⟩⟩
 ·exact ⟨rfl,.inr ⟨W.heap.size+1+1,1,_,rfl,Nat.zero_le _,X3.blk,Nat.le_refl _,by decide,rfl,rfl⟩⟩
 ·cases i with
  | zero=>simp[s0] at hf hv;subst hf hv;exact World.ownsRow_nil _ _ _ _
  | succ i=>simp[s0] at hf
 ·have e:W.heap.size+1+1=g:=by simpa [Value.ownBlock] using hg
  subst e
  simp
 ·simp[Value.ownBlock] at hg
 ·simp[Value.ownBlock] at hg
 ·simp[Value.ownBlock] at hg
 ·show (if W.heap.size=W.heap.size+1 then 1 else if W.heap.size=W.heap.size+1+1 then 2 else if W.heap.size=W.heap.size then 5 else 0)=5
  rw[if_neg (by omega),if_neg (by omega),if_pos rfl]
 ·cases i with
  | zero=>simp at hv;subst hv;simp[Value.ownBlock] at hg
  | succ i=>simp at hv
 ·have :g<W.heap.size:=hg
  omega
 ·have :g<W.heap.size:=hg
  show (if g=W.heap.size+1 then 1 else if g=W.heap.size+1+1 then 2 else if g=W.heap.size then 5 else 0)=0
  rw[if_neg (by omega),if_neg (by omega),if_neg (by omega)]
 ·exact (B3.os.trans B2.os).trans B0.os
 ·exact (B3.tape.trans B2.tape).trans B0.tape
 ·exact (B3.output.trans B2.output).trans B0.output
 ·omega
 ·exact (B3.block g (by omega)).trans ((B2.block g (by omega)).trans (B0.block g hg))
end Go.Proofs.YtkjbgggghigapaaGreat


namespace Go.Proofs.YtkjbgggghigapaaGreat
def F.bg (q:Int):F→Bool
 | .nil=>false
 | .cons _ _ _ p ks r=>decide (p=q) || ks.bg q || r.bg q
structure Fl (T:Int→Prop) (s s':Cs):Prop where
 at':(s'.cd=s.cd∧s'.ct=s.ct)∨((s'.cd=5∨s'.cd=6)∧T s'.ct)
 st:s.bad=true→s'.cd=s.cd∧s'.ct=s.ct
section
variable {T U:Int→Prop} {a b c:Cs}
theorem Fl.refl (T:Int→Prop) (s:Cs):Fl T s s:=⟨.inl ⟨rfl,rfl⟩,fun _=>⟨rfl,rfl⟩⟩
theorem Fl.same {T:Int→Prop} {s s':Cs} (h1:s'.cd=s.cd) (h2:s'.ct=s.ct):Fl T s s':=⟨.inl ⟨h1,h2⟩,fun _=>⟨h1,h2⟩⟩
theorem bad_eq {s s':Cs} (h1:s'.cd=s.cd) (h2:s'.ct=s.ct):s'.bad=s.bad:=by unfold Cs.bad;rw[h1,h2]
theorem Fl.trans (h:Fl T a b) (k:Fl T b c):Fl T a c:=by
 refine ⟨?_,fun hb=>?_⟩
 ·rcases k.at' with k1 | k1
  ·rcases h.at' with h1 | h1
   ·exact .inl ⟨k1.1.trans h1.1,k1.2.trans h1.2⟩
   ·exact .inr (by rw[k1.1,k1.2];exact h1)
  ·exact .inr k1
 ·have h1:=h.st hb
  have h2:=k.st ((bad_eq h1.1 h1.2).trans hb)
  exact ⟨h2.1.trans h1.1,h2.2.trans h1.2⟩
end
theorem fl_fau {T:Int→Prop} (c p:Int) (s:Cs) (hc:c=5∨c=6) (hp:T p):Fl T s (fau c p s):=by
 unfold fau
 split
 ·exact .refl _ _
 ·next h=>exact ⟨.inr ⟨hc,hp⟩,fun hb=>absurd hb h⟩
theorem fl_lim {T:Int→Prop} (p n m:Int) (s:Cs) (hp:T p):Fl T s (lim p n m s):=by
 unfold lim;split
 ·exact fl_fau _ _ _ (.inr rfl) hp
 ·exact .refl _ _
theorem fl_unk {T:Int→Prop} (t:Tx) (p:Int) (s:Cs) (hp:T p):Fl T s (unk t p s):=by
 unfold unk;split
 ·exact fl_fau _ _ _ (.inl rfl) hp
 ·exact .refl _ _
theorem fl_glo {T:Int→Prop} (t:Tx) (s:Cs):Fl T s (glo t s):=by
 unfold glo;split
 ·exact .refl _ _
 ·exact .same rfl rfl
theorem fl_con {T:Int→Prop} (v:Vl) (p:Int) (s:Cs) (hp:T p):Fl T s (con v p s):=by
 unfold con
 cases s.fs[s.nu]? with
 | none=>exact .refl _ _
 | some f=>
   show Fl T s (conF f v p s)
   unfold conF;split
   ·exact .refl _ _
   ·exact Fl.trans (b:={s with fs:=s.fs.set s.nu {f with cs:=f.cs++[v]}}) (.same rfl rfl) (fl_lim _ _ _ _ hp)
theorem fl_nmC {T:Int→Prop} (t:Tx) (p:Int) (s:Cs) (hp:T p):Fl T s (nmC t p s):=by
 unfold nmC ngl
 split
 ·exact fl_unk _ _ _ hp
 ·refine (fl_unk t p s hp).trans ?_
  split
  ·exact (fl_fau _ _ _ (.inl rfl) hp).trans (fl_glo _ _)
  ·exact fl_glo _ _
theorem fl_brN {T:Int→Prop}:∀(r:F) (s:Cs),(∀q,r.bg q=true→T q)→Fl T s (brN r s)
 | .nil,s,_=>.refl _ _
 | .cons k t n p ks r,s,h=>by
   have h1:=fl_unk (T:=T) t p s (h p (by simp[F.bg]))
   refine (h1.trans (b:=unk t p s) (c:={unk t p s with lo:=s.lo++[t]}) (.same rfl rfl)).trans (fl_brN r _ fun q hq=>h q (by simp[F.bg,hq]))
theorem fl_slo {T:Int→Prop} (s:Cs):Fl T s (slo s):=by
 unfold slo
 cases s.fs[s.nu]? with
 | none=>exact .refl _ _
 | some f=>exact .same rfl rfl
theorem fl_bri {T:Int→Prop} (p:Int) (r:F) (s:Cs) (hp:T p) (h:∀q,r.bg q=true→T q):Fl T s (bri p r s):=((fl_brN r s h).trans (fl_lim _ _ _ _ hp)).trans (fl_slo _)
theorem F.bg_take (q:Int):∀(f:F) (i:Nat),(f.take i).bg q=true→f.bg q=true
 | .nil,i,h=>by cases i<;>exact h
 | .cons _ _ _ _ _ _,0,h=>by simp[F.take,F.bg] at h
 | .cons k t n p ks r,i+1,h=>by
   simp only[F.take,F.bg,Bool.or_eq_true] at h⊢
   exact h.imp id (F.bg_take q r i)
theorem F.bg_drop (q:Int):∀(f:F) (i:Nat),(f.drop i).bg q=true→f.bg q=true
 | f,0,h=>by cases f<;>exact h
 | .nil,i+1,h=>h
 | .cons k t n p ks r,i+1,h=>by
   simp only[F.bg,Bool.or_eq_true]
   exact .inr (F.bg_drop q r i h)
theorem F.bg_get (q:Int):∀(f:F) (i:Nat) {k:Int} {t:Tx} {n p:Int} {ks:F},f.get? i=some (k,t,n,p,ks)→(p=q∨ks.bg q=true)→f.bg q=true
 | .nil,i,_,_,_,_,_,h,_=>by simp[F.get?] at h
 | .cons k t n p ks r,0,_,_,_,_,_,h,e=>by
   simp only[F.get?,Option.some.injEq,Prod.mk.injEq] at h
   obtain ⟨rfl,rfl,rfl,rfl,rfl⟩:=h
   simp only[F.bg,Bool.or_eq_true,decide_eq_true_eq]
   exact .inl e
 | .cons k t n p ks r,i+1,_,_,_,_,_,h,e=>by
   simp only[F.bg,Bool.or_eq_true]
   exact .inr (F.bg_get q r i h e)
section
variable {nd:Ndc} (H:∀(T:Int→Prop) k t n p ks s,T p→(∀q,ks.bg q=true→T q)→Fl T s (nd k t n p ks s))
include H
theorem fl_ckN {T:Int→Prop}:∀(r:F) (s:Cs),(∀q,r.bg q=true→T q)→Fl T s (ckN nd r s)
 | .nil,s,_=>.refl _ _
 | .cons k t n p ks r,s,h=>(H T k t n p ks s (h p (by simp[F.bg])) fun q hq=>h q (by simp[F.bg,hq])).trans (fl_ckN r _ fun q hq=>h q (by simp[F.bg,hq]))
theorem fl_ckA {T:Int→Prop} (n:Int):∀(r:F) (i:Int) (s:Cs),(∀q,r.bg q=true→T q)→Fl T s (ckA nd n i r s)
 | .nil,i,s,_=>.refl _ _
 | .cons k t m p ks r,i,s,h=>by
   have hp:=h p (by simp[F.bg])
   have h1:Fl T s (if decide (i<n) && ixk k ks then fau 5 p s else s):=by
    split
    ·exact fl_fau _ _ _ (.inl rfl) hp
    ·exact .refl _ _
   exact (h1.trans (H T k t m p ks _ hp fun q hq=>h q (by simp[F.bg,hq]))).trans (fl_ckA n r (i+1) _ fun q hq=>h q (by simp[F.bg,hq]))
theorem fl_ndG {T:Int→Prop} (ks:F) (i:Nat) (s:Cs) (h:∀q,ks.bg q=true→T q):Fl T s (ndG nd ks i s):=by
 unfold ndG
 cases hg:ks.get? i with
 | none=>exact .refl _ _
 | some x=>
   obtain ⟨k,t,n,p,f⟩:=x
   exact H T k t n p f s (h p (F.bg_get p ks i hg (.inl rfl))) fun q hq=>h q (F.bg_get q ks i hg (.inr hq))
theorem fl_ckS (T:Int→Prop) (k:Int) (t:Tx) (n p:Int) (ks:F) (s:Cs) (hp:T p) (h:∀q,ks.bg q=true→T q):Fl T s (ckS nd k t n p ks s):=by
 have L:=fun (n m:Int) (s:Cs)=>fl_lim (T:=T) p n m s hp
 have ht:=fun i q (hq:(ks.take i).bg q=true)=>h q (F.bg_take q ks i hq)
 have hd:=fun i q (hq:(ks.drop i).bg q=true)=>h q (F.bg_drop q ks i hq)
 have hlop:∀(m:Nat) (s:Cs),Fl T s (lopC nd p ks m s):=fun m s=>by
  unfold lopC
  have e0:=fl_ckN (T:=T) H ((ks.take (ks.len - 1)).drop m) s fun q hq=>ht (ks.len - 1) q (F.bg_drop q (ks.take (ks.len - 1)) m hq)
  refine e0.trans ?_
  clear e0
  generalize ckN nd ((ks.take (ks.len - 1)).drop m) s=s1
  unfold lopB
  have e1:=(Fl.same (T:=T) (s:=s1) (s':={s1 with lo:=s1.lo++[[],[],[]]}) rfl rfl).trans (fl_bri p (ks.take m) _ hp (ht m))
  generalize bri p (ks.take m) {s1 with lo:=s1.lo++[[],[],[]]}=s3 at e1⊢
  have e2:=(e1.trans (Fl.same (s':={s3 with lp:=s3.lp+1}) rfl rfl)).trans (fl_ndG H ks (ks.len - 1) _ h)
  exact e2.trans (.same rfl rfl)
 unfold ckS
 split
 ·exact .refl _ _
 split
 ·exact fl_con _ _ _ hp
 split
 ·exact fl_con _ _ _ hp
 split
 ·exact fl_nmC _ _ _ hp
 split
 ·unfold ckI;split
  ·cases ks.get? 0 with
   | none=>exact .refl _ _
   | some x=>
     cases ks.get? 1 with
     | none=>exact .refl _ _
     | some y=>
       simp only[Option.elim]
       split
       ·exact fl_fau _ _ _ (.inl rfl) hp
       ·exact .refl _ _
  ·exact fl_ckN H _ _ h
 split
 ·exact (L _ _ _).trans (fl_ckN H _ _ h)
 split
 ·exact (L _ _ _).trans (fl_ckN H _ _ h)
 unfold ckX
 split
 ·unfold blkC
  exact (fl_ckN H ks s h).trans (.same rfl rfl)
 split
 ·exact (((L _ _ _).trans (L _ _ _)).trans (fl_ckN H _ _ (hd _))).trans (fl_bri _ _ _ hp (ht _))
 split
 ·exact ((L _ _ _).trans (L _ _ _)).trans (fl_ckA H _ _ _ _ h)
 split
 ·exact ((Fl.same (T:=T) (s:=s) (s':={s with lp:=s.lp+1}) rfl rfl).trans (fl_ckN H ks _ h)).trans (.same rfl rfl)
 split
 ·exact hlop _ _
 split
 ·exact ((L _ _ _).trans (L _ _ _)).trans (hlop _ _)
 split
 ·split
  ·exact fl_fau _ _ _ (.inl rfl) hp
  ·exact .refl _ _
 split
 ·exact (L _ _ _).trans (fl_ckN H _ _ h)
 split
 ·unfold fncB fncH
  have e1:=(((L (s.fs.length:Int) 100 s).trans (fl_unk t p _ hp)).trans (L n 50 _)).trans (fl_glo t _)
  generalize glo t (lim p n 50 (unk t p (lim p (s.fs.length:Int) 100 s)))=s4 at e1⊢
  have e2:=(e1.trans (Fl.same (T:=T) (s':={s4 with fs:=s4.fs++[⟨t,p,n,0,[]⟩],nu:=s4.fs.length,lo:=[],lp:=0,ar:=s4.lo}) rfl rfl)).trans (fl_bri p (ks.take n.toNat) _ hp (ht _))
  exact (e2.trans (fl_ndG H ks n.toNat _ h)).trans (.same rfl rfl)
 ·exact fl_ckN H _ _ h
end
theorem fl_ck:∀(N:Nat) (T:Int→Prop) (k:Int) (t:Tx) (n p:Int) (ks:F) (s:Cs),T p→(∀q,ks.bg q=true→T q)→Fl T s (ck N k t n p ks s)
 | 0,_,_,_,_,_,_,_,_,_=>.refl _ _
 | N+1,T,k,t,n,p,ks,s,hp,h=>fl_ckS (fl_ck N) T k t n p ks s hp h
end Go.Proofs.YtkjbgggghigapaaGreat


namespace Go.Proofs.YtkjbgggghigapaaGreat
def F.n31:F→Bool
 | .nil=>true
 | .cons k _ _ _ ks r=>decide (k≠31) && ks.n31 && r.n31
structure Fk (z:Nat) (s s':Cs):Prop where
 len:s'.fs.length=s.fs.length+z
 kep:∀(i:Nat) (f:Fn),s.fs[i]?=some f→∃f',s'.fs[i]?=some f'∧f'.nm=f.nm∧f'.pl=f.pl
theorem Fk.of {s s':Cs} (h:s'.fs=s.fs):Fk 0 s s':=⟨by rw[h];rfl,fun _ f hf=>⟨f,by rw[h];exact hf,rfl,rfl⟩⟩
theorem Fk.refl (s:Cs):Fk 0 s s:=.of rfl
theorem Fk.trans {y z:Nat} {a b c:Cs} (h:Fk y a b) (k:Fk z b c):Fk (y+z) a c:=
 ⟨by rw[k.len,h.len];omega,fun i f hf=>by
  obtain ⟨f1,h1,h2,h3⟩:=h.kep i f hf
  obtain ⟨f2,k1,k2,k3⟩:=k.kep i f1 h1
  exact ⟨f2,k1,k2.trans h2,k3.trans h3⟩⟩
theorem Fk.t0 {a b c:Cs} (h:Fk 0 a b) (k:Fk 0 b c):Fk 0 a c:=h.trans k
theorem Fk.set {s s':Cs} {i:Nat} {f g:Fn} (hf:s.fs[i]?=some f) (h:s'.fs=s.fs.set i g) (h1:g.nm=f.nm) (h2:g.pl=f.pl):Fk 0 s s':=by
 refine ⟨by rw[h];simp,fun j x hx=>?_⟩
 rw[h]
 by_cases e:i=j
 ·subst e
  have hl:=(List.getElem?_eq_some_iff.1 hf).1
  rw[hf] at hx
  injection hx with hx
  exact ⟨g,by rw[List.getElem?_set_self hl],by rw[←hx];exact h1,by rw[←hx];exact h2⟩
 ·exact ⟨x,by rw[List.getElem?_set_ne e];exact hx,rfl,rfl⟩
theorem k_fau (c p:Int) (s:Cs):Fk 0 s (fau c p s):=by unfold fau;split<;>exact .of rfl
theorem k_lim (p n m:Int) (s:Cs):Fk 0 s (lim p n m s):=by
 unfold lim;split
 ·exact k_fau _ _ _
 ·exact .refl _
theorem k_unk (t:Tx) (p:Int) (s:Cs):Fk 0 s (unk t p s):=by
 unfold unk;split
 ·exact k_fau _ _ _
 ·exact .refl _
theorem k_glo (t:Tx) (s:Cs):Fk 0 s (glo t s):=by unfold glo;split<;>exact .of rfl
theorem k_con (v:Vl) (p:Int) (s:Cs):Fk 0 s (con v p s):=by
 unfold con
 cases hf:s.fs[s.nu]? with
 | none=>exact .refl _
 | some f=>
   show Fk 0 s (conF f v p s)
   unfold conF;split
   ·exact .refl _
   ·exact (Fk.set (s':={s with fs:=s.fs.set s.nu {f with cs:=f.cs++[v]}}) hf rfl rfl rfl).t0 (k_lim _ _ _ _)
theorem k_nmC (t:Tx) (p:Int) (s:Cs):Fk 0 s (nmC t p s):=by
 unfold nmC ngl
 split
 ·exact k_unk _ _ _
 ·refine (k_unk t p s).t0 ?_
  split
  ·exact (k_fau _ _ _).t0 (k_glo _ _)
  ·exact k_glo _ _
theorem k_brN:∀(r:F) (s:Cs),Fk 0 s (brN r s)
 | .nil,_=>.refl _
 | .cons _ t _ p _ r,s=>((k_unk t p s).t0 (b:=unk t p s) (c:={unk t p s with lo:=s.lo++[t]}) (.of rfl)).t0 (k_brN r _)
theorem k_slo (s:Cs):Fk 0 s (slo s):=by
 unfold slo
 cases hf:s.fs[s.nu]? with
 | none=>exact .refl _
 | some f=>exact Fk.set hf rfl rfl rfl
theorem k_bri (p:Int) (r:F) (s:Cs):Fk 0 s (bri p r s):=((k_brN r s).t0 (k_lim _ _ _ _)).t0 (k_slo _)
theorem F.n31_take:∀(f:F) (i:Nat),f.n31=true→(f.take i).n31=true
 | .nil,i,h=>by cases i<;>exact h
 | .cons _ _ _ _ _ _,0,_=>rfl
 | .cons k t n p ks r,i+1,h=>by
   simp only[F.n31,F.take,Bool.and_eq_true] at h⊢
   exact ⟨h.1,F.n31_take r i h.2⟩
theorem F.n31_drop:∀(f:F) (i:Nat),f.n31=true→(f.drop i).n31=true
 | f,0,h=>by cases f<;>exact h
 | .nil,i+1,_=>rfl
 | .cons k t n p ks r,i+1,h=>F.n31_drop r i (by simp only[F.n31,Bool.and_eq_true] at h;exact h.2)
theorem F.n31_get:∀(f:F) (i:Nat) {k:Int} {t:Tx} {n p:Int} {ks:F},f.n31=true→f.get? i=some (k,t,n,p,ks)→k≠31∧ks.n31=true
 | .nil,i,_,_,_,_,_,_,h=>by simp[F.get?] at h
 | .cons k t n p ks r,0,_,_,_,_,_,ho,h=>by
   simp only[F.get?,Option.some.injEq,Prod.mk.injEq] at h
   obtain ⟨rfl,rfl,rfl,rfl,rfl⟩:=h
   simp only[F.n31,Bool.and_eq_true,decide_eq_true_eq] at ho
   exact ho.1
 | .cons k t n p ks r,i+1,_,_,_,_,_,ho,h=>F.n31_get r i (by simp only[F.n31,Bool.and_eq_true] at ho;exact ho.2) h
section
variable {nd:Ndc} (H:∀k t n p ks s,k≠31→ks.n31=true→Fk 0 s (nd k t n p ks s))
include H
theorem k_ckN:∀(r:F) (s:Cs),r.n31=true→Fk 0 s (ckN nd r s)
 | .nil,s,_=>.refl _
 | .cons k t n p ks r,s,h=>by
   simp only[F.n31,Bool.and_eq_true,decide_eq_true_eq] at h
   exact (H k t n p ks s h.1.1 h.1.2).t0 (k_ckN r _ h.2)
theorem k_ckA (n:Int):∀(r:F) (i:Int) (s:Cs),r.n31=true→Fk 0 s (ckA nd n i r s)
 | .nil,i,s,_=>.refl _
 | .cons k t m p ks r,i,s,h=>by
   simp only[F.n31,Bool.and_eq_true,decide_eq_true_eq] at h
   have h1:Fk 0 s (if decide (i<n) && ixk k ks then fau 5 p s else s):=by
    split
    ·exact k_fau _ _ _
    ·exact .refl _
   exact (h1.t0 (H k t m p ks _ h.1.1 h.1.2)).t0 (k_ckA n r (i+1) _ h.2)
theorem k_ndG (ks:F) (i:Nat) (s:Cs) (h:ks.n31=true):Fk 0 s (ndG nd ks i s):=by
 unfold ndG
 cases hg:ks.get? i with
 | none=>exact .refl _
 | some x=>
   obtain ⟨k,t,n,p,f⟩:=x
   have:=F.n31_get ks i h hg
   exact H k t n p f s this.1 this.2
theorem k_fnc (t:Tx) (n p:Int) (ks:F) (m:Nat) (s:Cs) (h:ks.n31=true):Fk 1 s (fncB nd t n p ks m (fncH t n p s)):=by
 unfold fncB fncH
 have e1:=(((k_lim p (s.fs.length:Int) 100 s).t0 (k_unk t p _)).t0 (k_lim p n 50 _)).t0 (k_glo t _)
 generalize glo t (lim p n 50 (unk t p (lim p (s.fs.length:Int) 100 s)))=s4 at e1⊢
 have e2:Fk 1 s4 {s4 with fs:=s4.fs++[⟨t,p,n,0,[]⟩],nu:=s4.fs.length,lo:=[],lp:=0,ar:=s4.lo}:=⟨by simp,fun i f hf=>⟨f,by
  have hl:=(List.getElem?_eq_some_iff.1 hf).1
  simp only
  rw[List.getElem?_append_left hl];exact hf,rfl,rfl⟩⟩
 have e3:=(((e1.trans e2).trans (k_bri p (ks.take m) _)).trans (k_ndG H ks m _ h)).trans (Fk.of (s':={ndG nd ks m (bri p (ks.take m) {s4 with fs:=s4.fs++[⟨t,p,n,0,[]⟩],nu:=s4.fs.length,lo:=[],lp:=0,ar:=s4.lo}) with nu:=s4.nu,lo:=s4.lo,lp:=s4.lp,ar:=[]}) rfl)
 exact e3
theorem k_ckS (k:Int) (t:Tx) (n p:Int) (ks:F) (s:Cs) (hk:k≠31) (h:ks.n31=true):Fk 0 s (ckS nd k t n p ks s):=by
 have L:=fun (n m:Int) (s:Cs)=>k_lim p n m s
 have hlop:∀(m:Nat) (s:Cs),Fk 0 s (lopC nd p ks m s):=fun m s=>by
  unfold lopC
  have e0:=k_ckN H ((ks.take (ks.len - 1)).drop m) s (F.n31_drop _ m (F.n31_take ks _ h))
  refine e0.t0 ?_
  clear e0
  generalize ckN nd ((ks.take (ks.len - 1)).drop m) s=s1
  unfold lopB
  have e1:=(Fk.of (s:=s1) (s':={s1 with lo:=s1.lo++[[],[],[]]}) rfl).t0 (k_bri p (ks.take m) _)
  generalize bri p (ks.take m) {s1 with lo:=s1.lo++[[],[],[]]}=s3 at e1⊢
  have e2:=(e1.t0 (Fk.of (s':={s3 with lp:=s3.lp+1}) rfl)).t0 (k_ndG H ks (ks.len - 1) _ h)
  exact e2.t0 (.of rfl)
 unfold ckS
 split
 ·exact .refl _
 split
 ·exact k_con _ _ _
 split
 ·exact k_con _ _ _
 split
 ·exact k_nmC _ _ _
 split
 ·unfold ckI;split
  ·cases ks.get? 0 with
   | none=>exact .refl _
   | some x=>
     cases ks.get? 1 with
     | none=>exact .refl _
     | some y=>
       simp only[Option.elim]
       split
       ·exact k_fau _ _ _
       ·exact .refl _
  ·exact k_ckN H _ _ h
 split
 ·exact (L _ _ _).t0 (k_ckN H _ _ h)
 split
 ·exact (L _ _ _).t0 (k_ckN H _ _ h)
 unfold ckX
 split
 ·unfold blkC
  exact (k_ckN H ks s h).t0 (.of rfl)
 split
 ·exact (((L _ _ _).t0 (L _ _ _)).t0 (k_ckN H _ _ (F.n31_drop ks _ h))).t0 (k_bri _ _ _)
 split
 ·exact ((L _ _ _).t0 (L _ _ _)).t0 (k_ckA H _ _ _ _ h)
 split
 ·exact ((Fk.of (s:=s) (s':={s with lp:=s.lp+1}) rfl).t0 (k_ckN H ks _ h)).t0 (.of rfl)
 split
 ·exact hlop _ _
 split
 ·exact ((L _ _ _).t0 (L _ _ _)).t0 (hlop _ _)
 split
 ·split
  ·exact k_fau _ _ _
  ·exact .refl _
 split
 ·exact (L _ _ _).t0 (k_ckN H _ _ h)
 ·exact k_ckN H _ _ h
end
theorem k_ck:∀(N:Nat) (k:Int) (t:Tx) (n p:Int) (ks:F) (s:Cs),k≠31→ks.n31=true→Fk 0 s (ck N k t n p ks s)
 | 0,_,_,_,_,_,_,_,_=>.refl _
 | N+1,k,t,n,p,ks,s,hk,h=>k_ckS (k_ck N) k t n p ks s hk h
def F.top:F→Bool
 | .nil=>true
 | .cons _ _ _ _ ks r=>ks.n31 && r.top
def F.fcn:F→Nat
 | .nil=>0
 | .cons k _ _ _ _ r=>(if k=31 then 1 else 0)+r.fcn
theorem k_top (N:Nat):∀(r:F) (s:Cs),r.top=true→(ckN (ck (N+1)) r s).bad=false→Fk r.fcn s (ckN (ck (N+1)) r s)
 | .nil,s,_,_=>.refl _
 | .cons k t n p ks r,s,h,hb=>by
   simp only[F.top,Bool.and_eq_true] at h
   have hb1:(ck (N+1) k t n p ks s).bad=false:=by
    cases e:(ck (N+1) k t n p ks s).bad with
    | false=>rfl
    | true=>
      have q:=(fl_ckN (T:=fun _=>True) (nd:=ck (N+1)) (fun T k t n p ks s h1 h2=>fl_ck (N+1) T k t n p ks s h1 h2) r _ fun _ _=>trivial).st e
      have:=bad_eq q.1 q.2
      rw[e] at this
      exact absurd (hb.symm.trans this) (by decide)
   have hb0:s.bad=false:=by
    cases e:s.bad with
    | false=>rfl
    | true=>
      have q:=(fl_ck (N+1) (fun _=>True) k t n p ks s trivial fun _ _=>trivial).st e
      have:=bad_eq q.1 q.2
      rw[e] at this
      exact absurd (hb1.symm.trans this) (by decide)
   have h1:Fk (if k=31 then 1 else 0) s (ck (N+1) k t n p ks s):=by
    by_cases hk:k=31
    ·subst hk
     rw[if_pos rfl]
     have e:ck (N+1) 31 t n p ks s=fncB (ck N) t n p ks n.toNat (fncH t n p s):=by
      show ckS (ck N) 31 t n p ks s=_
      unfold ckS ckX
      rw[if_neg (by rw[hb0];decide)]
      simp only[Int.reduceEq,if_false,if_true]
     rw[e]
     exact k_fnc (k_ck N) t n p ks _ s h.1
    ·rw[if_neg hk]
     exact k_ck (N+1) k t n p ks s hk h.1
   exact h1.trans (k_top N r _ h.2 hb)
theorem chF_ok (N:Nat) (p:Int) (ks:F) (h:ks.top=true) (hb:(ck (N+2) 20 [] 0 p ks (s0 p)).bad=false):Fk ks.fcn (s0 p) (ck (N+2) 20 [] 0 p ks (s0 p)):=by
 have e:ck (N+2) 20 [] 0 p ks (s0 p)=blkC (ck (N+1)) ks (s0 p):=by
  show ckS (ck (N+1)) 20 [] 0 p ks (s0 p)=_
  unfold ckS ckX
  rw[if_neg (by simp[Cs.bad,s0])]
  simp only[Int.reduceEq,if_false,if_true]
 rw[e] at hb⊢
 unfold blkC at hb⊢
 have hb1:(ckN (ck (N+1)) ks (s0 p)).bad=false:=hb
 have q:=k_top N ks (s0 p) h hb1
 exact ⟨q.len,q.kep⟩
end Go.Proofs.YtkjbgggghigapaaGreat


namespace Go.Proofs.YtkjbgggghigapaaGreat
def F.z31:F→Nat
 | .nil=>0
 | .cons k _ _ _ ks r=>(if k=31 then 1 else 0)+ks.z31+r.z31
theorem F.z31_app:∀f g:F,(f.app g).z31=f.z31+g.z31
 | .nil,g=>by simp[F.app,F.z31]
 | .cons k t n p ks r,g=>by simp only[F.app,F.z31,F.z31_app r g];omega
theorem z31_one (k:Int) (t:List UInt8) (n p:Int) (ks:F):(one k t n p ks).z31=(if k=31 then 1 else 0)+ks.z31:=by simp only[one,F.z31];omega
def F.t31:F→Nat
 | .nil=>0
 | .cons _ _ _ _ ks r=>ks.z31+r.t31
def F.u31:F→Nat
 | .nil=>0
 | .cons _ _ _ _ ks r=>ks.t31+r.u31
theorem F.t31_app:∀f g:F,(f.app g).t31=f.t31+g.t31
 | .nil,g=>by simp[F.app,F.t31]
 | .cons k t n p ks r,g=>by simp only[F.app,F.t31,F.t31_app r g];omega
theorem F.t31_le:∀f:F,f.t31≤f.z31
 | .nil=>Nat.le_refl _
 | .cons k t n p ks r=>by have:=F.t31_le r;simp only[F.t31,F.z31];omega
theorem t31_one (k:Int) (t:List UInt8) (n p:Int) (ks:F):(one k t n p ks).t31=ks.z31:=by simp only[one,F.t31];omega
theorem u31_one (k:Int) (t:List UInt8) (n p:Int) (ks:F):(one k t n p ks).u31=ks.t31:=by simp only[one,F.u31];omega
theorem Gz.namn {R:F→List Tok→Prop} {q:Int} {l:List Tok} {k:F→List Tok→PR} (hq:q≠31) (h:∀f,f.z31=0→l.tail.length+1=l.length→Gz R (k f l.tail)):Gz R (Go.Proofs.YtkjbgggghigapaaGreat.nam q l k):=by
 unfold Go.Proofs.YtkjbgggghigapaaGreat.nam
 split
 ·next e=>exact h _ (by simp only[one,F.z31,if_neg hq]) (tail_len (by rw[e];decide))
 ·exact .bad _
@[reducible] def Zn (j:J) (_:List Tok) (f:F) (_:List Tok):Prop:=
  match j with
  | .blk c=>(c=false→f.z31=0)∧f.u31=0
  | .bk c a=>(c=false→f.z31≤a.z31)∧f.t31≤a.t31
  | .stat=>f.z31=0
  | .lst a=>f.z31≤a.z31
  | .nms a=>f.z31≤a.z31
  | .ifs a=>f.z31≤a.z31
  | .asg a=>f.z31≤a.z31
  | .ex _=>f.z31=0
  | .exl _ g=>f.z31≤g.z31
  | .opd=>f.z31=0
  | .suf=>f.z31=0
  | .sufl g=>f.z31≤g.z31
  | .tab a=>f.z31≤a.z31
  | .fld=>f.z31=0
section
variable {rec:J→List Tok→PR} (ih:∀j l,Gz (Zn j l) (rec j l))
include ih
theorem gn_body {R:F→List Tok→Prop} {l:List Tok} {k:F→List Tok→PR} (h:∀f m,f.z31=0→Gz R (k f m)):Gz R (bodyP rec l k):=
 .need (by decide) fun e=>.bind (ih (.blk false) _) fun f m h1=>.need (by decide) fun e2=>h f _ (by simp only[Zn,forall_const] at h1;exact h1.1)
theorem gn_step (j:J) (l:List Tok):Gz (Zn j l) (stp' rec j l):=by
 have tl:∀c,hc l=c→c≠56→l.tail.length+1=l.length:=fun c h h2=>tail_len (by rw[h];exact h2)
 cases j with
 | blk c=>exact .bind (ih (.bk c .nil) l) fun f m h=>.ok (by
  simp only[Zn,z31_one,u31_one,Int.reduceEq,↓reduceIte,F.z31,F.t31] at h⊢
  exact ⟨fun hc=>by have:=h.1 hc;omega,by omega⟩)
 | bk c a=>
   refine .cnd (fun h=>ih (.bk c a) _) fun _=>.cnd (fun h=>?_) fun _=>.cnd (fun h=>?_) fun _=>.cnd (fun _=>.ok (by simp only[Zn];exact ⟨fun _=>Nat.le_refl _,Nat.le_refl _⟩)) fun _=>.bind (ih .stat l) fun f m h1=>(ih (.bk c _) m).mono fun g m2 h2=>by
    simp only[Zn,F.z31_app,F.t31_app] at h1 h2⊢
    have:=F.t31_le f
    exact ⟨fun hc=>by have:=h2.1 hc;omega,by omega⟩
   ·refine .bind (Q:=fun f _=>f.z31=0) ?_ fun f m h1=>.ok (by
     simp only[Zn,F.z31_app,F.t31_app]
     have:=F.t31_le f
     exact ⟨fun hc=>by omega,by omega⟩)
    refine .cnd (fun h2=>.ok ?_) fun _=>.cnd (fun _=>.ok (by simp only[z31_one,Int.reduceEq,↓reduceIte,F.z31])) fun _=>.bind (ih (.lst .nil) _) fun f m h2=>.ok ?_
    ·simp only[z31_one,Int.reduceEq,↓reduceIte,F.z31]
    ·simp only[Zn,F.z31] at h2
     simp only[z31_one,Int.reduceEq,↓reduceIte];omega
   ·refine .bind (Q:=fun f _=>f.t31=0) ?_ fun f m h1=>(ih (.bk c _) m).mono fun g m2 h2=>by
     simp only[Zn,F.z31_app,F.t31_app] at h2⊢
     exact ⟨fun hc=>absurd h.1 (by rw[hc];decide),by omega⟩
    refine .namn (by decide) fun f hf e1=>.need (by decide) fun e2=>.bind (Q:=fun ps _=>ps.z31=0) (.cnd (fun _=>.ok (by simp only[F.z31])) fun _=>.namn (by decide) fun g hg e3=>(ih (.nms g) _).mono fun ps m h3=>by simp only[Zn] at h3;omega) fun ps m h3=>.need (by decide) fun e4=>.bind (ih (.blk false) _) fun b m2 h4=>.need (by decide) fun e5=>.ok (by simp only[Zn,forall_const] at h4;simp only[t31_one,F.z31_app];omega)
 | stat=>
   refine .cnd (fun h=>gn_body ih fun f m h1=>.ok (by simp only[Zn,z31_one,Int.reduceEq,↓reduceIte];omega)) fun _=>.cnd (fun h=>?_) fun _=>.cnd (fun h=>?_) fun _=>.cnd (fun h=>?_) fun _=>.cnd (fun h=>?_) fun _=>.cnd (fun h=>.ok (by have:=tl _ h (by decide);simp only[Zn,z31_one,Int.reduceEq,↓reduceIte,F.z31]<;>omega)) fun _=>?_
   ·have:=tl _ h (by decide)
    exact .bind (ih (.ex 0) _) fun f m h1=>gn_body ih fun b m2 h2=>.ok (by simp only[Zn,z31_one,Int.reduceEq,↓reduceIte,F.z31_app] at h1⊢;omega)
   ·have:=tl _ h (by decide)
    exact .bind (ih (.ifs .nil) _) fun f m h1=>.ok (by simp only[Zn,z31_one,Int.reduceEq,↓reduceIte,F.z31] at h1⊢;omega)
   ·have:=tl _ h (by decide)
    refine .namn (by decide) fun f hf e1=>.cnd (fun h2=>?_) fun _=>.bind (ih (.nms f) _) fun ns m h2=>.need (by decide) fun e2=>.bind (ih (.lst ns) _) fun g m2 h3=>gn_body ih fun b m3 h4=>.ok (by simp only[Zn,z31_one,Int.reduceEq,↓reduceIte,F.z31_app] at h2 h3⊢;omega)
    have:=tail_len (l:=l.tail.tail) (by rw[h2];decide)
    exact .bind (ih (.ex 0) _) fun a1 m h3=>.need (by decide) fun e2=>.bind (ih (.ex 0) _) fun a2 m2 h4=>.cnd (fun h5=>.bind (ih (.ex 0) _) fun a3 m3 h6=>gn_body ih fun b m4 h7=>.ok (by have:=tail_len (l:=m2) (by rw[h5];decide);simp only[Zn,z31_one,Int.reduceEq,↓reduceIte,F.z31_app] at h3 h4 h6⊢;omega)) fun _=>gn_body ih fun b m4 h7=>.ok (by simp only[Zn,z31_one,Int.reduceEq,↓reduceIte,F.z31_app] at h3 h4⊢;omega)
   ·have:=tl _ h (by decide)
    exact .namn (by decide) fun f hf e1=>.bind (ih (.nms f) _) fun ns m h2=>.cnd (fun h5=>.bind (ih (.lst ns) _) fun g m2 h3=>.ok (by have:=tail_len (l:=m) (by rw[h5];decide);simp only[Zn,z31_one,Int.reduceEq,↓reduceIte] at h2 h3⊢;omega)) fun _=>.ok (by simp only[Zn,z31_one,Int.reduceEq,↓reduceIte] at h2⊢;omega)
   ·exact .bind (ih .suf l) fun f m h1=>.cnd (fun _=>.tgt (.bind (ih (.asg f) _) fun ts m2 h2=>.need (by decide) fun e2=>.bind (ih (.lst ts) _) fun g m3 h3=>.ok (by simp only[Zn,z31_one,Int.reduceEq,↓reduceIte] at h1 h2 h3⊢;omega))) fun _=>.cnd (fun _=>.ok (by simp only[Zn,z31_one,Int.reduceEq,↓reduceIte] at h1⊢;omega)) fun _=>.bad _
 | lst a=>exact .bind (ih (.ex 0) l) fun f m h1=>.cnd (fun h=>(ih (.lst _) _).mono fun g m2 h2=>by have:=tail_len (l:=m) (by rw[h];decide);simp only[Zn,F.z31_app] at h1 h2⊢;omega) fun _=>.ok (by simp only[Zn,F.z31_app] at h1⊢;omega)
 | nms a=>exact .cnd (fun h=>.namn (by decide) fun f hf e1=>(ih (.nms _) _).mono fun g m2 h2=>by have:=tl _ h (by decide);simp only[Zn,F.z31_app] at h2⊢;omega) fun _=>.ok (by simp only[Zn];omega)
 | ifs a=>exact .bind (Q:=fun f _=>f.z31≤a.z31) (.bind (ih (.ex 0) l) fun f m h1=>.need (by decide) fun e1=>.bind (ih (.blk false) _) fun b m2 h2=>.ok (by simp only[Zn,F.z31_app,forall_const] at h1 h2⊢;omega)) fun f m h1=>.cnd (fun h=>(ih (.ifs f) _).mono fun g m2 h2=>by have:=tail_len (l:=m) (by rw[h];decide);simp only[Zn] at h2⊢;omega) fun _=>.cnd (fun h=>.bind (ih (.blk false) _) fun b m2 h2=>.need (by decide) fun e2=>.ok (by have:=tail_len (l:=m) (by rw[h];decide);simp only[Zn,F.z31_app,forall_const] at h2⊢;omega)) fun _=>.need (by decide) fun e2=>.ok (by simp only[Zn];omega)
 | asg a=>exact .cnd (fun h=>.bind (ih .suf _) fun f m h1=>.tgt ((ih (.asg _) m).mono fun g m2 h2=>by have:=tl _ h (by decide);simp only[Zn,F.z31_app] at h1 h2⊢;omega)) fun _=>.ok (by simp only[Zn];omega)
 | ex a=>exact .bind (ih .opd l) fun f m h1=>(ih (.exl a f) m).mono fun g m2 h2=>by simp only[Zn] at h1 h2⊢;omega
 | exl a g=>exact .cnd (fun h=>.bind (ih (.ex _) _) fun f m h1=>(ih (.exl a _) m).mono fun g2 m2 h2=>by have:=tail_len (l:=l) (by intro e;rw[e] at h;exact absurd h (Nat.not_lt_zero a));simp only[Zn,z31_one,Int.reduceEq,↓reduceIte,F.z31_app] at h1 h2⊢;omega) fun _=>.ok (by simp only[Zn];omega)
 | opd=>exact .cnd (fun _=>ih .suf l) fun _=>.cnd (fun h=>.bind (ih (.tab .nil) _) fun f m h1=>.need (by decide) fun e1=>.ok (by have:=tl _ h (by decide);simp only[Zn,z31_one,Int.reduceEq,↓reduceIte,F.z31] at h1⊢;omega)) fun _=>.cnd (fun h=>.bind (ih .opd _) fun f m h1=>.ok (by have :l.tail.length+1=l.length:=by {rcases h with h | h | h<;>exact tl _ h (by decide)};simp only[Zn,z31_one,Int.reduceEq,↓reduceIte] at h1⊢;omega)) fun _=>.cnd (fun h=>.ok (by have:=tl _ h (by decide);simp only[Zn,z31_one,Int.reduceEq,↓reduceIte,F.z31]<;>omega)) fun _=>.cnd (fun h=>.ok (by have:=tl _ h (by decide);simp only[Zn,z31_one,Int.reduceEq,↓reduceIte,F.z31]<;>omega)) fun _=>.cnd (fun h=>.ok (by have:=tl _ h (by decide);simp only[Zn,z31_one,Int.reduceEq,↓reduceIte,F.z31]<;>omega)) fun _=>.cnd (fun h=>.ok (by have:=tl _ h (by decide);simp only[Zn,z31_one,Int.reduceEq,↓reduceIte,F.z31]<;>omega)) fun _=>.cnd (fun h=>.ok (by have:=tl _ h (by decide);simp only[Zn,z31_one,Int.reduceEq,↓reduceIte,F.z31]<;>omega)) fun _=>.bad _
 | suf=>exact .bind (Q:=fun f _=>f.z31=0) (.cnd (fun h=>.bind (ih (.ex 0) _) fun f m h1=>.need (by decide) fun e1=>.ok (by have:=tl _ h (by decide);simp only[Zn,z31_one,Int.reduceEq,↓reduceIte] at h1⊢;omega)) fun _=>.namn (by decide) fun f hf e1=>.ok (by omega)) fun f m h1=>(ih (.sufl f) m).mono fun g m2 h2=>by simp only[Zn] at h2⊢;omega
 | sufl g=>exact .cnd (fun h=>.bind (ih (.ex 0) _) fun f m h1=>.need (by decide) fun e1=>(ih (.sufl _) _).mono fun g2 m2 h2=>by have:=tl _ h (by decide);simp only[Zn,z31_one,Int.reduceEq,↓reduceIte,F.z31_app] at h1 h2⊢;omega) fun _=>.cnd (fun h=>.namn (by decide) fun f hf e1=>(ih (.sufl _) _).mono fun g2 m2 h2=>by have:=tl _ h (by decide);simp only[Zn,z31_one,Int.reduceEq,↓reduceIte,F.z31_app] at h2⊢;omega) fun _=>.cnd (fun h=>.bind (Q:=fun f _=>f.z31≤g.z31) (.cnd (fun h2=>.ok (by have:=tail_len (l:=l.tail) (by rw[h2];decide);omega)) fun _=>.bind (ih (.lst g) _) fun f m h1=>.need (by decide) fun e1=>.ok (by simp only[Zn] at h1⊢;omega)) fun f m h1=>(ih (.sufl _) m).mono fun g2 m2 h2=>by have:=tl _ h (by decide);simp only[Zn,z31_one,Int.reduceEq,↓reduceIte] at h2⊢;omega) fun _=>.ok (by simp only[Zn];omega)
 | tab a=>exact .cnd (fun _=>.ok (by simp only[Zn];omega)) fun _=>.bind (ih .fld l) fun f m h1=>.cnd (fun h=>(ih (.tab _) _).mono fun g m2 h2=>by have :m.tail.length≤m.length:=by {simp};simp only[Zn,F.z31_app] at h1 h2⊢;omega) fun _=>.ok (by simp only[Zn,F.z31_app] at h1⊢;omega)
 | fld=>exact .cnd (fun h=>.bind (ih (.ex 0) _) fun f m h1=>.need (by decide) fun e1=>.need (by decide) fun e2=>.bind (ih (.ex 0) _) fun v m2 h2=>.ok (by have:=tl _ h (by decide);simp only[Zn,z31_one,Int.reduceEq,↓reduceIte,F.z31_app] at h1 h2⊢;omega)) fun _=>.cnd (fun h=>.bind (ih (.ex 0) _) fun v m h1=>.ok (by have:=tl _ h.1 (by decide);have:=tail_len (l:=l.tail) (by rw[h.2];decide);simp only[Zn,z31_one,Int.reduceEq,↓reduceIte,F.z31_app,F.z31] at h1⊢;omega)) fun _=>.bind (ih (.ex 0) l) fun v m h1=>.ok (by simp only[Zn,z31_one,Int.reduceEq,↓reduceIte] at h1⊢;omega)
end
theorem gn_all:∀(n:Nat) (j:J) (l:List Tok),Gz (Zn j l) (pr n j l)
 | 0,_,_=>fun f m h=>by cases h
 | n+1,j,l=>gn_step (gn_all n) j l
theorem F.n31_of:∀f:F,f.z31=0→f.n31=true
 | .nil,_=>rfl
 | .cons k t n p ks r,h=>by
   simp only[F.z31] at h
   have hk:k≠31:=fun e=>by rw[if_pos e] at h;omega
   simp only[F.n31,Bool.and_eq_true,decide_eq_true_eq]
   exact ⟨⟨hk,F.n31_of ks (by omega)⟩,F.n31_of r (by omega)⟩
theorem F.top_of:∀f:F,f.t31=0→f.top=true
 | .nil,_=>rfl
 | .cons k t n p ks r,h=>by
   simp only[F.t31] at h
   simp only[F.top,Bool.and_eq_true]
   exact ⟨F.n31_of ks (by omega),F.top_of r (by omega)⟩
theorem prT_u31 (l:List UInt8):(prT l).1.u31=0:=by
 unfold prT
 split
 ·show noF.u31=0
  decide
 ·next hc=>
  cases hk:chk (scT l).1 with
  | bad p=>show noF.u31=0;decide
  | out=>show noF.u31=0;decide
  | ok f m=>
    show f.u31=0
    unfold chk at hk
    cases hx:pr (8 * (scT l).1.length+4) (.blk true) (scT l).1 with
    | bad p=>rw[hx] at hk;cases hk
    | out=>rw[hx] at hk;cases hk
    | ok g m2=>
      have:=gn_all _ _ _ g m2 hx
      rw[hx] at hk
      simp only[PR.bind] at hk
      split at hk
      ·injection hk with h1 h2
       rw[←h1]
       exact this.2
      ·cases hk
theorem prT_top {l:List UInt8} {k:Int} {t:List UInt8} {n p:Int} {ks r:F} (h:(prT l).1= .cons k t n p ks r):ks.top=true:=by
 have:=prT_u31 l
 rw[h] at this
 simp only[F.u31] at this
 exact F.top_of ks (by omega)
end Go.Proofs.YtkjbgggghigapaaGreat


namespace Go.Proofs.YtkjbgggghigapaaGreat
open Go.RowKit
def cdS:List Gu→Nat
 | []=>0
 | u::l=>u.cd.length+cdS l
theorem cdS_set:∀(l:List Gu) (i:Nat) (u u':Gu),l[i]?=some u→cdS (l.set i u')+u.cd.length=cdS l+u'.cd.length
 | [],i,u,u',h=>by simp at h
 | x::l,0,u,u',h=>by simp at h;subst h;simp only[List.set_cons_zero,cdS];omega
 | x::l,i+1,u,u',h=>by
   have:=cdS_set l i u u' (by simpa using h)
   simp only[List.set_cons_succ,cdS];omega
theorem cdS_le:∀(l:List Gu) (i:Nat) (u:Gu),l[i]?=some u→u.cd.length≤cdS l
 | [],i,u,h=>by simp at h
 | x::l,0,u,h=>by simp at h;subst h;simp only[cdS];omega
 | x::l,i+1,u,h=>by
   have:=cdS_le l i u (by simpa using h)
   simp only[cdS];omega
def Gs.wt (s:Gs):Nat:=cdS s.us+s.lo.length+s.br.length
structure Okg (L:Tx) (z f:Nat) (s:Gs):Prop where
 wt:s.wt+16 * z≤90000000
 cs:∀(i:Nat) (u:Gu),s.us[i]?=some u→u.cs.length≤2000000
 cu:s.cu<s.us.length
 be:s.be+f≤s.us.length
 pl:0≤s.pl∧s.pl≤(L.length:Int)
 ln:30000 * (z:Int)≤s.ln+1000000000000∧s.ln+30000 * (z:Int)≤1000000000000
structure Gb (L:Tx) (z f:Nat) (s s':Gs):Prop where
 cu:s'.cu=s.cu
 ul:s'.us.length=s.us.length
 us:∀(i:Nat) (u':Gu),s'.us[i]?=some u'→∃u,s.us[i]?=some u∧u'.nm=u.nm∧u'.pa=u.pa∧u'.sl=u.sl∧u'.cs=u.cs
 gl:s'.gl=s.gl
 wt:s'.wt≤s.wt+16 * z
 be:s'.be≤s.be+f
 pl:0≤s.pl∧s.pl≤(L.length:Int)→0≤s'.pl∧s'.pl≤(L.length:Int)
 ln:s.ln≤s'.ln+30000 * (z:Int)∧s'.ln≤s.ln+30000 * (z:Int)
 cl:s.code.length≤s'.code.length
section
variable {L:Tx} {y z f g:Nat} {a b c s s':Gs}
theorem Gb.refl (L:Tx) (z f:Nat) (s:Gs):Gb L z f s s:=⟨rfl,rfl,fun _ u h=>⟨u,h,rfl,rfl,rfl,rfl⟩,rfl,by omega,by omega,id,⟨by omega,by omega⟩,Nat.le_refl _⟩
theorem Gb.trans (h:Gb L y f a b) (k:Gb L z g b c):Gb L (y+z) (f+g) a c:=
 ⟨k.cu.trans h.cu,k.ul.trans h.ul,fun i u' hu'=>by
  obtain ⟨u1,h1,e1,e2,e3,e4⟩:=k.us i u' hu'
  obtain ⟨u,h2,e5,e6,e7,e8⟩:=h.us i u1 h1
  exact ⟨u,h2,e1.trans e5,e2.trans e6,e3.trans e7,e4.trans e8⟩,
  k.gl.trans h.gl,by have:=h.wt;have:=k.wt;omega,by have:=h.be;have:=k.be;omega,fun q=>k.pl (h.pl q),by
   obtain ⟨q1,q2⟩:=h.ln
   obtain ⟨q3,q4⟩:=k.ln
   exact ⟨by omega,by omega⟩,Nat.le_trans h.cl k.cl⟩
theorem Gb.mono (h:Gb L y f a b) (hz:y≤z) (hf:f≤g):Gb L z g a b:=⟨h.cu,h.ul,h.us,h.gl,by have:=h.wt;omega,by have:=h.be;omega,h.pl,by obtain ⟨q1,q2⟩:=h.ln;exact ⟨by omega,by omega⟩,h.cl⟩
theorem Okg.mono (h:Okg L z g s) (hz:y≤z) (hf:f≤g):Okg L y f s:=⟨by have:=h.wt;omega,h.cs,h.cu,by have:=h.be;omega,h.pl,by have:=h.ln.1;omega,by have:=h.ln.2;omega⟩
theorem Okg.step (h:Okg L (y+z) (f+g) s) (k:Gb L y f s s'):Okg L z g s':=by
 have l:=k.ln
 exact ⟨by have:=h.wt;have:=k.wt;omega,fun i u' hu'=>by obtain ⟨u,h1,_,_,_,e⟩:=k.us i u' hu';rw[e];exact h.cs i u h1,by rw[k.cu,k.ul];exact h.cu,by have:=h.be;have:=k.be;rw[k.ul];omega,k.pl h.pl,by have:=h.ln.1;omega,by have:=h.ln.2;omega⟩
theorem Okg.code (h:Okg L z f s):s.code.length≤90000000:=by
 obtain ⟨u,hu⟩:∃u,s.us[s.cu]?=some u:=⟨_,List.getElem?_eq_getElem h.cu⟩
 have:=cdS_le s.us s.cu u hu
 have:=h.wt
 unfold Gs.wt at this
 unfold Gs.code
 rw[hu]
 show u.cd.length≤_
 omega
theorem gb_put (c:List In) (s:Gs) (L:Tx) (z f d:Nat) (h0:s.code.length≤c.length) (hc:c.length≤s.code.length+d) (hd:d≤16 * z):Gb L z f s (s.put c):=by
 unfold Gs.put
 unfold Gs.code at hc h0
 cases hu:s.us[s.cu]? with
 | none=>exact .refl _ _ _ _
 | some u=>
   rw[hu] at hc h0
   have h0:u.cd.length≤c.length:=h0
   have hc:c.length≤u.cd.length+d:=hc
   have q:=cdS_set s.us s.cu u {u with cd:=c} hu
   refine ⟨rfl,by simp,fun i u' hu'=>?_,rfl,?_,by simp,id,⟨by simp;omega,by simp;omega⟩,?_⟩
   ·by_cases e:s.cu=i
    ·subst e
     simp only[Option.elim_some,List.getElem?_set_self (List.getElem?_eq_some_iff.1 hu).1,Option.some.injEq] at hu'
     subst hu'
     exact ⟨u,hu,rfl,rfl,rfl,rfl⟩
    ·simp only[Option.elim_some,List.getElem?_set_ne e] at hu'
     exact ⟨u',hu',rfl,rfl,rfl,rfl⟩
   ·simp only[Option.elim_some,Gs.wt] at q⊢
    omega
   ·have hl:=(List.getElem?_eq_some_iff.1 hu).1
    unfold Gs.code
    simp only[Option.elim_some,List.getElem?_set_self hl]
    rw[hu]
    exact h0
end
end Go.Proofs.YtkjbgggghigapaaGreat


namespace Go.Proofs.YtkjbgggghigapaaGreat
open Go.RowKit
def arG (k n:Int) (l:Nat):Bool:=
 if k=7∨k=11∨k=25∨k=26 then decide (2≤l)
 else if k=8∨k=9∨k=10∨k=13∨k=23∨k=28 then decide (1≤l)
 else if k=21∨k=22 then decide (0≤n∧n≤l)
 else if k=27∨k=31 then decide (0≤n∧n+1≤l)
 else true
def runG (k:Int) (ks:F):Bool:=if k=23 then decide (kdA ks 0=8) else true
def F.wfG (L:Tx):F→Bool
 | .nil=>true
 | .cons k t n p ks r=>arG k n ks.len && runG k ks && decide (0≤p∧p≤(L.length:Int)) && decide (t.length≤20000) && ks.wfG L && r.wfG L
theorem F.wfG_cons {L:Tx} {k:Int} {t:Tx} {n p:Int} {ks r:F} (h:(F.cons k t n p ks r).wfG L=true):(one k t n p ks).wfG L=true∧r.wfG L=true:=by
 simp only[F.wfG,one,Bool.and_eq_true] at h⊢
 exact ⟨⟨h.1,trivial⟩,h.2⟩
theorem F.wfG_one {L:Tx} {k:Int} {t:Tx} {n p:Int} {ks:F} (h:(one k t n p ks).wfG L=true):arG k n ks.len=true∧(0≤p∧p≤(L.length:Int))∧t.length≤20000∧ks.wfG L=true:=by
 simp only[F.wfG,one,Bool.and_eq_true,decide_eq_true_eq] at h
 exact ⟨h.1.1.1.1.1,h.1.1.1.2,h.1.1.2,h.1.2⟩
theorem F.wfG_run {L:Tx} {t:Tx} {n p:Int} {ks:F} (h:(one 23 t n p ks).wfG L=true):kdA ks 0=8:=by
 simp only[F.wfG,one,Bool.and_eq_true,decide_eq_true_eq] at h
 have q:=h.1.1.1.1.2
 unfold runG at q
 simpa using q
theorem z31_cons (k:Int) (t:Tx) (n p:Int) (ks r:F):(F.cons k t n p ks r).z31=(one k t n p ks).z31+r.z31:=by
 have:=F.z31_app (one k t n p ks) r
 rw[←this];rfl
def GN (f:FuncId) (L:Tx) (N:Nat) (nd:Ndg):Prop:=∀(No:Nat→Prop) (b:Nat) (tx:Tx) (s:Gs) (W:World) (k:Int) (t:Tx) (n p:Int) (a:Option Addr) (c:Nat) (ks:F),Hid (tx=L)→Gk No b tx s W→Rv W No a ks→ks.siz<N→(one k t n p ks).wfG L=true→(ks.len≤c∧c≤maxLen)→Okg L (ks.siz+1) (one k t n p ks).z31 s→
 Calls Tryz.prog f #[.pointer (some ⟨b,0,none⟩),(.agg #[.int .i64 (k),.string ⟨(t).toArray⟩,.int .i64 (n),.int .i64 (p),.slice a ks.len c])] W (GP No b tx W (nd k t n p ks s))
def GG (L:Tx) (nd:Ndg):Prop:=∀k t n p ks s,(one k t n p ks).wfG L=true→Gb L (ks.siz+1) (one k t n p ks).z31 s (nd k t n p ks s)
set_option maxRecDepth 20000 in
set_option maxHeartbeats 4000000 in
theorem values_any {L:Tx} {N:Nat} {nd:Jg→Ndg} (H:GG L (nd .val)) (CE:GN 109 L N (nd .val)) (No:Nat→Prop) (b:Nat) (tx:Tx) (s:Gs) (W:World) (a:Option Addr) (c:Nat) (r:F) (hT:Hid (tx=L)) (h:Gk No b tx s W) (hr:Rv W No a r) (hs:r.siz≤N) (hw:r.wfG L=true) (hL:Okg L r.siz r.z31 s):
 Calls Tryz.prog 107 #[.pointer (some ⟨b,0,none⟩),.slice a r.len c] W (GP No b tx W (vls nd r s)):=by
 have hlen:=r.len_siz
 have hsz:r.siz≤10000000:=by have:=hL.wt;omega
 have HA:Hid (r= .nil∨∃g o,a=some ⟨g,o,none⟩):=by
  cases r with
  | nil=>exact .inl rfl
  | cons k t n p ks r'=>obtain ⟨g,o,_,_,e,_⟩:=hr.cons;exact .inr ⟨g,o,e⟩
 have H0:Hid (Gk No b tx s W∧Rv W No a r∧Okg L r.siz r.z31 s):=⟨h,hr,hL⟩
 clear h hr hL
 go_enter Tryz.func107,Tryz.ntmps107
 go_wp2_with fail
 go_loopw [5,8] (fun _ iv wx=>∃(i:Nat) (q:F) (s':Gs),iv= .int .i64 (i:Nat)∧i+q.len=r.len∧Hid (Gk No b tx s' wx∧Kn No W wx∧(∀g o,a=some ⟨g,o,none⟩→Rv wx No (some ⟨g,o+i * 5,none⟩) q)∧vls nd q s'=vls nd r s∧q.siz≤r.siz∧q.wfG L=true∧Okg L q.siz q.z31 s')) (fun _ iv _=>r.len - (intOf iv).toNat)
 case atStart=>exact ⟨0,r,s,rfl,by omega,H0.out.1,Kn.refl _ _,fun g o e=>by have:=H0.out.2.1;rw[e] at this;simpa using this,rfl,Nat.le_refl _,hw,H0.out.2.2⟩
 case round=>
  clear H0
  obtain ⟨i,q,s',rfl,hi,HR⟩:=hrel
  cases q with
  | nil=>
    have h1:¬(i:Int)<(r.len:Int):=by simp only[F.len] at hi;omega
    have HE:Hid (GP No b tx W (vls nd r s) (.returned (.tuple #[])) wr):=by
     obtain ⟨q1,q2,_,q3,_⟩:=HR.out
     rw[←q3]
     exact ⟨rfl,q1,q2⟩
    go_wp2
    go_end0
    exact HE.out
  | cons k t n p ks q'=>
    simp only[F.len] at hi
    obtain ⟨hC,hK,hRv,hE,hz,hwf,hok⟩:=HR.out
    obtain ⟨g,o,rfl⟩:∃g o,a=some ⟨g,o,none⟩:=HA.out.resolve_left fun e=>by rw[e] at hi;simp only[F.len] at hi;omega
    have hRv:=hRv g o rfl
    obtain ⟨g',o',a',c',e1,hg,c0,c1,c2,c3,c4,hKs,hNx,hcc⟩:=hRv.cons
    injection e1 with e1
    injection e1 with e1 e2
    subst e1 e2
    rw[z31_cons] at hok
    simp only[F.siz] at hz hok
    obtain ⟨hw1,hw2⟩:=F.wfG_cons hwf
    have h1:(i:Int)<(r.len:Int):=by omega
    have wi:IntKind.i64.wrap ((i:Int)+1)=(i:Int)+1:=by rw[IntKind.wrap_i64];omega
    have hok1:Okg L (ks.siz+1) (one k t n p ks).z31 s':=hok.mono (by omega) (by omega)
    have hok2:Okg L q'.siz q'.z31 (nd .val k t n p ks s'):=(hok.mono (y:=(ks.siz+1)+q'.siz) (by omega) (Nat.le_refl _)).step (H k t n p ks s' hw1)
    have X:=Bx.new wr 54 #[.int .i64 k,.string ⟨t.toArray⟩,.int .i64 n,.int .i64 p,.slice a' ks.len c']
    have C:=CE No b tx s' (wr.alloc (.cells #[.int .i64 (k),.string ⟨(t).toArray⟩,.int .i64 (n),.int .i64 (p),.slice a' ks.len c'] 54)) k t n p a' c' ks hT (by obtain ⟨x,hx⟩:=hC;exact ⟨x,hx.alloc _⟩) (hKs.kn ((Kn.refl _ _).alloc _)) (by omega) hw1 hcc hok1
    have HK:Hid (Kn No W (wr.alloc (.cells #[.int .i64 (k),.string ⟨(t).toArray⟩,.int .i64 (n),.int .i64 (p),.slice a' ks.len c'] 54))∧Rv (wr.alloc (.cells #[.int .i64 (k),.string ⟨(t).toArray⟩,.int .i64 (n),.int .i64 (p),.slice a' ks.len c'] 54)) No (some ⟨g,o+i * 5+5,none⟩) q'∧vls nd q' (nd .val k t n p ks s')=vls nd r s∧Okg L q'.siz q'.z31 (nd .val k t n p ks s')∧q'.siz≤r.siz):=⟨hK.alloc _,hNx.kn ((Kn.refl _ _).alloc _),hE,hok2,by omega⟩
    obtain ⟨W1,hW1⟩:∃W1,wr.alloc (.cells #[.int .i64 (k),.string ⟨(t).toArray⟩,.int .i64 (n),.int .i64 (p),.slice a' ks.len c'] 54)=W1:=⟨_,rfl⟩
    rw[hW1] at X C HK
    obtain ⟨p0,p1,p2,p3,p4⟩:=X.five
    clear hC hK hRv hE HR hKs hNx X hok hok1 hok2
    go_wp2_with fail
    refine C.mono ?_;rintro e w2 ⟨rfl,hc1,hc2⟩
    have HF:Hid (Gk No b tx (nd .val k t n p ks s') w2∧Kn No W w2∧(∀g' o',some (⟨g,o,none⟩:Addr)=some ⟨g',o',none⟩→Rv w2 No (some ⟨g',o'+(i+1) * 5,none⟩) q')):=⟨hc1,HK.out.1.trans hc2,fun g' o' e=>by
     injection e with e
     injection e with e1 e2
     subst e1 e2
     have:=HK.out.2.1.kn hc2
     rw[show o+(i+1) * 5=o+i * 5+5 by omega]
     exact this⟩
    clear C hc1 hc2
    go_wp2
    refine ⟨⟨i+1,q',nd .val k t n p ks s',by go_num,by omega,HF.out.1,HF.out.2.1,HF.out.2.2,HK.out.2.2.1,HK.out.2.2.2.2,hw2,HK.out.2.2.2.1⟩,?_⟩
    simp[intOf];omega
end Go.Proofs.YtkjbgggghigapaaGreat


namespace Go.Proofs.YtkjbgggghigapaaGreat
open Go.RowKit
theorem Gs.put_cu (c:List In) (s:Gs):(s.put c).cu=s.cu:=by unfold Gs.put;cases s.us[s.cu]?<;>rfl
theorem lnd_cu (j:Int) (s:Gs):(lnd j s).cu=s.cu:=Gs.put_cu _ _
set_option maxRecDepth 20000 in
set_option maxHeartbeats 8000000 in
theorem land_any (No:Nat→Prop) (b:Nat) (t:Tx) (x:Gx) (s:Gs) (W:World) (sp:Option Addr) (sc:Nat) (l:List Int) (h:GK No b t x s W) (hv:Opd W (.slice sp l.length sc) l) (hsep:∀g o,sp=some ⟨g,o,none⟩→x.lab g≠8+s.cu) (hl:∀j∈l,0≤j∧j<(s.code.length:Int)) (hn:l.length≤100000000) (_hL:s.code.length≤100000000):
 Calls Tryz.prog 110 #[.pointer (some ⟨b,0,none⟩),.slice sp l.length sc] W fun e w'=>e= .returned (.tuple #[])∧GK No b t x (lnds l s) w'∧Kn No W w'∧Tg x (fun k=>k=8+s.cu) W w':=by
 have H0:Hid (GK No b t x s W):=h
 have HO:Hid (0<l.length→∃g o,sp=some ⟨g,o,none⟩∧g<W.heap.size∧∀j i,l[j]?=some i→W.cell? ⟨g,o+j,none⟩=some (.int .i64 i)):=by
  obtain ⟨sp',sc',e,hq⟩:=hv
  injection e with e1 _ _
  subst e1
  exact hq
 clear h hv
 go_enter Tryz.func110,Tryz.ntmps110
 go_wp2_with fail
 go_loopw [5,8] (fun _ iv wx=>∃(i:Nat) (s':Gs),iv= .int .i64 (i:Nat)∧i≤l.length∧Hid (GK No b t x s' wx∧Kn No W wx∧Tg x (fun k=>k=8+s.cu) W wx∧lnds (l.drop i) s'=lnds l s∧s'.cu=s.cu∧s'.code.length=s.code.length)) (fun _ iv _=>l.length - (intOf iv).toNat)
 case atStart=>exact ⟨0,s,rfl,by omega,H0.out,Kn.refl _ _,Tg.refl _ _ _,rfl,rfl,rfl⟩
 case round=>
  clear H0
  obtain ⟨i,s',rfl,hi,HR⟩:=hrel
  obtain ⟨hG,hK,hT,hE,hcu,hcl⟩:=HR.out
  by_cases hlt:i<l.length
  ·obtain ⟨j,hj⟩:∃j,l[i]?=some j:=⟨_,List.getElem?_eq_getElem hlt⟩
   obtain ⟨hj0,hj1⟩:=hl j (List.mem_of_getElem? hj)
   obtain ⟨m,rfl⟩:∃m:Nat,j=(m:Nat):=⟨j.toNat,by omega⟩
   have hd:l.drop i=(m:Int)::l.drop (i+1):=by rw[List.drop_eq_getElem_cons hlt];rw[List.getElem?_eq_getElem hlt] at hj;injection hj with hj;rw[hj]
   obtain ⟨ga,oa,rfl,hga,hca⟩:=HO.out (by omega)
   have r0:wr.cell? ⟨ga,oa+i,none⟩=some (.int .i64 (m:Nat)):=(World.cell?_of_block (a:=⟨ga,oa+i,none⟩) (hT.block ga hga (hsep ga oa rfl))).trans (hca i _ hj)
   obtain ⟨u,c,k,n,hu,hc,hk,hU,d3,d4,hcr,hkr⟩:=hG.here
   rw[Gs.code_eq hu] at hcl
   obtain ⟨g,cp,rfl,hg,hcp⟩:=hG.kAt hu hk (by omega)
   have c1:wr.cell? ⟨b,1,none⟩=some (.pointer (some ⟨x.U,s'.cu * 5,none⟩)):=hG.mx.c 1 _ rfl
   have C:=next_any hG.drew
   have hz:=hkr.frozenAt (m * 4+1)
   obtain ⟨i5,q5,-⟩:=icl_at u.cd m (by omega)
   obtain ⟨g5,e5,z5⟩:=own_at hkr _ _ q5
   have e6:g=g5:=by simpa [Value.ownBlock] using e5
   subst e6
   have hlg:x.lab g=8+s.cu:=by rw[←hcu];exact hG.lk _ _ _ hk rfl
   have HE:Hid (GK No b t x (lnd (m:Nat) s') (wr.drew.setCell ⟨g,m * 4+1,none⟩ (.int .i64 s'.nx))∧Kn No W (wr.drew.setCell ⟨g,m * 4+1,none⟩ (.int .i64 s'.nx))∧Tg x (fun k=>k=8+s.cu) W (wr.drew.setCell ⟨g,m * 4+1,none⟩ (.int .i64 s'.nx))∧lnds (l.drop (i+1)) (lnd (m:Nat) s')=lnds l s∧(lnd (m:Nat) s').cu=s.cu∧(lnd (m:Nat) s').code.length=s.code.length):=by
    have q:=hG.drew.stK hu hk (o:=m * 4+1) (icl_set1 s'.nx u.cd m) (by simp)
    have e:lnd (m:Nat) s'=s'.put (u.cd.modify m (insA s'.nx)):=by unfold lnd;rw[Gs.code_eq hu];rfl
    refine ⟨by rw[e];exact q.1,hK.drew.trans q.2,(hT.trans (⟨Nat.le_refl _,fun _ _ _=>rfl⟩:Tg x _ wr wr.drew)).set hlg _,?_,(lnd_cu _ _).trans hcu,?_⟩
    ·rw[←hE,hd];rfl
    ·rw[e,Gs.code_put hu,List.length_modify];exact hcl
   have hm:(m:Int)<(u.cd.length:Int):=by omega
   have h1:(i:Int)<(l.length:Int):=by omega
   have wi:IntKind.i64.wrap ((i:Int)+1)=(i:Int)+1:=by rw[IntKind.wrap_i64];omega
   clear hG hK hT hE HR hu hc hk hU d3 hcr hkr q5 e5 hd hlg hcl hj hj0 hj1 hca hsep hcu HO hl
   go_wp2_with fail
   go_region_with (refine C.mono ?_;rintro e w2 ⟨rfl,rfl⟩)
   all_goals
    go_wp2
    refine ⟨⟨i+1,lnd (m:Nat) s',by go_num,by omega,HE.out⟩,?_⟩
    simp[intOf];omega
  ·have h1:¬(i:Int)<(l.length:Int):=by omega
   have HE:Hid (GK No b t x (lnds l s) wr∧Kn No W wr∧Tg x (fun k=>k=8+s.cu) W wr):=by
    rw[show l.drop i=[] from List.drop_eq_nil_of_le (by omega)] at hE
    rw[←hE]
    exact ⟨hG,hK,hT⟩
   clear hG hK hT hE HR
   go_wp2
   go_end0
   exact ⟨rfl,HE.out⟩
end Go.Proofs.YtkjbgggghigapaaGreat


namespace Go.Proofs.YtkjbgggghigapaaGreat
open Go.RowKit
set_option maxRecDepth 20000 in
set_option maxHeartbeats 8000000 in
theorem addG2_any (No:Nat→Prop) (b:Nat) (t:Tx) (x:Gx) (s:Gs) (W:World) (op:Int) (v:Value) (l:List Int) (h:GK No b t x s W) (hv:Opd W v l) (h3:l.length≤3) (hL:s.code.length≤100000000):
 Calls Tryz.prog 33 #[.pointer (some ⟨b,0,none⟩),.int .i64 op,v] W fun e w'=>e= .returned (.int .i64 s.nx)∧(∃y,GK No b t y (gad op (opn3 l 0) (opn3 l 1) (opn3 l 2) s) w'∧Sam x y)∧Kn No W w':=by
 obtain ⟨i0,hi0,hz0,hz1,hz2⟩:=info_parts g_info48
 obtain ⟨sp,sc,rfl⟩:=hv.form
 obtain ⟨X,hX⟩:∃X,W.heap.size=X:=⟨_,rfl⟩
 have HK:Hid (GK No b t x s W):=h
 clear h
 go_enter Tryz.func33,Tryz.ntmps33
 go_wp2_with (refine wpList_copy3 hX h3 hv rfl (.tmp 8) (.tmp 9) rfl rfl rfl ?_;intro w1 hw1)
 obtain ⟨N1,hb1⟩:=hw1.out
 have H1:=HK.out.below (by rw[hX];exact hb1)
 obtain ⟨u,c,k,n,hu,hc,hk,hU,d3,d4,hcr,hkr⟩:=H1.here
 have hlen:u.cd.length≤100000000:=by rw[Gs.code_eq hu] at hL;exact hL
 have c1:w1.cell? ⟨b,1,none⟩=some (.pointer (some ⟨x.U,s.cu * 5,none⟩)):=H1.mx.c 1 _ rfl
 have y0:=N1.c 0 _ rfl
 have y1:=N1.c 1 _ rfl
 have y2:=N1.c 2 _ rfl
 have d4A:∀o,(w1.drew.alloc o).cell? ⟨x.U,s.cu * 5+4,none⟩=some k:=fun o=>((b1 w1.drew o).cell (p:=⟨x.U,s.cu * 5+4,none⟩) (by exact H1.ltU)).trans d4
 have d4B:∀o,(w1.alloc o).cell? ⟨x.U,s.cu * 5+4,none⟩=some k:=fun o=>((b1 w1 o).cell (p:=⟨x.U,s.cu * 5+4,none⟩) (by exact H1.ltU)).trans d4
 obtain ⟨S,hS⟩:∃S:World→Prop,S=fun w'=>w'.cell? ⟨b,1,none⟩=some (.pointer (some ⟨x.U,s.cu * 5,none⟩))∧w'.cell? ⟨X,0,none⟩=some (.int .i64 (opn3 l 0))∧w'.cell? ⟨X,1,none⟩=some (.int .i64 (opn3 l 1))∧w'.cell? ⟨X,2,none⟩=some (.int .i64 (opn3 l 2)):=⟨_,rfl⟩
 have keep:∀w',w'.heap[b]?=w1.heap[b]?→w'.heap[X]?=w1.heap[X]?→S w':=fun w' e1 e2=>by
  rw[hS]
  exact ⟨(World.cell?_of_block (a:=⟨b,1,none⟩) e1).trans c1,(World.cell?_of_block (a:=⟨X,0,none⟩) e2).trans y0,(World.cell?_of_block (a:=⟨X,1,none⟩) e2).trans y1,(World.cell?_of_block (a:=⟨X,2,none⟩) e2).trans y2⟩
 have lX:X<w1.heap.size:=N1.lt
 have hXU:X≠x.U:=fun e=>by have:=HK.out.ltU;rw[hX] at this;omega
 have hXk:∀g,k.ownBlock=some g→g≠X:=fun g hg e=>by have:=((HK.out.kr _ _ _ hu hk).lt g hg).2;rw[hX] at this;omega
 have hbU:b≠x.U:=fun e=>by have:=H1.lb;rw[e,H1.lU] at this;omega
 have HS0:Hid (S w1.drew):=keep _ rfl rfl
 have HSa:Hid (∀o,S (w1.drew.alloc o)):=fun o=>keep _ ((World.grownBy_alloc w1.drew o none).block b H1.lt (by simp)) ((World.grownBy_alloc w1.drew o none).block X lX (by simp))
 have HM:Hid (∀o w3,(w1.drew.alloc o).grownBy w3 k.ownBlock→S w3∧w3.cell? ⟨x.U,s.cu * 5+4,none⟩=some k∧w3.frozen? ⟨x.U,s.cu * 5+4,none⟩=false∧∀v,S (w3.setCell ⟨x.U,s.cu * 5+4,none⟩ v)):=fun o w3 hg3=>by
  have hz:=H1.ur
  rw[hU] at hz
  have e1:w3.heap[b]?=w1.heap[b]?:=(hg3.block b (Nat.lt_of_lt_of_le H1.lt (by simp)) (fun e=>by have:=H1.lk _ _ _ hk e.symm;have:=H1.lb;omega)).trans ((World.grownBy_alloc w1.drew o none).block b H1.lt (by simp))
  have e2:w3.heap[x.U]?=w1.heap[x.U]?:=(hg3.block x.U (Nat.lt_of_lt_of_le H1.ltU (by simp)) (fun e=>by have:=H1.lk _ _ _ hk e.symm;have:=H1.lU;omega)).trans ((World.grownBy_alloc w1.drew o none).block x.U H1.ltU (by simp))
  have e3:w3.heap[X]?=w1.heap[X]?:=(hg3.block X (Nat.lt_of_lt_of_le lX (by simp)) (fun e=>hXk X e.symm rfl)).trans ((World.grownBy_alloc w1.drew o none).block X lX (by simp))
  exact ⟨keep _ e1 e3,(World.cell?_of_block (a:=⟨x.U,s.cu * 5+4,none⟩) e2).trans d4,(World.frozen?_of_block (a:=⟨x.U,s.cu * 5+4,none⟩) e2).trans (hz.frozenAt (s.cu * 5+4)),fun v=>keep _ ((Below.heap_setCell w3 _ v b (by exact hbU)).trans e1) ((Below.heap_setCell w3 _ v X (by exact hXU)).trans e3)⟩
 have HQ:Hid (s.us[s.cu]?=some u∧x.vk[s.cu]?=some k∧x.vU= .slice (some ⟨x.U,0,none⟩) s.us.length n∧Below W.heap.size W w1):=⟨hu,hk,hU,by rw[hX];exact hb1⟩
 clear hw1 N1 hb1 H1 hu hc hk hU d3 hcr hL keep lX hXU hXk hbU c1 y0 y1 y2
 subst hS
 refine wp_region_held_drew (S:=(fun w'=>w'.cell? ⟨b,1,none⟩=some (.pointer (some ⟨x.U,s.cu * 5,none⟩))∧w'.cell? ⟨X,0,none⟩=some (.int .i64 (opn3 l 0))∧w'.cell? ⟨X,1,none⟩=some (.int .i64 (opn3 l 1))∧w'.cell? ⟨X,2,none⟩=some (.int .i64 (opn3 l 2)))) (by kernel_rfl) HS0.out (fun hHeld=>?_)
 refine wpAnyH_take (i:=0) (v:=?_) rfl (by kernel_rfl) (by kernel_rfl) (by kernel_rfl) (fun _ _ _ h=>h) (Or.inl ⟨by rfl,?_⟩) (by assumption) ?_
 rotate_left
 ·(intro w hSw;(try dsimp only at hSw);go_simp;try with_reducible rfl)
 try simp only[Act.put,List.setIfInBounds_toArray,List.set_cons_zero,List.set_cons_succ]
 refine wpAnyH_take (i:=1) (v:=?_) rfl (by kernel_rfl) (by kernel_rfl) (by kernel_rfl) (fun _ _ _ h=>h) (Or.inl ⟨by rfl,?_⟩) (by assumption) ?_
 rotate_left
 ·(intro w hSw;(try dsimp only at hSw);go_simp;try with_reducible rfl)
 try simp only[Act.put]
 refine wpAnyH_take (i:=2) (v:=?_) rfl (by kernel_rfl) (by kernel_rfl) (by kernel_rfl) (fun _ _ _ h=>h) (Or.inl ⟨by rfl,?_⟩) (by assumption) ?_
 rotate_left
 ·(intro w hSw;(try dsimp only at hSw);go_simp;try with_reducible rfl)
 try simp only[Act.put]
 refine wpAnyH_take (i:=3) (v:=?_) rfl (by kernel_rfl) (by kernel_rfl) (by kernel_rfl) (fun _ _ _ h=>h) (Or.inl ⟨by rfl,?_⟩) (by assumption) ?_
 rotate_left
 ·(intro w hSw;(try dsimp only at hSw);go_simp;try with_reducible rfl)
 try simp only[Act.put]
 refine wpAnyH_take (i:=4) (v:=?_) rfl (by kernel_rfl) (by kernel_rfl) (by kernel_rfl) (fun _ _ _ h=>h) (Or.inl ⟨by rfl,?_⟩) (by assumption) ?_
 rotate_left
 ·(intro w hSw;(try dsimp only at hSw);go_simp;try with_reducible rfl)
 try simp only[Act.put]
 refine wpAnyH_take (i:=5) (v:=?_) rfl (by kernel_rfl) (by kernel_rfl) (by kernel_rfl) (fun _ _ _ h=>h) (Or.inl ⟨by rfl,?_⟩) (by assumption) ?_
 rotate_left
 ·(intro w hSw;(try dsimp only at hSw);go_simp;try with_reducible rfl)
 try simp only[Act.put]
 refine wpAnyH_take (i:=6) (v:=?_) rfl (by kernel_rfl) (by kernel_rfl) (by kernel_rfl) (fun _ _ _ h=>h) (Or.inl ⟨by rfl,?_⟩) (by assumption) ?_
 rotate_left
 ·(intro w hSw;(try dsimp only at hSw);go_simp;try with_reducible rfl)
 try simp only[Act.put]
 refine wpAnyH_take (i:=7) (v:=?_) rfl (by kernel_rfl) (by kernel_rfl) (by kernel_rfl) (fun _ _ _ h=>h) (Or.inl ⟨by rfl,?_⟩) (by assumption) ?_
 rotate_left
 ·(intro w hSw;(try dsimp only at hSw);go_simp;try with_reducible rfl)
 try simp only[Act.put]
 refine wpAnyH_take (i:=8) (v:=?_) rfl (by kernel_rfl) (by kernel_rfl) (by kernel_rfl) (fun _ _ _ h=>h) (Or.inl ⟨by rfl,?_⟩) (by assumption) ?_
 rotate_left
 ·(intro w hSw;(try dsimp only at hSw);go_simp;try with_reducible rfl)
 try simp only[Act.put]
 refine wpAnyH_take (i:=9) (v:=?_) rfl (by kernel_rfl) (by kernel_rfl) (by kernel_rfl) (fun _ _ _ h=>h) (Or.inl ⟨by rfl,?_⟩) (by assumption) ?_
 rotate_left
 ·(intro w hSw;(try dsimp only at hSw);go_simp;try with_reducible rfl)
 try simp only[Act.put]
 refine wpAnyH_take (i:=11) (v:=?_) rfl (by kernel_rfl) (by kernel_rfl) (by kernel_rfl) (fun _ _ _ h=>h) (Or.inl ⟨by rfl,?_⟩) (by assumption) ?_
 rotate_left
 ·(intro w hSw;(try dsimp only at hSw);go_simp;try with_reducible rfl)
 try simp only[Act.put]
 refine wpAnyH_take (i:=12) (v:=?_) rfl (by kernel_rfl) (by kernel_rfl) (by kernel_rfl) (fun _ _ _ h=>h) (Or.inl ⟨by rfl,?_⟩) (by assumption) ?_
 rotate_left
 ·(intro w hSw;(try dsimp only at hSw);go_simp;try with_reducible rfl)
 try simp only[Act.put]
 refine wpAnyH_take (i:=13) (v:=?_) rfl (by kernel_rfl) (by kernel_rfl) (by kernel_rfl) (fun _ _ _ h=>h) (Or.inl ⟨by rfl,?_⟩) (by assumption) ?_
 rotate_left
 ·(intro w hSw;(try dsimp only at hSw);go_simp;try with_reducible rfl)
 try simp only[Act.put]
 refine wpAnyH_take (i:=14) (v:=?_) rfl (by kernel_rfl) (by kernel_rfl) (by kernel_rfl) (fun _ _ _ h=>h) (Or.inl ⟨by rfl,?_⟩) (by assumption) ?_
 rotate_left
 ·(intro w hSw;(try dsimp only at hSw);go_simp;try with_reducible rfl)
 try simp only[Act.put]
 refine wpAnyH_take (i:=15) (v:=?_) rfl (by kernel_rfl) (by kernel_rfl) (by kernel_rfl) (fun _ _ _ h=>h) (Or.inl ⟨by rfl,?_⟩) (by assumption) ?_
 rotate_left
 ·(intro w hSw;(try dsimp only at hSw);go_simp;try with_reducible rfl)
 try simp only[Act.put]
 refine wpAnyH_take (i:=16) (v:=?_) rfl (by kernel_rfl) (by kernel_rfl) (by kernel_rfl) (fun _ _ _ h=>h) (Or.inl ⟨by rfl,?_⟩) (by assumption) ?_
 rotate_left
 ·(intro w hSw;(try dsimp only at hSw);go_simp;try with_reducible rfl)
 try simp only[Act.put]
 refine wpAnyH_take (i:=17) (v:=?_) rfl (by kernel_rfl) (by kernel_rfl) (by kernel_rfl) (fun _ _ _ h=>h) (Or.inl ⟨by rfl,?_⟩) (by assumption) ?_
 rotate_left
 ·(intro w hSw;(try dsimp only at hSw);go_simp;try with_reducible rfl)
 try simp only[Act.put]
 refine wpAnyH_take (i:=18) (v:=?_) rfl (by kernel_rfl) (by kernel_rfl) (by kernel_rfl) (fun _ _ _ h=>h) (Or.inl ⟨by rfl,?_⟩) (by assumption) ?_
 rotate_left
 ·(intro w hSw;(try dsimp only at hSw);go_simp;try with_reducible rfl)
 try simp only[Act.put]
 refine wpAnyH_ready (rs:=[10,19]) (by kernel_rfl) (by simp) (AllReadyH.cons rfl (fun K hK=>?_) (AllReadyH.cons rfl (fun K hK=>?_) AllReadyH.nil))
 ·go_simp
  refine hK.out _ _ HS0.out (fun hHeld=>?_)
  clear hK K
  refine wpAnyH_ready (rs:=[19]) (by kernel_rfl) (by simp) (AllReadyH.cons rfl (fun K hK=>?_) AllReadyH.nil)
  go_simp
  refine hK.out _ _ (HSa.out _) (fun hHeld=>?_)
  clear hK K
  refine wpAnyH_ready (rs:=[20]) (by kernel_rfl) (by simp) (AllReadyH.cons rfl (fun K hK=>?_) AllReadyH.nil)
  (refine step_append_lies _ (by rfl) _ _ 39 (by rfl) 0 48 i0 _ 4 32 Tryz.underlying39 hi0 hz0 hz1 hz2 rfl (by omega) k u.cd.length (icl u.cd) (by rfl) (hkr.alloc _) ⟨w1.drew.heap.size,0,none⟩ 1 1 [.int .i64 op,.int .i64 (opn3 l 0),.int .i64 (opn3 l 1),.int .i64 (opn3 l 2)] (by rfl) rfl (World.news_of_block (cs:=#[.int .i64 op,.int .i64 (opn3 l 0),.int .i64 (opn3 l 1),.int .i64 (opn3 l 2)]) (t:=48) (fr:=(0,0)) (Bx.new w1.drew 48 #[.int .i64 op,.int .i64 (opn3 l 0),.int .i64 (opn3 l 1),.int .i64 (opn3 l 2)]).blk) (by simp[Value.oneCell']) (by omega) (by unfold maxLen;omega) (by omega) (by omega) _ rfl ?_;intro gg cc w3 hown3 hg3 hat3 hlt3;obtain ⟨hS3,fc4,fz4,hS4⟩:=HM.out _ w3 hg3)
  refine hK.out _ _ hS3 (fun hHeld=>?_)
  clear hK K
  refine wpAnyH_take (i:=21) (v:=?_) rfl (by kernel_rfl) (by kernel_rfl) (by kernel_rfl) (fun _ _ _ h=>h) (Or.inl ⟨by rfl,?_⟩) (by assumption) ?_
  rotate_left
  ·(intro w hSw;(try dsimp only at hSw);go_simp;try with_reducible rfl)
  try simp only[Act.put]
  refine wpAnyH_take (i:=22) (v:=?_) rfl (by kernel_rfl) (by kernel_rfl) (by kernel_rfl) (fun _ _ _ h=>h) (Or.inl ⟨by rfl,?_⟩) (by assumption) ?_
  rotate_left
  ·(intro w hSw;(try dsimp only at hSw);go_simp;try with_reducible rfl)
  try simp only[Act.put]
  refine wpAnyH_ready (rs:=[23]) (by kernel_rfl) (by simp) (AllReadyH.cons rfl (fun K hK=>?_) AllReadyH.nil)
  go_simp
  refine hK.out _ _ (hS4 _) (fun hHeld=>?_)
  clear hK K
  refine wpAnyH_done (by kernel_rfl) ?_ _
  have hA:=HK.out.appK2 (w1:=w1.drew.alloc (.cells #[.int .i64 op,.int .i64 (opn3 l 0),.int .i64 (opn3 l 1),.int .i64 (opn3 l 2)] 48)) (i:=(op,opn3 l 0,opn3 l 1,opn3 l 2)) HQ.out.1 HQ.out.2.1 HQ.out.2.2.1 (HQ.out.2.2.2.drew.alloc HQ.out.2.2.2.size _) hown3 hg3 hat3
  have e5:s.put (u.cd++[(op,opn3 l 0,opn3 l 1,opn3 l 2)])=gad op (opn3 l 0) (opn3 l 1) (opn3 l 2) s:=by unfold gad;rw[Gs.code_eq HQ.out.1]
  rw[e5] at hA
  obtain ⟨⟨x',hx',hsm⟩,hk'⟩:=hA
  have C:=next_any hx'
  have hn1:(gad op (opn3 l 0) (opn3 l 1) (opn3 l 2) s).nx=(u.cd.length:Int)+1:=by unfold Gs.nx gad;rw[Gs.code_put HQ.out.1,Gs.code_eq HQ.out.1];simp
  have HN:Hid (s.nx=(u.cd.length:Int)):=by show _=_;unfold Gs.nx;rw[Gs.code_eq HQ.out.1]
  rw[hn1] at C
  have wn:IntKind.i64.wrap ((u.cd.length:Int)+1 - 1)=(u.cd.length:Int):=by rw[IntKind.wrap_i64];omega
  have HZ:Hid ((∃y,GK No b t y (gad op (opn3 l 0) (opn3 l 1) (opn3 l 2) s) (w3.setCell ⟨x.U,s.cu * 5+4,none⟩ (.slice (some ⟨gg,0,none⟩) (u.cd.length+1) cc))∧Sam x y)∧Kn No W (w3.setCell ⟨x.U,s.cu * 5+4,none⟩ (.slice (some ⟨gg,0,none⟩) (u.cd.length+1) cc))):=⟨⟨x',hx',hsm⟩,hk'⟩
  clear hx' hk' hsm e5 hn1 hown3 hg3 hat3 hlt3 fc4 fz4 hS3 hS4 HM HS0 HSa d4 d4A d4B hkr
  go_wp2_with fail
  refine C.mono ?_
  rintro e w5 ⟨rfl,rfl⟩
  go_wp2
  go_ret
  exact ⟨congrArg (fun z=>Ending.returned (.int .i64 z)) HN.out.symm,HZ.out⟩
 ·go_simp
  refine hK.out _ _ (HSa.out _) (fun hHeld=>?_)
  clear hK K
  refine wpAnyH_ready (rs:=[10]) (by kernel_rfl) (by simp) (AllReadyH.cons rfl (fun K hK=>?_) AllReadyH.nil)
  go_simp
  refine hK.out _ _ (HSa.out _) (fun hHeld=>?_)
  clear hK K
  refine wpAnyH_ready (rs:=[20]) (by kernel_rfl) (by simp) (AllReadyH.cons rfl (fun K hK=>?_) AllReadyH.nil)
  (refine step_append_lies _ (by rfl) _ _ 39 (by rfl) 0 48 i0 _ 4 32 Tryz.underlying39 hi0 hz0 hz1 hz2 rfl (by omega) k u.cd.length (icl u.cd) (by rfl) (hkr.alloc _) ⟨w1.drew.heap.size,0,none⟩ 1 1 [.int .i64 op,.int .i64 (opn3 l 0),.int .i64 (opn3 l 1),.int .i64 (opn3 l 2)] (by rfl) rfl (World.news_of_block (cs:=#[.int .i64 op,.int .i64 (opn3 l 0),.int .i64 (opn3 l 1),.int .i64 (opn3 l 2)]) (t:=48) (fr:=(0,0)) (Bx.new w1.drew 48 #[.int .i64 op,.int .i64 (opn3 l 0),.int .i64 (opn3 l 1),.int .i64 (opn3 l 2)]).blk) (by simp[Value.oneCell']) (by omega) (by unfold maxLen;omega) (by omega) (by omega) _ rfl ?_;intro gg cc w3 hown3 hg3 hat3 hlt3;obtain ⟨hS3,fc4,fz4,hS4⟩:=HM.out _ w3 hg3)
  refine hK.out _ _ hS3 (fun hHeld=>?_)
  clear hK K
  refine wpAnyH_take (i:=21) (v:=?_) rfl (by kernel_rfl) (by kernel_rfl) (by kernel_rfl) (fun _ _ _ h=>h) (Or.inl ⟨by rfl,?_⟩) (by assumption) ?_
  rotate_left
  ·(intro w hSw;(try dsimp only at hSw);go_simp;try with_reducible rfl)
  try simp only[Act.put]
  refine wpAnyH_take (i:=22) (v:=?_) rfl (by kernel_rfl) (by kernel_rfl) (by kernel_rfl) (fun _ _ _ h=>h) (Or.inl ⟨by rfl,?_⟩) (by assumption) ?_
  rotate_left
  ·(intro w hSw;(try dsimp only at hSw);go_simp;try with_reducible rfl)
  try simp only[Act.put]
  refine wpAnyH_ready (rs:=[23]) (by kernel_rfl) (by simp) (AllReadyH.cons rfl (fun K hK=>?_) AllReadyH.nil)
  go_simp
  refine hK.out _ _ (hS4 _) (fun hHeld=>?_)
  clear hK K
  refine wpAnyH_done (by kernel_rfl) ?_ _
  have hA:=HK.out.appK2 (w1:=w1.drew.alloc (.cells #[.int .i64 op,.int .i64 (opn3 l 0),.int .i64 (opn3 l 1),.int .i64 (opn3 l 2)] 48)) (i:=(op,opn3 l 0,opn3 l 1,opn3 l 2)) HQ.out.1 HQ.out.2.1 HQ.out.2.2.1 (HQ.out.2.2.2.drew.alloc HQ.out.2.2.2.size _) hown3 hg3 hat3
  have e5:s.put (u.cd++[(op,opn3 l 0,opn3 l 1,opn3 l 2)])=gad op (opn3 l 0) (opn3 l 1) (opn3 l 2) s:=by unfold gad;rw[Gs.code_eq HQ.out.1]
  rw[e5] at hA
  obtain ⟨⟨x',hx',hsm⟩,hk'⟩:=hA
  have C:=next_any hx'
  have hn1:(gad op (opn3 l 0) (opn3 l 1) (opn3 l 2) s).nx=(u.cd.length:Int)+1:=by unfold Gs.nx gad;rw[Gs.code_put HQ.out.1,Gs.code_eq HQ.out.1];simp
  have HN:Hid (s.nx=(u.cd.length:Int)):=by show _=_;unfold Gs.nx;rw[Gs.code_eq HQ.out.1]
  rw[hn1] at C
  have wn:IntKind.i64.wrap ((u.cd.length:Int)+1 - 1)=(u.cd.length:Int):=by rw[IntKind.wrap_i64];omega
  have HZ:Hid ((∃y,GK No b t y (gad op (opn3 l 0) (opn3 l 1) (opn3 l 2) s) (w3.setCell ⟨x.U,s.cu * 5+4,none⟩ (.slice (some ⟨gg,0,none⟩) (u.cd.length+1) cc))∧Sam x y)∧Kn No W (w3.setCell ⟨x.U,s.cu * 5+4,none⟩ (.slice (some ⟨gg,0,none⟩) (u.cd.length+1) cc))):=⟨⟨x',hx',hsm⟩,hk'⟩
  clear hx' hk' hsm e5 hn1 hown3 hg3 hat3 hlt3 fc4 fz4 hS3 hS4 HM HS0 HSa d4 d4A d4B hkr
  go_wp2_with fail
  refine C.mono ?_
  rintro e w5 ⟨rfl,rfl⟩
  go_wp2
  go_ret
  exact ⟨congrArg (fun z=>Ending.returned (.int .i64 z)) HN.out.symm,HZ.out⟩
theorem addG_any (No:Nat→Prop) (b:Nat) (t:Tx) (s:Gs) (W:World) (op:Int) (v:Value) (l:List Int) (h:Gk No b t s W) (hv:Opd W v l) (h3:l.length≤3) (hL:s.code.length≤100000000):
 Calls Tryz.prog 33 #[.pointer (some ⟨b,0,none⟩),.int .i64 op,v] W fun e w'=>e= .returned (.int .i64 s.nx)∧Gk No b t (gad op (opn3 l 0) (opn3 l 1) (opn3 l 2) s) w'∧Kn No W w':=by
 obtain ⟨x,h⟩:=h
 exact (addG2_any No b t x s W op v l h hv h3 hL).mono fun e w' q=>⟨q.1,by obtain ⟨y,q,_⟩:=q.2.1;exact ⟨y,q⟩,q.2.2⟩
end Go.Proofs.YtkjbgggghigapaaGreat


namespace Go.Proofs.YtkjbgggghigapaaGreat
open Go.RowKit
theorem fst_at (t:Vl):∀(l:List Vl) (j i:Nat),(l.take i).contains t=false→l[i]?=some t→fst t j l=(j:Int)+(i:Int)+1
 | [],j,i,_,h=>by simp at h
 | x::l,j,0,_,h=>by simp at h;subst h;simp[fst]
 | x::l,j,i+1,h,k=>by
   simp only[List.take_succ_cons,List.contains_cons,Bool.or_eq_false_iff,beq_eq_false_iff_ne] at h
   have:=fst_at t l (j+1) i h.2 (by simpa using k)
   unfold fst
   rw[if_neg (fun e=>h.1 e.symm),this]
   omega
theorem fst_none (t:Vl):∀(l:List Vl) (j:Nat),l.contains t=false→fst t j l=0
 | [],j,_=>rfl
 | x::l,j,h=>by
   simp only[List.contains_cons,Bool.or_eq_false_iff,beq_eq_false_iff_ne] at h
   unfold fst
   rw[if_neg (fun e=>h.1 e.symm)]
   exact fst_none t l (j+1) h.2
set_option maxRecDepth 20000 in
set_option maxHeartbeats 2000000 in
theorem indexW_any (l:List Vl) (t:Vl) (v:Value) (w:World) (h:w.ownsRow 0 79 3 v l.length (vcl l)) (hl:l.length≤2000000):
 Calls Tryz.prog 78 #[v,.agg #[.int .i64 t.1,.int .i64 t.2.1,.string ⟨t.2.2.toArray⟩]] w fun e w'=>e= .returned (.int .i64 (fst t 0 l - 1))∧Below w.heap.size w w':=by
 obtain ⟨a,c,rfl⟩:=slice_shape h
 have HC:Hid (∀i u,l[i]?=some u→∃g,a=some ⟨g,0,none⟩∧g<w.heap.size∧w.cell? ⟨g,i * 3,none⟩=some (.int .i64 u.1)∧w.cell? ⟨g,i * 3+1,none⟩=some (.int .i64 u.2.1)∧w.cell? ⟨g,i * 3+2,none⟩=some (.string ⟨u.2.2.toArray⟩)):=fun i u hu=>by
  obtain ⟨h1,h2,h3⟩:=vcl_at l i u hu
  obtain ⟨g,q1,q2⟩:=own_at h _ _ h1
  obtain ⟨g2,q3,q4⟩:=own_at h _ _ h2
  obtain ⟨g3,q5,q6⟩:=own_at h _ _ h3
  have e2:g2=g:=by rw[q3] at q1;simpa using q1
  have e3:g3=g:=by rw[q5] at q1;simpa using q1
  rw[e2] at q4
  rw[e3] at q6
  have hg:=(h.lt g q1).2
  rcases h.2 with ⟨e,_⟩ | ⟨g',cap,cur,e,_⟩
  ·rw[e] at q1;simp[Value.ownBlock] at q1
  ·rw[e] at q1
   injection e with e1 e2 e3
   have e4:g'=g:=by simpa [Value.ownBlock] using q1
   exact ⟨g,by rw[e1,e4],hg,q2,q4,q6⟩
 clear h
 obtain ⟨tk,tn,ts⟩:=t
 have HB:=(Below.refl w.heap.size w).alloc (Nat.le_refl _) (.cells #[.int .i64 tk,.int .i64 tn,.string ⟨ts.toArray⟩] 79)
 have X0:=Bx.new w 79 #[.int .i64 tk,.int .i64 tn,.string ⟨ts.toArray⟩]
 obtain ⟨W1,hW⟩:∃W1,w.alloc (.cells #[.int .i64 tk,.int .i64 tn,.string ⟨ts.toArray⟩] 79)=W1:=⟨_,rfl⟩
 rw[hW] at HB X0
 have HC:Hid (∀wx,Below W1.heap.size W1 wx→(Bx w.heap.size 79 #[.int .i64 tk,.int .i64 tn,.string ⟨ts.toArray⟩] wx∧Below w.heap.size w wx)∧∀i u,l[i]?=some u→∃g,a=some ⟨g,0,none⟩∧wx.cell? ⟨g,i * 3,none⟩=some (.int .i64 u.1)∧wx.cell? ⟨g,i * 3+1,none⟩=some (.int .i64 u.2.1)∧wx.cell? ⟨g,i * 3+2,none⟩=some (.string ⟨u.2.2.toArray⟩)):=fun wx hx=>by
  refine ⟨⟨X0.below hx,bthen HB HB.size hx⟩,fun i u hu=>?_⟩
  obtain ⟨g,q0,q1,q2,q3,q4⟩:=HC.out i u hu
  have q5:g<W1.heap.size:=Nat.lt_of_lt_of_le q1 HB.size
  exact ⟨g,q0,(hx.cell (by exact q5)).trans ((HB.cell (by exact q1)).trans q2),(hx.cell (by exact q5)).trans ((HB.cell (by exact q1)).trans q3),(hx.cell (by exact q5)).trans ((HB.cell (by exact q1)).trans q4)⟩
 clear X0 HB
 simp only
 go_enter Tryz.func78,Tryz.ntmps78
 go_wp2_with fail
 go_loopw [4,5,8] (fun _ _ iv wx=>∃i:Nat,iv= .int .i64 (i:Nat)∧i≤l.length∧Hid ((l.take i).contains (tk,tn,ts)=false∧Below W1.heap.size W1 wx)) (fun _ _ iv _=>l.length - (intOf iv).toNat)
 case atStart=>exact ⟨0,rfl,Nat.zero_le _,by simp,Below.refl _ _⟩
 case round=>
  obtain ⟨i,rfl,hi,HR⟩:=hrel
  obtain ⟨⟨X1,_⟩,HC1⟩:=HC.out wr HR.out.2
  have x0:=X1.c 0 _ rfl
  have x1:=X1.c 1 _ rfl
  have x2:=X1.c 2 _ rfl
  clear X1
  by_cases hlt:i<l.length
  ·obtain ⟨u,hu⟩:∃u,l[i]?=some u:=⟨_,List.getElem?_eq_getElem hlt⟩
   obtain ⟨g,rfl,q0,q1,q2⟩:=HC1 i u hu
   obtain ⟨uk,un,us⟩:=u
   have E:=eql54 tk tn uk un ts us
   clear HC1
   by_cases he:(tk,tn,ts)=(uk,un,us)
   ·have HE:Hid (fst (tk,tn,ts) 0 l - 1=(i:Int)∧Below w.heap.size w wr):=by
     rw[←he] at hu
     have:=fst_at (tk,tn,ts) l 0 i HR.out.1 hu
     exact ⟨by rw[this];omega,(HC.out wr HR.out.2).1.2⟩
    rw[decide_eq_true he] at E
    clear hu HC he
    go_wp2_with fail
    go_region
    all_goals
     go_wp2
     go_ret
     exact ⟨congrArg (fun z=>Ending.returned (.int .i64 z)) HE.out.1.symm,HE.out.2.drew⟩
   ·have HN:Hid ((l.take (i+1)).contains (tk,tn,ts)=false∧Below W1.heap.size W1 wr):=by
     rw[List.take_add_one,hu]
     have:=HR.out.1
     refine ⟨?_,HR.out.2⟩
     simp only[Option.toList_some,List.contains_eq_mem,List.mem_append,List.mem_singleton,decide_eq_false_iff_not,not_or] at this⊢
     exact ⟨this,he⟩
    rw[decide_eq_false he] at E
    clear hu HR HC he
    go_wp2_with fail
    go_region
    all_goals
     go_wp2
     refine ⟨⟨i+1,by go_num,by omega,HN.out.1,HN.out.2.drew⟩,?_⟩
     simp[intOf];omega
  ·obtain rfl:i=l.length:=by omega
   have HE:Hid (fst (tk,tn,ts) 0 l - 1=-1∧Below w.heap.size w wr):=by have:=HR.out.1;exact ⟨by rw[fst_none (tk,tn,ts) l 0 (by simpa using this)];rfl,(HC.out wr HR.out.2).1.2⟩
   clear HR HC HC1
   go_wp2
   go_ret
   exact ⟨congrArg (fun z=>Ending.returned (.int .i64 z)) HE.out.1.symm,HE.out.2⟩
theorem fst_rng (t:Vl):∀(l:List Vl) (j:Nat),0≤fst t j l∧fst t j l≤(j:Int)+(l.length:Int)
 | [],j=>by simp[fst]
 | x::l,j=>by
   have:=fst_rng t l (j+1)
   unfold fst
   simp only[List.length_cons]
   split<;>omega
theorem opd1 (w:World) (a:Int):Opd (w.alloc (.cells #[.int .i64 a] 3)) (.slice (some ⟨w.heap.size,0,none⟩) 1 1) [a]:=
 ⟨_,_,rfl,fun _=>⟨_,_,rfl,by simp,fun j i h=>by
   match j,h with
   | 0,h=>simp at h;subst h;exact (Bx.new w 3 #[.int .i64 a]).c 0 _ rfl
   | j+1,h=>simp at h⟩⟩
theorem opd2 (w:World) (a c:Int):Opd (w.alloc (.cells #[.int .i64 a,.int .i64 c] 3)) (.slice (some ⟨w.heap.size,0,none⟩) 2 2) [a,c]:=
 ⟨_,_,rfl,fun _=>⟨_,_,rfl,by simp,fun j i h=>by
   match j,h with
   | 0,h=>simp at h;subst h;exact (Bx.new w 3 #[.int .i64 a,.int .i64 c]).c 0 _ rfl
   | 1,h=>simp at h;subst h;exact (Bx.new w 3 #[.int .i64 a,.int .i64 c]).c 1 _ rfl
   | j+2,h=>simp at h⟩⟩
theorem opd3 (w:World) (a c d:Int):Opd (w.alloc (.cells #[.int .i64 a,.int .i64 c,.int .i64 d] 3)) (.slice (some ⟨w.heap.size,0,none⟩) 3 3) [a,c,d]:=
 ⟨_,_,rfl,fun _=>⟨_,_,rfl,by simp,fun j i h=>by
   match j,h with
   | 0,h=>simp at h;subst h;exact (Bx.new w 3 #[.int .i64 a,.int .i64 c,.int .i64 d]).c 0 _ rfl
   | 1,h=>simp at h;subst h;exact (Bx.new w 3 #[.int .i64 a,.int .i64 c,.int .i64 d]).c 1 _ rfl
   | 2,h=>simp at h;subst h;exact (Bx.new w 3 #[.int .i64 a,.int .i64 c,.int .i64 d]).c 2 _ rfl
   | j+3,h=>simp at h⟩⟩
theorem Gk.add0 {No:Nat→Prop} {b:Nat} {t:Tx} {s:Gs} {W:World} (op:Int) (h:Gk No b t s W) (hL:s.code.length≤100000000):
 Calls Tryz.prog 33 #[.pointer (some ⟨b,0,none⟩),.int .i64 op,.slice none 0 0] W fun e w'=>e= .returned (.int .i64 s.nx)∧Gk No b t (gad op 0 0 0 s) w'∧Kn No W w':=addG_any No b t s W op _ [] h (g_opd_nil W) (by simp) hL
theorem Gk.alloc {No:Nat→Prop} {b:Nat} {t:Tx} {s:Gs} {W:World} (h:Gk No b t s W) (o:Obj):Gk No b t s (W.alloc o):=by obtain ⟨x,h⟩:=h;exact ⟨x,h.alloc o⟩
theorem Gk.below {No:Nat→Prop} {b:Nat} {t:Tx} {s:Gs} {W W':World} (h:Gk No b t s W) (k:Below W.heap.size W W'):Gk No b t s W':=by obtain ⟨x,h⟩:=h;exact ⟨x,h.below k⟩
theorem Gk.drew {No:Nat→Prop} {b:Nat} {t:Tx} {s:Gs} {W:World} (h:Gk No b t s W):Gk No b t s W.drew:=by obtain ⟨x,h⟩:=h;exact ⟨x,h.drew⟩
theorem Gk.add1 {No:Nat→Prop} {b:Nat} {t:Tx} {s:Gs} {W:World} (op a:Int) (h:Gk No b t s W) (hL:s.code.length≤100000000):
 Calls Tryz.prog 33 #[.pointer (some ⟨b,0,none⟩),.int .i64 op,.slice (some ⟨W.heap.size,0,none⟩) 1 1] (W.alloc (.cells #[.int .i64 a] 3)) fun e w'=>e= .returned (.int .i64 s.nx)∧Gk No b t (gad op a 0 0 s) w'∧Kn No W w':=
 (addG_any No b t s _ op _ [a] (h.alloc _) (opd1 W a) (by simp) hL).mono fun _ _ q=>⟨q.1,q.2.1,((Kn.refl No W).alloc _).trans q.2.2⟩
theorem Gk.add2 {No:Nat→Prop} {b:Nat} {t:Tx} {s:Gs} {W:World} (op a c:Int) (h:Gk No b t s W) (hL:s.code.length≤100000000):
 Calls Tryz.prog 33 #[.pointer (some ⟨b,0,none⟩),.int .i64 op,.slice (some ⟨W.heap.size,0,none⟩) 2 2] (W.alloc (.cells #[.int .i64 a,.int .i64 c] 3)) fun e w'=>e= .returned (.int .i64 s.nx)∧Gk No b t (gad op a c 0 s) w'∧Kn No W w':=
 (addG_any No b t s _ op _ [a,c] (h.alloc _) (opd2 W a c) (by simp) hL).mono fun _ _ q=>⟨q.1,q.2.1,((Kn.refl No W).alloc _).trans q.2.2⟩
theorem Gk.add3 {No:Nat→Prop} {b:Nat} {t:Tx} {s:Gs} {W:World} (op a c d:Int) (h:Gk No b t s W) (hL:s.code.length≤100000000):
 Calls Tryz.prog 33 #[.pointer (some ⟨b,0,none⟩),.int .i64 op,.slice (some ⟨W.heap.size,0,none⟩) 3 3] (W.alloc (.cells #[.int .i64 a,.int .i64 c,.int .i64 d] 3)) fun e w'=>e= .returned (.int .i64 s.nx)∧Gk No b t (gad op a c d s) w'∧Kn No W w':=
 (addG_any No b t s _ op _ [a,c,d] (h.alloc _) (opd3 W a c d) (by simp) hL).mono fun _ _ q=>⟨q.1,q.2.1,((Kn.refl No W).alloc _).trans q.2.2⟩
theorem Gs.cnst_eq {s:Gs} {u:Gu} (h:s.us[s.cu]?=some u):s.cnst=u.cs:=by unfold Gs.cnst;rw[h];rfl
set_option maxRecDepth 20000 in
set_option maxHeartbeats 8000000 in
theorem constantG_any (No:Nat→Prop) (b:Nat) (t:Tx) (s:Gs) (W:World) (v:Vl) (h:Gk No b t s W) (hL:s.code.length≤100000000) (hC:s.cnst.length≤2000000):
 Calls Tryz.prog 131 #[.pointer (some ⟨b,0,none⟩),.agg #[.int .i64 v.1,.int .i64 v.2.1,.string ⟨v.2.2.toArray⟩]] W (GP No b t W (cst v s)):=by
 obtain ⟨x,h⟩:=h
 have Y:=Bx.new W 79 #[.int .i64 v.1,.int .i64 v.2.1,.string ⟨v.2.2.toArray⟩]
 have h1:=h.alloc (.cells #[.int .i64 v.1,.int .i64 v.2.1,.string ⟨v.2.2.toArray⟩] 79)
 have HK:Hid (Kn No W (W.alloc (.cells #[.int .i64 v.1,.int .i64 v.2.1,.string ⟨v.2.2.toArray⟩] 79))):=(Kn.refl _ _).alloc _
 obtain ⟨X,hX⟩:∃X,W.heap.size=X:=⟨_,rfl⟩
 rw[hX] at Y
 obtain ⟨W1,hW⟩:∃W1,W.alloc (.cells #[.int .i64 v.1,.int .i64 v.2.1,.string ⟨v.2.2.toArray⟩] 79)=W1:=⟨_,rfl⟩
 rw[hW] at Y h1 HK
 obtain ⟨u,c,k,n,hu,hc,hk,hU,d3,d4,hcr,hkr⟩:=h1.here
 have c1:W1.cell? ⟨b,1,none⟩=some (.pointer (some ⟨x.U,s.cu * 5,none⟩)):=h1.mx.c 1 _ rfl
 have y0:=Y.c 0 _ rfl
 have y1:=Y.c 1 _ rfl
 have y2:=Y.c 2 _ rfl
 rw[Gs.cnst_eq hu] at hC
 have hr:=fst_rng v u.cs 0
 have C1:=indexW_any u.cs v c W1.drew hcr hC
 obtain ⟨z,hz⟩:∃z,fst v 0 u.cs=z:=⟨_,rfl⟩
 have HE:Hid (cst v s=gad 2 z 0 0 s):=by show _=_;unfold cst;rw[Gs.cnst_eq hu,hz]
 rw[hz] at C1 hr
 have wz:IntKind.i64.wrap z=z:=by rw[IntKind.wrap_i64];omega
 have wz1:IntKind.i64.wrap (z - 1+1)=z:=by rw[IntKind.wrap_i64];omega
 have HX:Hid (GK No b t x s W1):=h1
 have CA:∀V,Gk No b t s V→Calls Tryz.prog 33 #[.pointer (some ⟨b,0,none⟩),.int .i64 2,.slice (some ⟨V.heap.size,0,none⟩) 1 1] (V.alloc (.cells #[.int .i64 z] 3)) fun e w'=>e= .returned (.int .i64 s.nx)∧Gk No b t (gad 2 z 0 0 s) w'∧Kn No V w':=fun V hV=>hV.add1 2 z hL
 clear h h1 Y hu hc hk hU d4 hcr hkr hz
 go_enter Tryz.func131,Tryz.ntmps131
 go_wp2_with fail
 go_region_with (first | (go_at_call 78;refine C1.mono ?_;rintro e w2 ⟨rfl,k2⟩;have D2:Gk No b t s w2:=(by exact ⟨x,HX.out.drew.below k2⟩);have K2:Hid (Kn No W w2):=(by exact HK.out.drew.trans (.of_below k2))) | (go_at_call 33;refine (CA w2 D2).mono ?_;rintro e w4 ⟨rfl,D4,K4⟩;have H4:Hid (Gk No b t (gad 2 z 0 0 s) w4∧Kn No W w4):=(by exact ⟨D4,K2.out.trans K4⟩)))
 all_goals
  go_wp2
  go_end0
  rw[HE.out]
  exact ⟨rfl,H4.out⟩
end Go.Proofs.YtkjbgggghigapaaGreat


namespace Go.Proofs.YtkjbgggghigapaaGreat
open Go.RowKit
theorem F.wfG_get {L:Tx}:∀(f:F) (i:Nat) {k:Int} {t:Tx} {n p:Int} {ks:F},f.wfG L=true→f.get? i=some (k,t,n,p,ks)→(one k t n p ks).wfG L=true
 | .nil,i,_,_,_,_,_,_,h=>by simp[F.get?] at h
 | .cons k t n p ks r,0,_,_,_,_,_,ho,h=>by
   simp only[F.get?,Option.some.injEq,Prod.mk.injEq] at h
   obtain ⟨rfl,rfl,rfl,rfl,rfl⟩:=h
   exact (F.wfG_cons ho).1
 | .cons k t n p ks r,i+1,_,_,_,_,_,ho,h=>F.wfG_get r i (F.wfG_cons ho).2 h
theorem F.wfG_take {L:Tx}:∀(f:F) (i:Nat),f.wfG L=true→(f.take i).wfG L=true
 | .nil,i,_=>by cases i<;>rfl
 | .cons _ _ _ _ _ _,0,_=>rfl
 | .cons k t n p ks r,i+1,h=>by
   simp only[F.wfG,F.take,Bool.and_eq_true] at h⊢
   exact ⟨h.1,F.wfG_take r i h.2⟩
theorem F.wfG_drop {L:Tx}:∀(f:F) (i:Nat),f.wfG L=true→(f.drop i).wfG L=true
 | f,0,h=>by cases f<;>exact h
 | .nil,i+1,_=>rfl
 | .cons k t n p ks r,i+1,h=>F.wfG_drop r i (F.wfG_cons h).2
theorem F.td_z31:∀(f:F) (i:Nat),(f.take i).z31+(f.drop i).z31=f.z31
 | .nil,i=>by cases i<;>rfl
 | .cons k t n p ks r,0=>by simp[F.take,F.drop,F.z31]
 | .cons k t n p ks r,i+1=>by have:=F.td_z31 r i;simp only[F.take,F.drop,F.z31];omega
theorem F.get_z31:∀(f:F) (i:Nat) {k:Int} {t:Tx} {n p:Int} {ks:F},f.get? i=some (k,t,n,p,ks)→(one k t n p ks).z31≤(f.drop i).z31
 | .nil,i,_,_,_,_,_,h=>by simp[F.get?] at h
 | .cons k t n p ks r,0,_,_,_,_,_,h=>by
   simp only[F.get?,Option.some.injEq,Prod.mk.injEq] at h
   obtain ⟨rfl,rfl,rfl,rfl,rfl⟩:=h
   show _≤(F.cons k t n p ks r).z31
   rw[z31_cons];omega
 | .cons k t n p ks r,i+1,_,_,_,_,_,h=>F.get_z31 r i h
structure Gy (No:Nat→Prop) (b:Nat) (t:Tx) (s:Gs) (W:World) (X:Nat) (cur:Array Value) (w:World):Prop where
 gk:Gk (fun g=>No g∨g=X) b t s w
 kn:Kn No W w
 bx:Bx X 54 cur w
section
variable {No:Nat→Prop} {b:Nat} {t:Tx} {s s':Gs} {W w w':World} {X:Nat} {cur:Array Value}
theorem Gk.gy (h:Gk No b t s w) (cur:Array Value):Gy No b t s w w.heap.size cur (w.alloc (.cells cur 54)):=by
 obtain ⟨x,h⟩:=h
 exact ⟨⟨_,h.more (Nat.le_refl _) (by simp) ((Below.refl _ w).alloc (Nat.le_refl _) _)⟩,(Kn.refl _ _).alloc _,Bx.new _ _ _⟩
theorem Gy.to (h:Gy No b t s W X cur w) (hc:Gk (fun g=>No g∨g=X) b t s' w') (hk:Kn (fun g=>No g∨g=X) w w'):Gy No b t s' W X cur w':=
 ⟨hc,h.kn.trans (hk.mono fun _ _ e=>.inl e),h.bx.kn hk (.inr rfl)⟩
theorem Gy.step {e:Ending} (h:Gy No b t s W X cur w) (hc:GP (fun g=>No g∨g=X) b t w s' e w'):Gy No b t s' W X cur w':=h.to hc.2.1 hc.2.2
theorem Gy.below (h:Gy No b t s W X cur w) (k:Below w.heap.size w w'):Gy No b t s W X cur w':=⟨h.gk.below k,h.kn.trans (.of_below k),h.bx.below k⟩
theorem Gy.alloc (h:Gy No b t s W X cur w) (o:Obj):Gy No b t s W X cur (w.alloc o):=h.below ((Below.refl _ w).alloc (Nat.le_refl _) o)
theorem Gy.drew (h:Gy No b t s W X cur w):Gy No b t s W X cur w.drew:=⟨h.gk.drew,h.kn.drew,h.bx.drew⟩
theorem Gy.out (h:Gy No b t s W X cur w):GP No b t W s (.returned (.tuple #[])) w:=by
 obtain ⟨x,hx⟩:=h.gk
 exact ⟨rfl,⟨x,hx.less fun _ e=>.inl e⟩,h.kn⟩
theorem Gy.rv {a:Option Addr} {r:F} (h:Gy No b t s W X cur w) (hr:Rv W No a r):Rv w (fun g=>No g∨g=X) a r:=(hr.kn h.kn).mono fun _ e=>.inl e
end
theorem Gk.land1 {No:Nat→Prop} {b:Nat} {t:Tx} {s:Gs} {W:World} (j:Int) (h:Gk No b t s W) (h0:0≤j) (hj:j<(s.code.length:Int)) (hL:s.code.length≤100000000):
 Calls Tryz.prog 110 #[.pointer (some ⟨b,0,none⟩),.slice (some ⟨W.heap.size,0,none⟩) 1 1] (W.alloc (.cells #[.int .i64 j] 3)) (GP No b t W (lnd j s)):=by
 obtain ⟨x,h⟩:=h
 have h1:=h.more (X:=W.heap.size) (Nat.le_refl _) (by simp) (b1 W (.cells #[.int .i64 j] 3))
 refine (land_any _ b t _ s _ (some ⟨W.heap.size,0,none⟩) 1 [j] h1 (opd1 W j) (fun g o e=>?_) (fun i hi=>?_) (by simp) hL).mono fun e w' q=>⟨q.1,⟨_,q.2.1.less fun _ e=>.inl e⟩,((Kn.refl No W).alloc _).trans (q.2.2.1.mono fun _ _ e=>.inl e)⟩
 ·injection e with e
  injection e with e1 _
  subst e1
  simp
  omega
 ·simp at hi
  subst hi
  exact ⟨h0,hj⟩
end Go.Proofs.YtkjbgggghigapaaGreat
