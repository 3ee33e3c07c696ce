import Derived.Test.YtlgkfhipobdcfaaGreatDoorCg10
namespace Go.Proofs.YtlgkfhipobdcfaaGreatDoor
open Go.RowKit
def F.get? : F → Nat → Option (Int × List UInt8 × Int × Int × F)
  | .nil,_=>none
  | .cons k t n p ks _,0=>some (k,t,n,p,ks)
  | .cons _ _ _ _ _ r,i + 1=>r.get? i
def F.take : F → Nat → F
  | .nil,_=>.nil
  | .cons _ _ _ _ _ _,0=>.nil
  | .cons k t n p ks r,i + 1=>.cons k t n p ks (r.take i)
def F.drop : F → Nat → F
  | f,0=>f
  | .nil,_ + 1=>.nil
  | .cons _ _ _ _ _ r,i + 1=>r.drop i
theorem F.take_len : ∀ (f : F) (i : Nat), i ≤ f.len → (f.take i).len = i
  | .nil, i, h => by simp only [F.len] at h; obtain rfl : i = 0 := by omega
                     rfl
  | .cons _ _ _ _ _ _, 0, _ => rfl
  | .cons k t n p ks r, i + 1, h => by simp only [F.take, F.len] at h ⊢; rw [r.take_len i (by omega)]
theorem F.drop_len : ∀ (f : F) (i : Nat),(f.drop i).len = f.len - i
  | f,0=>by cases f <;> rfl
  | .nil,i + 1=>by simp [F.drop,F.len]
  | .cons k t n p ks r,i + 1=>by simp only [F.drop,F.len];rw [r.drop_len i];omega
theorem F.take_siz : ∀ (f : F) (i : Nat),(f.take i).siz ≤ f.siz
  | .nil,i=>by cases i <;> exact Nat.le_refl _
  | .cons _ _ _ _ _ _,0=>Nat.zero_le _
  | .cons k t n p ks r,i + 1=>by have:=r.take_siz i;simp only [F.take,F.siz];omega
theorem F.drop_siz : ∀ (f : F) (i : Nat),(f.drop i).siz ≤ f.siz
  | f,0=>by cases f <;> exact Nat.le_refl _
  | .nil,i + 1=>Nat.le_refl _
  | .cons k t n p ks r,i + 1=>by have:=r.drop_siz i;simp only [F.drop,F.siz];omega
theorem F.get_some : ∀ (f : F) (i : Nat),i < f.len → ∃ x,f.get? i = some x
  | .nil,i,h=>by simp [F.len] at h
  | .cons k t n p ks r,0,_=>⟨_,rfl⟩
  | .cons k t n p ks r,i + 1,h=>r.get_some i (by simp only [F.len] at h;omega)
theorem F.get_siz : ∀ (f : F) (i : Nat) (k : Int) (t : List UInt8) (n p : Int) (ks : F),f.get? i = some (k,t,n,p,ks) → ks.siz + 1 ≤ f.siz
  | .nil,i,_,_,_,_,_,h=>by simp [F.get?] at h
  | .cons k t n p ks r,0,_,_,_,_,_,h=>by simp only [F.get?,Option.some.injEq,Prod.mk.injEq] at h;obtain ⟨rfl,rfl,rfl,rfl,rfl⟩:=h;simp only [F.siz];omega
  | .cons k t n p ks r,i + 1,k',t',n',p',ks',h=>by have:=r.get_siz i k' t' n' p' ks' h;simp only [F.siz];omega
abbrev Tks:=List (List UInt8)
section
variable (ex blk st : Int → List UInt8 → Int → F → Tks) (fmt : Int → List UInt8) (quo : List UInt8 → List UInt8)
def lsT : Bool → F → Tks
  | _,.nil=>[]
  | b,.cons k t n _ ks r=>(if b then [[44]] else []) ++ (ex k t n ks ++ lsT true r)
def blkT : F → Tks
  | .nil=>[]
  | .cons k t n _ ks r=>st k t n ks ++ ([59] :: blkT r)
def ndT (f : Int → List UInt8 → Int → F → Tks) (r : F) (i : Nat) : Tks:=(r.get? i).elim [] fun x=>f x.1 x.2.1 x.2.2.1 x.2.2.2.2
def wiT (a : List UInt8) (r : F) (z : List UInt8) : Tks:=a :: (lsT ex false r ++ [z])
def exT (k : Int) (t : List UInt8) (n : Int) (ks : F) : Tks :=
  if k = 1 then [[110,105,108]] else if k = 2 then [[116,114,117,101]] else if k = 3 then [[102,97,108,115,101]]
  else if k = 4 then [fmt n] else if k = 5 then [quo t] else if k = 6 then [t]
  else if k = 7 then ndT ex ks 0 ++ wiT ex [91] (ks.drop 1) [93]
  else if k = 8 then ndT ex ks 0 ++ wiT ex [40] (ks.drop 1) [41]
  else if k = 9 then wiT ex [40] ks [41]
  else if k = 10 then t :: ndT ex ks 0
  else if k = 11 then ndT ex ks 0 ++ (t :: ndT ex ks 1)
  else if k = 12 then wiT ex [123] ks [125]
  else if k = 13 then ndT ex ks 0
  else if k = 14 then wiT ex [91] (ks.take 1) [93] ++ ([61] :: ndT ex ks 1)
  else []
def bodT (r : F) (i : Nat) : Tks:=[100,111] :: (ndT blk r i ++ [[101,110,100]])
def namT (n : Int) (ks : F) : Tks:=lsT ex false (ks.take n.toNat) ++ (if n < (ks.len : Int) then [61] :: lsT ex false (ks.drop n.toNat) else [])
def choT : List UInt8 → F → Tks
  | _,.nil=>[[101,110,100]]
  | _,.cons k t n _ ks .nil=>[101,108,115,101] :: (blk k t n ks ++ [[101,110,100]])
  | w,.cons k t n _ ks (.cons k2 t2 n2 _ ks2 r)=>w :: (ex k t n ks ++ ([116,104,101,110] :: (blk k2 t2 n2 ks2 ++ choT [101,108,115,101,105,102] r)))
def stT (k : Int) (t : List UInt8) (n : Int) (ks : F) : Tks :=
  if k = 21 then [108,111,99,97,108] :: namT ex n ks
  else if k = 22 then namT ex n ks
  else if k = 23 then lsT ex false ks
  else if k = 24 then choT ex blk [105,102] ks
  else if k = 25 then [119,104,105,108,101] :: (ndT ex ks 0 ++ bodT blk ks (ks.len - 1))
  else if k = 26 then [102,111,114] :: (ks.get? 0).elim [] (fun x=>x.2.1) :: [61] :: (lsT ex false ((ks.take (ks.len - 1)).drop 1) ++ bodT blk ks (ks.len - 1))
  else if k = 27 then [102,111,114] :: (lsT ex false (ks.take n.toNat) ++ ([105,110] :: (lsT ex false ((ks.take (ks.len - 1)).drop n.toNat) ++ bodT blk ks (ks.len - 1))))
  else if k = 28 then bodT blk ks (ks.len - 1)
  else if k = 29 then [[98,114,101,97,107]]
  else if k = 30 then [114,101,116,117,114,110] :: lsT ex false ks
  else if k = 31 then [102,117,110,99,116,105,111,110] :: t :: [40] :: (lsT ex false (ks.take n.toNat) ++ ([41] :: (ndT blk ks (ks.len - 1) ++ [[101,110,100]])))
  else []
end
def tkE (fmt : Int → List UInt8) (quo : List UInt8 → List UInt8) : Nat → Int → List UInt8 → Int → F → Tks
  | 0,_,_,_,_=>[]
  | N + 1,k,t,n,ks=>exT (tkE fmt quo N) fmt quo k t n ks
mutual
def tkS (fmt : Int → List UInt8) (quo : List UInt8 → List UInt8) : Nat → Int → List UInt8 → Int → F → Tks
  | 0,_,_,_,_=>[]
  | N + 1,k,t,n,ks=>stT (tkE fmt quo N) (tkB fmt quo N) k t n ks
def tkB (fmt : Int → List UInt8) (quo : List UInt8 → List UInt8) : Nat → Int → List UInt8 → Int → F → Tks
  | 0,_,_,_,_=>[]
  | N + 1,_,_,_,ks=>blkT (tkS fmt quo N) ks
end
def arW (k n : Int) (l : Nat) : Bool :=
  if k = 7 ∨ k = 8 ∨ k = 10 ∨ k = 13 ∨ k = 25 ∨ k = 28 then decide (1 ≤ l)
  else if k = 11 ∨ k = 14 ∨ k = 26 then decide (2 ≤ l)
  else if k = 21 ∨ k = 22 then decide (0 ≤ n ∧ n ≤ l)
  else if k = 27 ∨ k = 31 then decide (0 ≤ n ∧ n + 1 ≤ l)
  else if k = 4 then decide (0 ≤ n ∧ n < 100)
  else true
def F.wf : F → Bool
  | .nil=>true
  | .cons k t n _ ks r=>arW k n ks.len && decide (t.length ≤ 20000) && ks.wf && r.wf
structure Rv (w : World) (P : Nat → Prop) (a : Option Addr) (r : F) : Prop where
  ex : ∃ xs,KF 24 w P xs r ∧ (xs ≠ [] → ∃ g o,a = some ⟨g,o,none⟩ ∧ P g ∧ g < w.heap.size ∧ ∀ j u,xs[j]? = some u → w.cell? ⟨g,o + j,none⟩ = some u)
theorem TN.rv {w : World} {P : Nat → Prop} {k : Int} {t : List UInt8} {n p : Int} {a : Option Addr} {c : Nat} {ks : F} (h : TN 24 w P k t n p (.slice a ks.len c) ks) : Rv w P a ks:=by
  obtain ⟨hP,xs,own,hk⟩:=h.out
  refine ⟨xs,hk,fun hne=>?_⟩
  rcases own.2 with ⟨e1,e2⟩ | ⟨g,cap,cur,e1,_,h3,_,_,_,r4⟩
  · have:=own.1;rw [e2] at this;exact absurd (List.eq_nil_of_length_eq_zero (by omega)) hne
  · rw [e1] at hP
    injection e1 with e1 e2 e3
    refine ⟨g,0,e1,hP g rfl,(Array.getElem?_eq_some_iff.1 h3).1,fun j u hu=>?_⟩
    rw [cell_of_row w g _ cur 24 (0,0) h3,Nat.zero_add]
    rw [← r4,List.getElem?_take] at hu
    split at hu
    · simpa using hu
    · cases hu
theorem Rv.keep {w w' : World} {P : Nat → Prop} {a : Option Addr} {r : F} (h : Rv w P a r) (hs : w.heap.size ≤ w'.heap.size) (hb : ∀ g,P g → g < w.heap.size → w'.heap[g]? = w.heap[g]?) : Rv w' P a r:=by
  obtain ⟨xs,hk,hx⟩:=h.ex
  refine ⟨xs,hk.keep fun g hg hl=>hb g hg hl,fun hne=>?_⟩
  obtain ⟨g,o,e,hP,hg,hc⟩:=hx hne
  exact ⟨g,o,e,hP,Nat.lt_of_lt_of_le hg hs,fun j u hu=>(World.cell?_of_block (hb g hP hg)).trans (hc j u hu)⟩
theorem Rv.cons {w : World} {P : Nat → Prop} {a : Option Addr} {k : Int} {t : List UInt8} {n p : Int} {ks r : F} (h : Rv w P a (.cons k t n p ks r)) : ∃ g o a' c',a = some ⟨g,o,none⟩ ∧ g < w.heap.size ∧ w.cell? ⟨g,o,none⟩ = some (.int .i64 k) ∧ w.cell? ⟨g,o + 1,none⟩ = some (.string ⟨t.toArray⟩) ∧ w.cell? ⟨g,o + 2,none⟩ = some (.int .i64 n) ∧ w.cell? ⟨g,o + 3,none⟩ = some (.int .i64 p) ∧ w.cell? ⟨g,o + 4,none⟩ = some (.slice a' ks.len c') ∧
    Rv w P a' ks ∧ Rv w P (some ⟨g,o + 5,none⟩) r ∧ ks.len ≤ c' ∧ c' ≤ maxLen:=by
  obtain ⟨xs,hk,hx⟩:=h.ex
  cases hk with
  | @cons _ _ _ _ v xs' rest _ _ own hP hk hr =>
    obtain ⟨g,o,e,hPg,hg,hc⟩:=hx (by simp)
    have hs : ∃ a' c',v = .slice a' ks.len c' ∧ ks.len ≤ c' ∧ c' ≤ maxLen:=by
      rcases own.2 with ⟨rfl,e2⟩ | ⟨g',cap,cur,rfl,_,_,e4,e5,_⟩
      · exact ⟨none,0,by rw [e2],by omega,Nat.zero_le _⟩
      · exact ⟨_,_,rfl,e4,e5⟩
    obtain ⟨a',c',rfl,hcc⟩:=hs
    refine ⟨g,o,a',c',e,hg,hc 0 _ rfl,hc 1 _ rfl,hc 2 _ rfl,hc 3 _ rfl,hc 4 _ rfl,TN.rv (k:=k) (t:=t) (n:=n) (p:=p) ⟨.cons own hP hk .nil⟩,⟨rest,hr,fun _=>⟨g,o + 5,rfl,hPg,hg,fun j u hu=>?_⟩⟩,hcc⟩
    have:=hc (j + 5) u (by simpa using hu)
    rw [show o + 5 + j = o + (j + 5) by omega]
    exact this
theorem Rv.nth {w : World} {P : Nat → Prop} : ∀ (r : F) (i : Nat) {a : Option Addr} {k : Int} {t : List UInt8} {n p : Int} {ks : F},Rv w P a r → r.get? i = some (k,t,n,p,ks) → ∃ g o a' c',a = some ⟨g,o,none⟩ ∧ g < w.heap.size ∧ w.cell? ⟨g,o + i * 5,none⟩ = some (.int .i64 k) ∧ w.cell? ⟨g,o + i * 5 + 1,none⟩ = some (.string ⟨t.toArray⟩) ∧ w.cell? ⟨g,o + i * 5 + 2,none⟩ = some (.int .i64 n) ∧ w.cell? ⟨g,o + i * 5 + 3,none⟩ = some (.int .i64 p) ∧ w.cell? ⟨g,o + i * 5 + 4,none⟩ = some (.slice a' ks.len c') ∧ Rv w P a' ks ∧ ks.len ≤ c' ∧ c' ≤ maxLen
  | .nil,i,_,_,_,_,_,_,_,h=>by simp [F.get?] at h
  | .cons k t n p ks r,0,_,_,_,_,_,_,hr,h=>by
    simp only [F.get?,Option.some.injEq,Prod.mk.injEq] at h
    obtain ⟨rfl,rfl,rfl,rfl,rfl⟩:=h
    obtain ⟨g,o,a',c',e,hg,c0,c1,c2,c3,c4,h1,_,h3⟩:=hr.cons
    exact ⟨g,o,a',c',e,hg,by simpa using c0,by simpa using c1,by simpa using c2,by simpa using c3,by simpa using c4,h1,h3⟩
  | .cons k t n p ks r,i + 1,_,_,_,_,_,_,hr,h=>by
    obtain ⟨g,o,_,_,rfl,hg,_,_,_,_,_,_,h2,_⟩:=hr.cons
    obtain ⟨g',o',a',c',e,hg',c0,c1,c2,c3,c4,h1⟩:=Rv.nth r i h2 h
    injection e with e
    injection e with e1 e2
    subst e1 e2
    refine ⟨g,o,a',c',rfl,hg,?_,?_,?_,?_,?_,h1⟩
    · rw [show o + (i + 1) * 5 = o + 5 + i * 5 by omega];exact c0
    · rw [show o + (i + 1) * 5 = o + 5 + i * 5 by omega];exact c1
    · rw [show o + (i + 1) * 5 = o + 5 + i * 5 by omega];exact c2
    · rw [show o + (i + 1) * 5 = o + 5 + i * 5 by omega];exact c3
    · rw [show o + (i + 1) * 5 = o + 5 + i * 5 by omega];exact c4
theorem Rv.nil {w : World} {P : Nat → Prop} (a : Option Addr) : Rv w P a .nil:=⟨[],.nil,fun h=>absurd rfl h⟩
theorem Rv.drop {w : World} {P : Nat → Prop} : ∀ (r : F) (i : Nat) {g o : Nat},Rv w P (some ⟨g,o,none⟩) r → Rv w P (some ⟨g,o + i * 5,none⟩) (r.drop i)
  | r,0,_,_,h=>by simpa [F.drop] using (by cases r <;> exact h : Rv w P _ (r.drop 0))
  | .nil,i + 1,_,_,_=>Rv.nil _
  | .cons k t n p ks r,i + 1,g,o,h=>by
    obtain ⟨g',o',_,_,e,_,_,_,_,_,_,_,h2,_⟩:=h.cons
    injection e with e
    injection e with e1 e2
    subst e1 e2
    have:=Rv.drop r i h2
    rw [show o + (i + 1) * 5 = o + 5 + i * 5 by omega]
    exact this
theorem KF.take {w : World} {P : Nat → Prop} : ∀ (r : F) (i : Nat) {xs : List Value},KF 24 w P xs r → ∃ ys : List Value,KF 24 w P ys (r.take i) ∧ ∀ (j : Nat) (u : Value),ys[j]? = some u → xs[j]? = some u
  | .nil,i,_,h=>by
    cases h
    exact ⟨[],by cases i <;> exact .nil,fun j u hu=>by simp at hu⟩
  | .cons k t n p ks r,0,_,_=>⟨[],.nil,fun j u hu=>by simp at hu⟩
  | .cons k t n p ks r,i + 1,_,h=>by
    cases h with
    | @cons _ _ _ _ v xs' rest _ _ own hP hk hr =>
      obtain ⟨ys,h1,h2⟩:=KF.take r i hr
      refine ⟨_,.cons own hP hk h1,fun j u hu=>?_⟩
      match j,hu with
      | 0,hu=>exact hu
      | 1,hu=>exact hu
      | 2,hu=>exact hu
      | 3,hu=>exact hu
      | 4,hu=>exact hu
      | j + 5,hu=>simpa using h2 j u (by simpa using hu)
theorem Rv.take {w : World} {P : Nat → Prop} {a : Option Addr} {r : F} (h : Rv w P a r) (i : Nat) : Rv w P a (r.take i):=by
  obtain ⟨xs,hk,hx⟩:=h.ex
  obtain ⟨ys,h1,h2⟩:=KF.take r i hk
  refine ⟨ys,h1,fun hne=>?_⟩
  have hxn : xs ≠ []:=by
    rintro rfl
    cases ys with
    | nil=>exact hne rfl
    | cons y ys=>have:=h2 0 y rfl;simp at this
  obtain ⟨g,o,e,hP,hg,hc⟩:=hx hxn
  exact ⟨g,o,e,hP,hg,fun j u hu=>hc j u (h2 j u hu)⟩
end Go.Proofs.YtlgkfhipobdcfaaGreatDoor


namespace Go.Proofs.YtlgkfhipobdcfaaGreatDoor
open Go.RowKit
def strs (l : Tks) : List Value:=l.map fun t=>.string ⟨t.toArray⟩
structure Te (b : Nat) (P : Nat → Prop) (L : Tks) (w : World) : Prop where
  ex : ∃ v,Bx b 68 #[v] w ∧ w.ownsRow 0 9 1 v L.length (strs L) ∧ ∀ g,v.ownBlock = some g → P g
  lo : ∀ x,x ≤ b → ¬ P x
  hi : ∀ x,w.heap.size ≤ x → P x
theorem Te.lt {b : Nat} {P : Nat → Prop} {L : Tks} {w : World} (h : Te b P L w) : b < w.heap.size:=by
  obtain ⟨v,h1,_⟩:=h.ex
  exact h1.lt
theorem Te.alloc {b : Nat} {P : Nat → Prop} {L : Tks} {w : World} (h : Te b P L w) (o : Obj) : Te b P L (w.alloc o):=by
  obtain ⟨v,h1,h2,h3⟩:=h.ex
  exact ⟨⟨v,h1.alloc o,h2.alloc o,h3⟩,h.lo,fun x hx=>h.hi x (by simp at hx;omega)⟩
theorem Te.below {b : Nat} {P : Nat → Prop} {L : Tks} {w w' : World} (h : Te b P L w) (k : Below w.heap.size w w') : Te b P L w':=by
  obtain ⟨v,h1,h2,h3⟩:=h.ex
  exact ⟨⟨v,h1.below k,own_keep h2 fun g hg=>k.block g (h2.lt g hg).2,h3⟩,h.lo,fun x hx=>h.hi x (Nat.le_trans k.size hx)⟩
theorem Te.less {b X : Nat} {P : Nat → Prop} {L : Tks} {w : World} (h : Te b P L w) (o : Obj) (hX : w.heap.size = X) : Te b (fun g=>P g ∧ g ≠ X) L (w.alloc o):=by
  obtain ⟨v,h1,h2,h3⟩:=h.ex
  exact ⟨⟨v,h1.alloc o,h2.alloc o,fun g hg=>⟨h3 g hg,by have:=(h2.lt g hg).2;omega⟩⟩,fun x hx e=>h.lo x hx e.1,fun x hx=>⟨h.hi x (by simp at hx;omega),by simp at hx;omega⟩⟩
theorem Te.mono {b : Nat} {P Q : Nat → Prop} {L : Tks} {w : World} (h : Te b P L w) (hs : ∀ x,P x → Q x) (lo : ∀ x,x ≤ b → ¬ Q x) : Te b Q L w:=by
  obtain ⟨v,h1,h2,h3⟩:=h.ex
  exact ⟨⟨v,h1,h2,fun g hg=>hs g (h3 g hg)⟩,lo,fun x hx=>hs x (h.hi x hx)⟩
theorem info9 : (Tryz.prog.info? 9).map (fun i=>(i.zero,i.size,i.bytes)) = some (some (.string ⟨#[]⟩),1,16):=by kernel_rfl
set_option maxRecDepth 20000 in
set_option maxHeartbeats 4000000 in
theorem adds_any {b : Nat} {P : Nat → Prop} {L : Tks} {w : World} (h : Te b P L w) (g m : Nat) (ys : Tks) (hy : Bx g 9 (strs ys).toArray w) (hm : ys.length = m) (h1 : 1 ≤ m) (hL : L.length + m ≤ 1000000) :
    Calls Tryz.prog 53 #[.pointer (some ⟨b,0,none⟩),.slice (some ⟨g,0,none⟩) m m] w fun e w'=>e = .returned (.tuple #[]) ∧ Te b P (L ++ ys) w' ∧ Ky (fun k=>k = b ∨ P k) w w':=by
  obtain ⟨i0,hi0,hz0,hz1,hz2⟩:=info_parts info9
  obtain ⟨v,hB,hO,hP⟩:=h.ex
  obtain ⟨a,c,rfl⟩:=slice_shape hO
  have c0:=hB.c 0 _ rfl
  have f0:=hB.f 0
  have hlt:=hB.lt
  have hbo : ¬ some b = Value.ownBlock (.slice a L.length c):=fun e=>h.lo b (Nat.le_refl _) (hP b e.symm)
  have hlen : (strs ys).length = m * 1:=by simp [strs];omega
  have HH : Hid (Te b P L w):=h
  clear h
  go_enter Tryz.func53,Tryz.ntmps53
  go_wp2_with (at_builtin;refine wpList_append_lies _ rfl _ _ 66 rfl 0 9 i0 _ 1 16 Tryz.underlying66 hi0 hz0 hz1 hz2 rfl (by omega) (.slice a L.length c) L.length (strs L) rfl hO ⟨g,0,none⟩ m m (strs ys) rfl hlen (World.news_of_block (cs:=(strs ys).toArray) (t:=9) (fr:=(0,0)) hy.blk) (by intro u hu;simp [strs] at hu;obtain ⟨t,_,rfl⟩:=hu;rfl) h1 (by unfold maxLen;omega) (by omega) (Nat.zero_le _) w.heap.size (by omega) ?_;intro g' cc w2 hown2 hg hat hlt2;have hB2 : Bx b 68 #[.slice a L.length c] w2:=⟨(hg.block b hlt hbo).trans hB.blk⟩;have d0:=hB2.c 0 _ rfl;have e0:=hB2.f 0)
  go_end0
  have h:=HH.out
  have hsz:=hg.size
  have hge : ¬ g' ≤ b ∧ P g':=by
    rcases hat with e | e
    · have:=hP g' e;exact ⟨fun q=>h.lo g' q this,this⟩
    · exact ⟨by omega,h.hi g' (by omega)⟩
  have hl2 : (L ++ ys).length = L.length + m:=by simp [hm]
  refine ⟨rfl,⟨⟨_,hB2.put (j:=0) (.slice (some ⟨g',0,none⟩) (L.length + m) cc),?_,fun x hx=>?_⟩,h.lo,fun x hx=>h.hi x (by rw [size_set] at hx;omega)⟩,?_⟩
  · have e1 : strs (L ++ ys) = strs L ++ strs ys:=by simp [strs]
    rw [hl2,e1]
    exact own_keep hown2 fun x hx=>by
      have e2 : g' = x:=by simpa [Value.ownBlock] using hx
      exact Below.heap_setCell w2 _ _ x (by show x ≠ b;omega)
  · have e2 : g' = x:=by simpa [Value.ownBlock] using hx
    rw [← e2];exact hge.2
  · refine Ky.setCell (S:=fun k=>k = b ∨ P k) ⟨hg.os,hg.tape,hg.output,hg.size,fun k hk hn=>hg.block k hk fun e=>hn (.inr (hP k e.symm))⟩ (.inl rfl) _
end Go.Proofs.YtlgkfhipobdcfaaGreatDoor


namespace Go.Proofs.YtlgkfhipobdcfaaGreatDoor
open Go.RowKit
def TP (b : Nat) (P : Nat → Prop) (W : World) (L : Tks) (e : Ending) (w' : World) : Prop:=e = .returned (.tuple #[]) ∧ Te b P L w' ∧ Ky (fun k=>k = b ∨ P k) W w'
structure Tq (b : Nat) (P : Nat → Prop) (L : Tks) (W w : World) : Prop where
  te : Te b P L w
  ky : Ky (fun k=>k = b ∨ P k) W w
theorem Te.tq {b : Nat} {P : Nat → Prop} {L : Tks} {w : World} (h : Te b P L w) : Tq b P L w w:=⟨h,Ky.refl _ _⟩
theorem Rv.ky {b : Nat} {P : Nat → Prop} {w w' : World} {a : Option Addr} {r : F} (h : Rv w (fun g=>g < b) a r) (k : Ky (fun k=>k = b ∨ P k) w w') (lo : ∀ x,x ≤ b → ¬ P x) : Rv w' (fun g=>g < b) a r :=
  h.keep k.size fun g hg hl=>k.block g hl fun e=>e.elim (fun e=>by have : g < b:=hg;omega) (lo g (Nat.le_of_lt hg))
theorem Tq.rv {b : Nat} {P : Nat → Prop} {L : Tks} {W w : World} {a : Option Addr} {r : F} (h : Tq b P L W w) (hr : Rv W (fun g=>g < b) a r) : Rv w (fun g=>g < b) a r:=hr.ky h.ky h.te.lo
theorem Tq.alloc {b : Nat} {P : Nat → Prop} {L : Tks} {W w : World} (h : Tq b P L W w) (o : Obj) : Tq b P L W (w.alloc o):=⟨h.te.alloc o,h.ky.alloc o⟩
theorem Tq.step {b : Nat} {P : Nat → Prop} {L L' : Tks} {W w w' : World} {e : Ending} (h : Tq b P L W w) (hc : TP b P w L' e w') : Tq b P L' W w':=⟨hc.2.1,h.ky.trans hc.2.2⟩
structure Tx (b : Nat) (P : Nat → Prop) (L : Tks) (W : World) (X : Nat) (cur : Array Value) (w : World) : Prop where
  te : Te b (fun g=>P g ∧ g ≠ X) L w
  ky : Ky (fun k=>k = b ∨ P k) W w
  box : Bx X 24 cur w
  hX : b < X
  lo : ∀ x,x ≤ b → ¬ P x
  up : P X
section
variable {b : Nat} {P : Nat → Prop} {L L' : Tks} {W w w' : World} {X : Nat} {cur : Array Value}
theorem Tq.box (h : Tq b P L W w) (cur : Array Value) : Tx b P L W w.heap.size cur (w.alloc (.cells cur 24)) :=
  ⟨h.te.less _ rfl,h.ky.alloc _,Bx.new _ _ _,h.te.lt,h.te.lo,h.te.hi _ (Nat.le_refl _)⟩
theorem Tx.tq (h : Tx b P L W X cur w) : Tq b P L W w:=⟨h.te.mono (fun _ e=>e.1) h.lo,h.ky⟩
theorem Tx.alloc (h : Tx b P L W X cur w) (o : Obj) : Tx b P L W X cur (w.alloc o):=⟨h.te.alloc o,h.ky.alloc o,h.box.alloc o,h.hX,h.lo,h.up⟩
theorem Tx.step {e : Ending} (h : Tx b P L W X cur w) (hc : TP b (fun g=>P g ∧ g ≠ X) w L' e w') : Tx b P L' W X cur w':=by
  have hX:=h.hX
  exact ⟨hc.2.1,h.ky.trans (hc.2.2.mono fun k _ e=>e.imp id And.left),h.box.ky hc.2.2 (fun e=>e.elim (by omega) fun e=>e.2 rfl),h.hX,h.lo,h.up⟩
theorem Tx.below (h : Tx b P L W X cur w) (k : Below w.heap.size w w') : Tx b P L W X cur w':=⟨h.te.below k,h.ky.trans (.of_below k),h.box.below k,h.hX,h.lo,h.up⟩
theorem Tx.add1 (h : Tx b P L W X cur w) (s : List UInt8) (hL : L.length + 1 ≤ 1000000) :
    Calls Tryz.prog 53 #[.pointer (some ⟨b,0,none⟩),.slice (some ⟨w.heap.size,0,none⟩) 1 1] (w.alloc (.cells #[.string ⟨s.toArray⟩] 9)) fun e w'=>e = .returned (.tuple #[]) ∧ Tx b P (L ++ [s]) W X cur w' ∧ Ky (fun k=>k = b ∨ P k) w w' :=
  (adds_any (h.te.alloc _) w.heap.size 1 [s] (Bx.new w 9 #[.string ⟨s.toArray⟩]) rfl (Nat.le_refl _) hL).mono fun _ _ hc=>⟨hc.1,(h.alloc _).step hc,((Ky.refl _ w).alloc _).trans (hc.2.2.mono fun _ _ e=>e.imp id And.left)⟩
theorem Tq.add1 (h : Tq b P L W w) (s : List UInt8) (hL : L.length + 1 ≤ 1000000) :
    Calls Tryz.prog 53 #[.pointer (some ⟨b,0,none⟩),.slice (some ⟨w.heap.size,0,none⟩) 1 1] (w.alloc (.cells #[.string ⟨s.toArray⟩] 9)) fun e w'=>e = .returned (.tuple #[]) ∧ Tq b P (L ++ [s]) W w' ∧ Ky (fun k=>k = b ∨ P k) w w' :=
  (adds_any (h.te.alloc _) w.heap.size 1 [s] (Bx.new w 9 #[.string ⟨s.toArray⟩]) rfl (Nat.le_refl _) hL).mono fun _ _ hc=>⟨hc.1,(h.alloc _).step hc,((Ky.refl _ w).alloc _).trans hc.2.2⟩
end
def CT (f : FuncId) (N : Nat) (tk : Int → List UInt8 → Int → F → Tks) : Prop:=∀ (b : Nat) (P : Nat → Prop) (L : Tks) (W : World) (k : Int) (t : List UInt8) (n p : Int) (a : Option Addr) (c : Nat) (ks : F),Te b P L W → Rv W (fun g=>g < b) a ks → ks.siz < N → (one k t n p ks).wf = true → (ks.len ≤ c ∧ c ≤ maxLen) → L.length + (tk k t n ks).length ≤ 1000000 →
  Calls Tryz.prog f #[.pointer (some ⟨b,0,none⟩),(.agg #[.int .i64 (k),.string ⟨(t).toArray⟩,.int .i64 (n),.int .i64 (p),.slice a ks.len c])] W (TP b P W (L ++ tk k t n ks))
theorem F.wf_cons {k : Int} {t : List UInt8} {n p : Int} {ks r : F} (h : (F.cons k t n p ks r).wf = true) : (one k t n p ks).wf = true ∧ r.wf = true:=by
  simp only [F.wf,one,Bool.and_eq_true] at h ⊢
  exact ⟨⟨⟨h.1.1,h.1.2⟩,trivial⟩,h.2⟩
set_option maxRecDepth 20000 in
set_option maxHeartbeats 4000000 in
theorem list_t {N : Nat} (hN : N ≤ 1000000) (tk : Int → List UInt8 → Int → F → Tks) (CE : CT 79 N tk) (b : Nat) (P : Nat → Prop) (L : Tks) (W : World) (a : Option Addr) (c : Nat) (r : F) (h : Te b P L W) (hr : Rv W (fun g=>g < b) a r) (hs : r.siz ≤ N) (hw : r.wf = true) (hL : L.length + (lsT tk false r).length ≤ 1000000) :
    Calls Tryz.prog 77 #[.pointer (some ⟨b,0,none⟩),.slice a r.len c] W (TP b P W (L ++ lsT tk false r)):=by
  have hlen:=r.len_siz
  have HA : Hid (r = .nil ∨ ∃ g o,a = some ⟨g,o,none⟩):=by
    cases r with
    | nil=>exact .inl rfl
    | cons k t n p ks r'=>obtain ⟨g,o,_,_,e,_⟩:=hr.cons;exact .inr ⟨g,o,e⟩
  have H0 : Hid (Tq b P L W W ∧ Rv W (fun g=>g < b) a r):=⟨h.tq,hr⟩
  clear h hr
  go_enter Tryz.func77,Tryz.ntmps77
  go_wp2_with fail
  go_loopw [4,5,8] (fun _ _ iv wx=>∃ (i : Nat) (q : F) (L' : Tks),iv = .int .i64 (i : Nat) ∧ i + q.len = r.len ∧ Hid (Tq b P L' W wx ∧ (∀ g o,a = some ⟨g,o,none⟩ → Rv wx (fun g=>g < b) (some ⟨g,o + i * 5,none⟩) q) ∧ L' ++ lsT tk (decide (0 < i)) q = L ++ lsT tk false r ∧ q.siz ≤ r.siz ∧ q.wf = true)) (fun _ _ iv _=>r.len - (intOf iv).toNat)
  case atStart=>exact ⟨0,r,L,rfl,by omega,H0.out.1,fun g o e=>by have:=H0.out.2;rw [e] at this;simpa using this,rfl,Nat.le_refl _,hw⟩
  case round =>
    clear H0
    obtain ⟨i,q,L',rfl,hi,HR⟩:=hrel
    cases q with
    | nil =>
      have h1 : ¬ (i : Int) < (r.len : Int):=by simp only [F.len] at hi;omega
      have HE : Hid (TP b P W (L ++ lsT tk false r) (.returned (.tuple #[])) wr):=by
        obtain ⟨q1,_,q3,_⟩:=HR.out
        simp only [lsT,List.append_nil] at q3
        rw [← q3]
        exact ⟨rfl,q1.te,q1.ky⟩
      go_wp2
      go_end0
      exact HE.out
    | cons k t n p ks q' =>
      simp only [F.len] at hi
      obtain ⟨D,hRv,hE,hz,hwf⟩:=HR.out
      have hrn : ∃ g o,a = some ⟨g,o,none⟩:=HA.out.resolve_left fun e=>by rw [e] at hi;simp only [F.len] at hi;omega
      obtain ⟨g,o,rfl⟩:=hrn
      have hRv:=hRv g o rfl
      obtain ⟨g',o',a',c',e1,hg,c0,c1,c2,c3,c4,hK,hNx,hcc⟩:=hRv.cons
      injection e1 with e1
      injection e1 with e1 e2
      subst e1 e2
      simp only [F.siz] at hz
      obtain ⟨hw1,hw2⟩:=F.wf_cons hwf
      have h1 : (i : Int) < (r.len : Int):=by omega
      have wi : IntKind.i64.wrap ((i : Int) + 1) = (i : Int) + 1:=by rw [IntKind.wrap_i64];omega
      have hEl : L'.length + (lsT tk (decide (0 < i)) (.cons k t n p ks q')).length ≤ 1000000:=by
        have:=congrArg List.length hE
        simp only [List.length_append] at this
        omega
      simp only [lsT,List.length_append] at hEl
      have B:=D.box #[.int .i64 k,.string ⟨t.toArray⟩,.int .i64 n,.int .i64 p,.slice a' ks.len c']
      have hK1:=(D.box #[.int .i64 k,.string ⟨t.toArray⟩,.int .i64 n,.int .i64 p,.slice a' ks.len c']).ky
      obtain ⟨Y,hY⟩ : ∃ Y,wr.heap.size = Y:=⟨_,rfl⟩
      obtain ⟨W1,hW1⟩ : ∃ W1,wr.alloc (.cells #[.int .i64 (k),.string ⟨(t).toArray⟩,.int .i64 (n),.int .i64 (p),.slice a' ks.len c'] 24) = W1:=⟨_,rfl⟩
      have KW : Ky (fun k=>k = b ∨ P k) wr W1:=by rw [← hW1];exact (Ky.refl _ _).alloc _
      rw [hY,hW1] at B
      rw [hW1] at hK1
      have HD : Hid (Tx b P L' W Y #[.int .i64 k,.string ⟨t.toArray⟩,.int .i64 n,.int .i64 p,.slice a' ks.len c'] W1 ∧ Rv W1 (fun g=>g < b) a' ks ∧ Rv W1 (fun g=>g < b) (some ⟨g,o + i * 5 + 5,none⟩) q' ∧ L' ++ lsT tk (decide (0 < i)) (.cons k t n p ks q') = L ++ lsT tk false r):=⟨B,hK.ky KW B.lo,hNx.ky KW B.lo,hE⟩
      obtain ⟨p0,p1,p2,p3,p4⟩:=B.box.five
      clear D hRv hE hK hNx HR hK1 KW
      by_cases hi0 : 0 < i
      · have h2 : (0 : Int) < (i : Int):=by omega
        have hd : decide (0 < i) = true:=by simpa using hi0
        rw [hd] at hEl
        simp only [if_true,List.length_cons,List.length_nil] at hEl
        have CA:=B.add1 [44] (by omega)
        clear B
        go_wp2_with fail
        refine CA.mono ?_;rintro e w2 ⟨rfl,D2,K2⟩
        obtain ⟨r0,r1,r2,r3,r4⟩:=D2.box.five
        have C2:=CE b P (L' ++ [[44]]) w2 k t n p a' c' ks D2.tq.te (HD.out.2.1.ky K2 D2.lo) (by omega) hw1 hcc (by simp only [List.length_append,List.length_cons,List.length_nil];omega)
        have HD2 : Hid (Tq b P (L' ++ [[44]]) W w2 ∧ Rv w2 (fun g=>g < b) (some ⟨g,o + i * 5 + 5,none⟩) q'):=⟨D2.tq,HD.out.2.2.1.ky K2 D2.lo⟩
        clear CA D2 K2
        go_wp2_with fail
        refine C2.mono ?_;rintro e w3 hc3
        have HD3 : Hid (Tq b P (L' ++ [[44]] ++ tk k t n ks) W w3 ∧ Rv w3 (fun g=>g < b) (some ⟨g,o + i * 5 + 5,none⟩) q'):=⟨HD2.out.1.step hc3,HD2.out.2.ky hc3.2.2 HD2.out.1.te.lo⟩
        obtain ⟨rfl,-⟩:=hc3
        clear C2
        go_wp2
        go_round
        case rel =>
          refine ⟨i + 1,q',L' ++ [[44]] ++ tk k t n ks,by first | rfl | simp,by omega,HD3.out.1,fun g2 o2 e2=>?_,?_,by omega,hw2⟩
          · injection e2 with e2
            injection e2 with e2 e3
            subst e2 e3
            rw [show o + (i + 1) * 5 = o + i * 5 + 5 by omega]
            exact HD3.out.2
          · have:=HD.out.2.2.2
            rw [hd] at this
            rw [← this]
            simp [lsT]
        case measure=>first | omega | (simp only [intOf];omega) | (simp;omega)
      · have h2 : ¬ (0 : Int) < (i : Int):=by omega
        have hd : decide (0 < i) = false:=by simpa using hi0
        rw [hd] at hEl
        simp only [Bool.false_eq_true,if_false,List.length_nil,Nat.zero_add] at hEl
        have C2:=CE b P L' W1 k t n p a' c' ks B.tq.te HD.out.2.1 (by omega) hw1 hcc (by omega)
        clear B
        go_wp2_with fail
        refine C2.mono ?_;rintro e w3 hc3
        have HD3 : Hid (Tq b P (L' ++ tk k t n ks) W w3 ∧ Rv w3 (fun g=>g < b) (some ⟨g,o + i * 5 + 5,none⟩) q'):=⟨HD.out.1.tq.step hc3,HD.out.2.2.1.ky hc3.2.2 HD.out.1.lo⟩
        obtain ⟨rfl,-⟩:=hc3
        clear C2
        go_wp2
        go_round
        case rel =>
          refine ⟨i + 1,q',L' ++ tk k t n ks,by first | rfl | simp,by omega,HD3.out.1,fun g2 o2 e2=>?_,?_,by omega,hw2⟩
          · injection e2 with e2
            injection e2 with e2 e3
            subst e2 e3
            rw [show o + (i + 1) * 5 = o + i * 5 + 5 by omega]
            exact HD3.out.2
          · have:=HD.out.2.2.2
            rw [hd] at this
            rw [← this]
            simp [lsT]
        case measure=>first | omega | (simp only [intOf];omega) | (simp;omega)
set_option maxRecDepth 20000 in
set_option maxHeartbeats 4000000 in
theorem within_t {N : Nat} (hN : N ≤ 1000000) (tk : Int → List UInt8 → Int → F → Tks) (CE : CT 79 N tk) (b : Nat) (P : Nat → Prop) (L : Tks) (W : World) (a : Option Addr) (c : Nat) (r : F) (x z : List UInt8) (h : Te b P L W) (hr : Rv W (fun g=>g < b) a r) (hs : r.siz ≤ N) (hw : r.wf = true) (hL : L.length + (wiT tk x r z).length ≤ 1000000) :
    Calls Tryz.prog 114 #[.pointer (some ⟨b,0,none⟩),.string ⟨x.toArray⟩,.slice a r.len c,.string ⟨z.toArray⟩] W (TP b P W (L ++ wiT tk x r z)):=by
  simp only [wiT,List.length_cons,List.length_append,List.length_nil] at hL
  have CA:=h.tq.add1 x (by omega)
  have HR : Hid (Rv W (fun g=>g < b) a r):=hr
  clear h hr
  go_enter Tryz.func114,Tryz.ntmps114
  go_wp2_with fail
  refine CA.mono ?_;rintro e w1 ⟨rfl,D1,-⟩
  have CL:=list_t hN tk CE b P (L ++ [x]) w1 a c r D1.te (D1.rv HR.out) hs hw (by simp only [List.length_append,List.length_cons,List.length_nil];omega)
  have HD1 : Hid (Tq b P (L ++ [x]) W w1):=D1
  clear CA D1
  go_wp2_with fail
  refine CL.mono ?_;rintro e w2 hc2
  have D2:=HD1.out.step hc2
  obtain ⟨rfl,-⟩:=hc2
  have CA:=D2.add1 z (by simp only [List.length_append,List.length_cons,List.length_nil];omega)
  clear CL D2
  go_wp2_with fail
  refine CA.mono ?_;rintro e w3 ⟨rfl,D3,-⟩
  have HD3 : Hid (Tq b P (L ++ [x] ++ lsT tk false r ++ [z]) W w3):=D3
  clear CA D3
  go_wp2
  go_end0
  have e : L ++ wiT tk x r z = L ++ [x] ++ lsT tk false r ++ [z]:=by simp [wiT]
  rw [e]
  exact ⟨rfl,HD3.out.te,HD3.out.ky⟩
end Go.Proofs.YtlgkfhipobdcfaaGreatDoor


namespace Go.Proofs.YtlgkfhipobdcfaaGreatDoor
open Go.RowKit
theorem F.wf_one {k : Int} {t : List UInt8} {n p : Int} {ks : F} (h : (one k t n p ks).wf = true) : arW k n ks.len = true ∧ t.length ≤ 20000 ∧ ks.wf = true:=by
  simp only [F.wf,one,Bool.and_eq_true,decide_eq_true_eq] at h
  exact ⟨h.1.1.1,h.1.1.2,h.1.2⟩
set_option maxRecDepth 20000 in
set_option maxHeartbeats 4000000 in
theorem block_t {N : Nat} (hN : N ≤ 1000000) (tk : Int → List UInt8 → Int → F → Tks) (CE : CT 52 N tk) (b : Nat) (P : Nat → Prop) (L : Tks) (W : World) (k0 : Int) (t0 : List UInt8) (n0 q0 : Int) (a : Option Addr) (c : Nat) (r : F) (h : Te b P L W) (hr : Rv W (fun g=>g < b) a r) (hs : r.siz ≤ N) (hw : r.wf = true) (hL : L.length + (blkT tk r).length ≤ 1000000) :
    Calls Tryz.prog 27 #[.pointer (some ⟨b,0,none⟩),(.agg #[.int .i64 (k0),.string ⟨(t0).toArray⟩,.int .i64 (n0),.int .i64 (q0),.slice a r.len c])] W (TP b P W (L ++ blkT tk r)):=by
  have hlen:=r.len_siz
  have HA : Hid (r = .nil ∨ ∃ g o,a = some ⟨g,o,none⟩):=by
    cases r with
    | nil=>exact .inl rfl
    | cons k t n p ks r'=>obtain ⟨g,o,_,_,e,_⟩:=hr.cons;exact .inr ⟨g,o,e⟩
  have B0:=Bx.new W 24 #[.int .i64 k0,.string ⟨t0.toArray⟩,.int .i64 n0,.int .i64 q0,.slice a r.len c]
  have D0:=h.tq.alloc (.cells #[.int .i64 (k0),.string ⟨(t0).toArray⟩,.int .i64 (n0),.int .i64 (q0),.slice a r.len c] 24)
  obtain ⟨W0,hW0⟩ : ∃ W0,W.alloc (.cells #[.int .i64 (k0),.string ⟨(t0).toArray⟩,.int .i64 (n0),.int .i64 (q0),.slice a r.len c] 24) = W0:=⟨_,rfl⟩
  rw [hW0] at B0 D0
  obtain ⟨y0,y1,y2,y3,y4⟩:=B0.five
  have H0 : Hid (Tq b P L W W0 ∧ Rv W0 (fun g=>g < b) a r):=⟨D0,D0.rv hr⟩
  clear h hr B0 D0
  go_enter Tryz.func27,Tryz.ntmps27
  go_wp2_with fail
  go_loopw [5,9] (fun _ iv wx=>∃ (i : Nat) (q : F) (L' : Tks),iv = .int .i64 (i : Nat) ∧ i + q.len = r.len ∧ Hid (Tq b P L' W wx ∧ (∀ g o,a = some ⟨g,o,none⟩ → Rv wx (fun g=>g < b) (some ⟨g,o + i * 5,none⟩) q) ∧ L' ++ blkT tk q = L ++ blkT tk r ∧ q.siz ≤ r.siz ∧ q.wf = true)) (fun _ iv _=>r.len - (intOf iv).toNat)
  case atStart=>exact ⟨0,r,L,rfl,by omega,H0.out.1,fun g o e=>by have:=H0.out.2;rw [e] at this;simpa using this,rfl,Nat.le_refl _,hw⟩
  case round =>
    clear H0 y0 y1 y2 y3 y4 hW0
    obtain ⟨i,q,L',rfl,hi,HR⟩:=hrel
    cases q with
    | nil =>
      have h1 : ¬ (i : Int) < (r.len : Int):=by simp only [F.len] at hi;omega
      have HE : Hid (TP b P W (L ++ blkT tk r) (.returned (.tuple #[])) wr):=by
        obtain ⟨q1,_,q3,_⟩:=HR.out
        simp only [blkT,List.append_nil] at q3
        rw [← q3]
        exact ⟨rfl,q1.te,q1.ky⟩
      go_wp2
      go_end0
      exact HE.out
    | cons k t n p ks q' =>
      simp only [F.len] at hi
      obtain ⟨D,hRv,hE,hz,hwf⟩:=HR.out
      have hrn : ∃ g o,a = some ⟨g,o,none⟩:=HA.out.resolve_left fun e=>by rw [e] at hi;simp only [F.len] at hi;omega
      obtain ⟨g,o,rfl⟩:=hrn
      have hRv:=hRv g o rfl
      obtain ⟨g',o',a',c',e1,hg,c0,c1,c2,c3,c4,hK,hNx,hcc⟩:=hRv.cons
      injection e1 with e1
      injection e1 with e1 e2
      subst e1 e2
      simp only [F.siz] at hz
      obtain ⟨hw1,hw2⟩:=F.wf_cons hwf
      have h1 : (i : Int) < (r.len : Int):=by omega
      have wi : IntKind.i64.wrap ((i : Int) + 1) = (i : Int) + 1:=by rw [IntKind.wrap_i64];omega
      have hEl : L'.length + (blkT tk (.cons k t n p ks q')).length ≤ 1000000:=by
        have:=congrArg List.length hE
        simp only [List.length_append] at this
        omega
      simp only [blkT,List.length_append,List.length_cons] at hEl
      have B:=D.box #[.int .i64 k,.string ⟨t.toArray⟩,.int .i64 n,.int .i64 p,.slice a' ks.len c']
      obtain ⟨Y,hY⟩ : ∃ Y,wr.heap.size = Y:=⟨_,rfl⟩
      obtain ⟨W1,hW1⟩ : ∃ W1,wr.alloc (.cells #[.int .i64 (k),.string ⟨(t).toArray⟩,.int .i64 (n),.int .i64 (p),.slice a' ks.len c'] 24) = W1:=⟨_,rfl⟩
      have KW : Ky (fun k=>k = b ∨ P k) wr W1:=by rw [← hW1];exact (Ky.refl _ _).alloc _
      rw [hY,hW1] at B
      have HD : Hid (Tx b P L' W Y #[.int .i64 k,.string ⟨t.toArray⟩,.int .i64 n,.int .i64 p,.slice a' ks.len c'] W1 ∧ Rv W1 (fun g=>g < b) (some ⟨g,o + i * 5 + 5,none⟩) q' ∧ L' ++ blkT tk (.cons k t n p ks q') = L ++ blkT tk r):=⟨B,hNx.ky KW B.lo,hE⟩
      obtain ⟨p0,p1,p2,p3,p4⟩:=B.box.five
      have C2:=CE b P L' W1 k t n p a' c' ks B.tq.te (hK.ky KW B.lo) (by omega) hw1 hcc (by omega)
      clear D hRv hE hK hNx HR KW B
      go_wp2_with fail
      refine C2.mono ?_;rintro e w2 hc2
      have D2:=HD.out.1.tq.step hc2
      have HD2 : Hid (Tq b P (L' ++ tk k t n ks) W w2 ∧ Rv w2 (fun g=>g < b) (some ⟨g,o + i * 5 + 5,none⟩) q'):=⟨D2,HD.out.2.1.ky hc2.2.2 HD.out.1.lo⟩
      have CA:=D2.add1 [59] (by simp only [List.length_append];omega)
      obtain ⟨rfl,-⟩:=hc2
      clear C2 D2
      go_wp2_with fail
      refine CA.mono ?_;rintro e w3 ⟨rfl,D3,K3⟩
      have HD3 : Hid (Tq b P (L' ++ tk k t n ks ++ [[59]]) W w3 ∧ Rv w3 (fun g=>g < b) (some ⟨g,o + i * 5 + 5,none⟩) q'):=⟨D3,HD2.out.2.ky K3 HD2.out.1.te.lo⟩
      clear CA D3 K3
      go_wp2
      go_round
      case rel =>
        refine ⟨i + 1,q',L' ++ tk k t n ks ++ [[59]],by first | rfl | simp,by omega,HD3.out.1,fun g2 o2 e2=>?_,?_,by omega,hw2⟩
        · injection e2 with e2
          injection e2 with e2 e3
          subst e2 e3
          rw [show o + (i + 1) * 5 = o + i * 5 + 5 by omega]
          exact HD3.out.2
        · rw [← HD.out.2.2]
          simp [blkT]
      case measure=>first | omega | (simp only [intOf];omega) | (simp;omega)
set_option maxRecDepth 20000 in
set_option maxHeartbeats 4000000 in
theorem body_t {N : Nat} (tk : Int → List UInt8 → Int → F → Tks) (CB : CT 27 N tk) (b : Nat) (P : Nat → Prop) (L : Tks) (W : World) (k : Int) (t : List UInt8) (n p : Int) (a : Option Addr) (c : Nat) (ks : F) (h : Te b P L W) (hr : Rv W (fun g=>g < b) a ks) (hs : ks.siz < N) (hw : (one k t n p ks).wf = true) (hcc : ks.len ≤ c ∧ c ≤ maxLen) (hL : L.length + ((tk k t n ks).length + 2) ≤ 1000000) :
    Calls Tryz.prog 80 #[.pointer (some ⟨b,0,none⟩),(.agg #[.int .i64 (k),.string ⟨(t).toArray⟩,.int .i64 (n),.int .i64 (p),.slice a ks.len c])] W (TP b P W (L ++ ([100,111] :: (tk k t n ks ++ [[101,110,100]])))):=by
  have B:=h.tq.box #[.int .i64 k,.string ⟨t.toArray⟩,.int .i64 n,.int .i64 p,.slice a ks.len c]
  have HR : Hid (Rv W (fun g=>g < b) a ks):=hr
  obtain ⟨W1,hW1⟩ : ∃ W1,W.alloc (.cells #[.int .i64 (k),.string ⟨(t).toArray⟩,.int .i64 (n),.int .i64 (p),.slice a ks.len c] 24) = W1:=⟨_,rfl⟩
  rw [hW1] at B
  have CA:=B.add1 [100,111] (by omega)
  clear h hr B
  go_enter Tryz.func80,Tryz.ntmps80
  go_wp2_with fail
  refine CA.mono ?_;rintro e w1 ⟨rfl,D1,K1⟩
  obtain ⟨p0,p1,p2,p3,p4⟩:=D1.box.five
  have C2:=CB b P (L ++ [[100,111]]) w1 k t n p a c ks D1.tq.te (D1.tq.rv HR.out) hs hw hcc (by simp only [List.length_append,List.length_cons,List.length_nil];omega)
  have HD1 : Hid (Tq b P (L ++ [[100,111]]) W w1):=D1.tq
  clear CA D1 K1
  go_wp2_with fail
  refine C2.mono ?_;rintro e w2 hc2
  have D2:=HD1.out.step hc2
  have CA:=D2.add1 [101,110,100] (by simp only [List.length_append,List.length_cons,List.length_nil];omega)
  obtain ⟨rfl,-⟩:=hc2
  clear C2 D2
  go_wp2_with fail
  refine CA.mono ?_;rintro e w3 ⟨rfl,D3,K3⟩
  have HD3 : Hid (Tq b P (L ++ [[100,111]] ++ tk k t n ks ++ [[101,110,100]]) W w3):=D3
  clear CA D3 K3
  go_wp2
  go_end0
  have e : L ++ ([100,111] :: (tk k t n ks ++ [[101,110,100]])) = L ++ [[100,111]] ++ tk k t n ks ++ [[101,110,100]]:=by simp
  rw [e]
  exact ⟨rfl,HD3.out.te,HD3.out.ky⟩
end Go.Proofs.YtlgkfhipobdcfaaGreatDoor
