import Derived.Test.YtkjbgggghigapaaGreatCg33
import Derived.Test.YtkjbgggghigapaaGreatCg34
import Derived.Test.YtkjbgggghigapaaGreatCg35
import Derived.Test.YtkjbgggghigapaaGreatCg36
import Derived.Test.YtkjbgggghigapaaGreatCg37
namespace Go.Proofs.YtkjbgggghigapaaGreat
theorem bt_ok {lf:Int→Int→Int} {S U n:Nat} (hn:n≤200):btO lf S U n=true:=by
 obtain ⟨q,j,hj,rfl⟩:∃q j,j<10∧n=10 * q+j:=⟨n / 10,n % 10,by omega,by omega⟩
 match j,hj with
 | 0,_=>exact btr_0 lf S U q hn
 | 1,_=>exact btr_1 lf S U q hn
 | 2,_=>exact btr_2 lf S U q hn
 | 3,_=>exact btr_3 lf S U q hn
 | 4,_=>exact btr_4 lf S U q hn
 | 5,_=>exact btr_5 lf S U q hn
 | 6,_=>exact btr_6 lf S U q hn
 | 7,_=>exact btr_7 lf S U q hn
 | 8,_=>exact btr_8 lf S U q hn
 | 9,_=>exact btr_9 lf S U q hn
theorem bt_gen {n:Nat} (hn:n≤200) (S U:Nat):(chT (txtB n)).2.1=0∧(chT (txtB n)).2.2=0∧btU n (genU (txtB n) S U)=true:=by
 have h:=bt_ok (lf:=lfT (txtB n)) (S:=S) (U:=U) hn
 unfold btO at h
 simp only at h
 rw[prTF_eq] at h
 have hc:(if (prT (txtB n)).2.1=0 then chF (prT (txtB n)).1 else (([],[]),(prT (txtB n)).2.1,(prT (txtB n)).2.2))=chT (txtB n):=rfl
 rw[hc,Bool.and_eq_true,Bool.and_eq_true,decide_eq_true_eq,decide_eq_true_eq] at h
 obtain ⟨⟨h1,h2⟩,h3⟩:=h
 refine ⟨h1,h2,?_⟩
 unfold genU okRep genS
 rw[h1,h2]
 exact h3
end Go.Proofs.YtkjbgggghigapaaGreat
