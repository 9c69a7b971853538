import Derived.Test.YtpiefebngnlfoabGreatDoorNl
set_option maxRecDepth 99999
set_option maxHeartbeats 0
set_option linter.unusedVariables false
set_option linter.unusedSimpArgs false
namespace Go.Proofs.YtpiefebngnlfoabGreatDoor
open Go.RowKit Go.Conc Go.Vw
theorem Yw{a b:ByteArray}(h:¬a=b):¬a.toList=b.toList:=fun e=>h (by
 rw[ByteArray.toList_eq,ByteArray.toList_eq]at e
 exact ByteArray.ext (Array.ext' e))
section
variable {w w' v:World}{S:Nat->Prop}
theorem Gk(B1 B2 n c1 c2:Nat)(T1 T2:Nat->ByteArray)(hn:n<=18)(h1:dS v B1 n T1)(h2:dS v B2 n T2) :
  aI Tryz.prog 17 #[.slice (some ⟨B1,0,none⟩) n c1,.slice (some ⟨B2,0,none⟩) n c2] S v fun x S' v'=>S'=S∧v'=v∧∃ b,x=.bool b∧(b=true↔∀ d,d<n->T1 d=T2 d):=by
 refine dM Tryz.func17 rfl Tryz.ntmps17 fun Stop cc cs ret f g0 g1=>?_
 repeat refine rN ?_
 refine rZ (by simp[Act.eval]) ?_;repeat refine rN ?_
 refine bR (fun d f' S' v'=>∃ j,d=n - j∧j<=n∧S'=S∧v'=v∧Hid (∀ i,i<j->T1 i=T2 i)∧f' 0=.slice (some ⟨B1,0,none⟩) n c1∧f' 1=.slice (some ⟨B2,0,none⟩) n c2∧f' 5=.int .i64 (j:Nat)) n ⟨0,by omega,by omega,rfl,rfl,aJ fun i hi=>(by omega),by simp[g0],by simp[g1],by simp⟩ ?_
 clear g0 g1 f;rintro d f S' v' ⟨j,rfl,hj,eS,eV,HE,q0,q1,q5⟩ next
 subst S' v';repeat refine rN ?_
 by_cases hlt:j<n
 .have hjI:(j:Int)<(n:Int):=by omega
  have e1:=h1 j hlt;have e2:=h2 j hlt;refine rX (by simp[Act.eval,hlt]) ?_;by_cases hv:T1 j=T2 j
  .have HN:Hid (∀ i,i<j+1->T1 i=T2 i):=aJ fun i hi=>by
    by_cases q:i=j
    .rw[q];exact hv
    .exact HE.out i (by omega)
   rw[hv]at e1;clear hv;repeat refine rN ?_
   refine mF aB (by first|kernel_rfl|rfl) ?_
   simp only[List.size_toArray,List.length_cons,List.length_nil,Nat.reduceAdd,Nat.zero_add];refine rU 0 ?_;refine rU 1 ?_;refine rU 2 ?_;co_applyP rT (i:=3) rfl (fun _ hu_=>run_eq_of ?u2) ?v2
   case u2=>intro K_ hK_;(have hc:=(Ext.twin hu_).cell e1);go_simp;(try rw[wI _]);(try rw[wU _]);exact hK_
   simp only[sS,sN];refine rU 4 ?_;refine rU 5 ?_;refine rU 6 ?_;co_applyP rT (i:=7) rfl (fun _ hu_=>run_eq_of ?u4) ?v4
   case u4=>intro K_ hK_;(have hc:=(Ext.twin hu_).cell e2);go_simp;(try rw[wI _]);(try rw[wU _]);exact hK_
   simp only[sS,sN];refine rU 8 ?_;refine mJ (by first|kernel_rfl|decide +kernel) ?_ _
   repeat refine rN ?_
   refine rZ (by simp[Act.eval]) ?_;repeat refine rN ?_
   refine next _ _ _ (n - (j+1)) (by omega) ⟨j+1,rfl,by omega,rfl,rfl,HN,by simp[q0],by simp[q1],by simp⟩
  .skip;repeat refine rN ?_
   refine mF aB (by first|kernel_rfl|rfl) ?_
   simp only[List.size_toArray,List.length_cons,List.length_nil,Nat.reduceAdd,Nat.zero_add];refine rU 0 ?_;refine rU 1 ?_;refine rU 2 ?_;co_applyP rT (i:=3) rfl (fun _ hu_=>run_eq_of ?u7) ?v7
   case u7=>intro K_ hK_;(have hc:=(Ext.twin hu_).cell e1);go_simp;(try rw[wI _]);(try rw[wU _]);exact hK_
   simp only[sS,sN];refine rU 4 ?_;refine rU 5 ?_;refine rU 6 ?_;co_applyP rT (i:=7) rfl (fun _ hu_=>run_eq_of ?u9) ?v9
   case u9=>intro K_ hK_;(have hc:=(Ext.twin hu_).cell e2);go_simp;(try rw[wI _]);(try rw[wU _]);exact hK_
   simp only[sS,sN];refine rU 8 ?_;refine mJ (by first|kernel_rfl|decide +kernel) ?_ _
   repeat refine rN ?_
   refine rX (by simp[Act.eval,(Yw hv)]) ?_;repeat refine rN ?_
   refine aO fun todo=>?_
   refine ret _ _ S v (.bool false) ?_ ⟨rfl,rfl,false,rfl,fun q=>(by cases q),fun q=>absurd (q j hlt) hv⟩
   simp[results,Tryz.results17]
 .obtain rfl:j=n:=by omega
  refine rZ (by simp[Act.eval,q5,q0]) ?_;refine bB rfl ?_;repeat refine rN ?_
  refine aO fun todo=>?_
  refine ret _ _ S v (.bool true) ?_ ⟨rfl,rfl,true,rfl,fun _=>HE.out,fun _=>rfl⟩
  simp[results,Tryz.results17]
end
