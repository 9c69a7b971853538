import Derived.Test.YtpiefebngnlfoaaGreatDoorNd
import Derived.Test.YtpiefebngnlfoaaGreatDoorNf
import Derived.Test.YtpiefebngnlfoaaGreatDoorNe
set_option maxRecDepth 99999
set_option maxHeartbeats 0
set_option linter.unusedVariables false
set_option linter.unusedSimpArgs false
namespace Go.Proofs.YtpiefebngnlfoaaGreatDoor
open Go.RowKit Go.Conc Go.Vw
theorem Gu{S:Nat->Prop}{v:World}{N W:Nat}{x:Nat->Sx}{T:Nat->List It}{G0:Wv}(hm:Wm N W x T G0 v)(hb:G0.b<1099511627776)(hh:G0.h<1099511627776)(ht:G0.t<1099511627776):aJ Tryz.prog 11 #[.pointer (some ⟨W,3,none⟩)] S v λy S' v'=>y=.bool true∧S'=S∧v'=v:=by
 refine dX Tryz.func11 rfl Tryz.ntmps11 λStop cc cs ret f g0=>?_;have OP:v.cell? ⟨W,4,none⟩=some (.slice none 0 0):=(ab _ W 4 _ _ _ hm.row).trans rfl;repeat refine rN ?_
 refine bF (λd f' S' v'=>∃k,d=4-k∧k<=4∧S'=S∧v'=v∧f' 0=.pointer (some ⟨W,3,none⟩)∧f' 3=.int .i64 (k:Nat)) 4 ⟨0,by omega,by omega,rfl,rfl,by simp[g0],by simp⟩ ?_;clear g0 f;rintro d f S' v' ⟨k,rfl,hk,eS,eV,g0,g3⟩ dj;subst S' v';repeat refine rN ?_
 by_cases dp:k<4
 .have ll:(k:Int)<4:=by omega
  refine rX (by simp[Act.eval,ll]) ?_;repeat refine rN ?_
  refine Zu hm hb dp (by simp[g0]) (by simp[g3]) (by simp) λf1 a0 a3=>?_
  repeat refine rN ?_
  refine bF (λd f' S' v'=>S'=S∧v'=v∧f' 0=.pointer (some ⟨W,3,none⟩)∧f' 3=.int .i64 (k:Nat)∧f' 6=.int .i64 0) 0 ⟨rfl,rfl,by simp[a0],by simp[a3],by simp⟩ ?_;clear a0 a3 g0 g3 f f1;rintro d f S' v' ⟨eS,eV,g0,g3,g6⟩ _;subst S' v';repeat refine rM OP ?_
  refine rZ (by simp[Act.eval]) ?_;refine bC rfl ?_;repeat refine rN ?_
  refine Zt hm hh dp (by simp[g0]) (by simp[g3]) (by simp) λf1 a0 a3=>?_
  repeat refine rN ?_
  refine Zs hm ht dp (by simp[a0]) (by simp[a3]) (by simp) λf2 b0 b3=>?_
  repeat refine rN ?_
  refine dj _ _ _ (4-(k+1)) (by omega) ⟨k+1,rfl,by omega,rfl,rfl,by simp[b0],by simp⟩
 .obtain rfl:k=4:=by omega
  refine rZ (by simp[Act.eval,g3]) ?_;refine bC rfl ?_;repeat refine rN ?_
  refine aM λtodo=>?_;refine ret _ _ _ _ (.bool true) ?_ ⟨rfl,rfl,rfl⟩;simp[results,Tryz.results11]
