import Derived.Test.YtpiefebngnlfoabGreatDoorLi
import Derived.Test.YtpiefebngnlfoabGreatDoorNk
set_option maxRecDepth 100000
set_option maxHeartbeats 16000000
set_option linter.unusedVariables false
set_option linter.unusedSimpArgs false
namespace Go.Proofs.YtpiefebngnlfoabGreatDoor
def zvM:Code→List Code
 |.seq a b=>zvM a++zvM b
 |.cond _ a b=>zvM a++zvM b
 |.block _ c=>zvM c
 |.loop c=>.loop c :: zvM c
 |_=>[]
def zxB(n:Nat)(c:Code):Code:=(zvM c).getD n .skip
open Go.RowKit Go.Conc Go.Vw
section
variable {w w' v:World}{S:Nat→Prop}
structure WF(f:Nat→Value)(s9 s10:Value)(g c g3 c3 n mx bt i:Nat):Prop where
 g9:f 9=s9
 g10:f 10=s10
 g11:f 11=.slice (some ⟨g,0,none⟩) n c
 g13:f 13=.int .i64 (mx:Nat)
 g15:f 15=.slice (some ⟨g3,0,none⟩) n c3
 g16:f 16=.int .i64 (bt:Nat)
 g17:f 17=.int .i64 (i:Nat)
theorem yfB{f:Nat→Value}{Stop:Goroutine→(Nat→Prop)→World→Prop}{cs:List Frame}{k0:List Item}(s9 s10:Value)(g c g3 c3 n mx bt i a b:Nat)(hi:i<n)(hF:WF f s9 s10 g c g3 c3 n mx bt i)(c0:w.cell? ⟨g,i*3,none⟩=some (.int .i64 (a:Nat)))(c1:w.cell? ⟨g,i*3+1,none⟩=some (.int .i64 (b:Nat)))(d0:w.cell? ⟨g3,i*3,none⟩=some (.int .i64 (a:Nat)))(d1:w.cell? ⟨g3,i*3+1,none⟩=some (.int .i64 (b:Nat)))
  (next:∀ f',WF f' s9 s10 g c g3 c3 n mx bt i→f' 107=.bool false→Vw.Reach Tryz.prog Stop (G ((base 3).at ⟨TA 158 f',[]⟩ k0) cs) S w) :
  Vw.Reach Tryz.prog Stop (G ((base 3).at ⟨TA 158 f,[]⟩ (.code (.region 20 ((zcN 20 (Tryz.f3.body.getD .skip)).getD #[]) true) :: k0)) cs) S w:=by
 have e0:zcN 20 (Tryz.f3.body.getD .skip)=some _:=rfl;rw[e0];simp only[Option.getD_some];clear e0;have hiI:(i:Int)<(n:Int):=by omega
 have g9:=hF.g9;have g10:=hF.g10;have g11:=hF.g11;have g13:=hF.g13;have g15:=hF.g15;have g16:=hF.g16;have g17:=hF.g17;clear hF;refine zcH zaA (by first|kernel_rfl|rfl) ?_
 simp only[List.size_toArray,List.length_cons,List.length_nil,Nat.reduceAdd,Nat.zero_add];refine hU 0 ?_;refine hU 1 ?_;refine hU 2 ?_;refine hU 3 ?_;co_applyP hT (i:=4) rfl (fun _ hu_=>run_eq_of ?u3_4) ?v3_4
 case u3_4=>intro K_ hK_;(have hc:=(Ext.twin hu_).cell d0);go_simp;(try rw[wI _]);(try rw[wU _]);exact hK_
 simp only[sS,sN];refine hU 5 ?_;refine hU 6 ?_;refine hU 7 ?_;refine hU 8 ?_;co_applyP hT (i:=9) rfl (fun _ hu_=>run_eq_of ?u5_9) ?v5_9
 case u5_9=>intro K_ hK_;(have hc:=(Ext.twin hu_).cell c0);go_simp;(try rw[wI _]);(try rw[wU _]);exact hK_
 simp only[sS,sN];refine hU 10 ?_;refine hU 11 ?_;refine hU 12 ?_;refine hU 13 ?_;refine hU 14 ?_;refine hU 15 ?_;co_applyP hT (i:=16) rfl (fun _ hu_=>run_eq_of ?u7_16) ?v7_16
 case u7_16=>intro K_ hK_;(have hc:=(Ext.twin hu_).cell d1);go_simp;(try rw[wI _]);(try rw[wU _]);exact hK_
 simp only[sS,sN];refine hU 17 ?_;refine hU 18 ?_;refine hU 19 ?_;refine hU 20 ?_;co_applyP hT (i:=21) rfl (fun _ hu_=>run_eq_of ?u9_21) ?v9_21
 case u9_21=>intro K_ hK_;(have hc:=(Ext.twin hu_).cell c1);go_simp;(try rw[wI _]);(try rw[wU _]);exact hK_
 simp only[sS,sN];refine hU 22 ?_;refine hU 23 ?_;refine hD ?_;refine rE ?_;exact next _ ⟨by simp[g9],by simp[g10],by simp[g11],by simp[g13],by simp[g15],by simp[g16],by simp[g17]⟩ (by simp)
theorem yfA{f:Nat→Value}{Stop:Goroutine→(Nat→Prop)→World→Prop}{cs:List Frame}{k0:List Item}(s9 s10:Value)(g c g3 c3 n mx bt i a b:Nat)(hi:i<n)(hF:WF f s9 s10 g c g3 c3 n mx bt i)(c2:w.cell? ⟨g,i*3+2,none⟩=some (.int .i64 (a:Nat)))(d2:w.cell? ⟨g3,i*3+2,none⟩=some (.int .i64 (b:Nat)))
  (next:∀ f',WF f' s9 s10 g c g3 c3 n mx bt i→f' 118=.bool (decide (¬b=a))→Vw.Reach Tryz.prog Stop (G ((base 3).at ⟨TA 158 f',[]⟩ k0) cs) S w) :
  Vw.Reach Tryz.prog Stop (G ((base 3).at ⟨TA 158 f,[]⟩ (.code (.region 22 ((zcN 22 (Tryz.f3.body.getD .skip)).getD #[]) true) :: k0)) cs) S w:=by
 have e0:zcN 22 (Tryz.f3.body.getD .skip)=some _:=rfl;rw[e0];simp only[Option.getD_some];clear e0;have hiI:(i:Int)<(n:Int):=by omega
 have g9:=hF.g9;have g10:=hF.g10;have g11:=hF.g11;have g13:=hF.g13;have g15:=hF.g15;have g16:=hF.g16;have g17:=hF.g17;clear hF;refine zcH zaA (by first|kernel_rfl|rfl) ?_
 simp only[List.size_toArray,List.length_cons,List.length_nil,Nat.reduceAdd,Nat.zero_add];refine hU 0 ?_;refine hU 1 ?_;refine hU 2 ?_;refine hU 3 ?_;co_applyP hT (i:=4) rfl (fun _ hu_=>run_eq_of ?u13_4) ?v13_4
 case u13_4=>intro K_ hK_;(have hc:=(Ext.twin hu_).cell d2);go_simp;(try rw[wI _]);(try rw[wU _]);exact hK_
 simp only[sS,sN];refine hU 5 ?_;refine hU 6 ?_;refine hU 7 ?_;refine hU 8 ?_;co_applyP hT (i:=9) rfl (fun _ hu_=>run_eq_of ?u15_9) ?v15_9
 case u15_9=>intro K_ hK_;(have hc:=(Ext.twin hu_).cell c2);go_simp;(try rw[wI _]);(try rw[wU _]);exact hK_
 simp only[sS,sN];refine hU 10 ?_;refine hD ?_;refine rE ?_;refine next _ ⟨by simp[g9],by simp[g10],by simp[g11],by simp[g13],by simp[g15],by simp[g16],by simp[g17]⟩ ?_
 by_cases hab:b=a
 ·subst hab;simp
 ·have habI:¬(b:Int)=(a:Int):=by omega
  simp[hab,habI]
theorem yeZ{f:Nat→Value}{Stop:Goroutine→(Nat→Prop)→World→Prop}{cs:List Frame}{k0:List Item}(n g c g3 c3 mi mx:Nat)(h h3:Nat→Hl)(hn:n≤64)(hmx:mx=mxB h n)(hst:Stp n mi h h3)(hb:∀ i,i<n→(h i).bad≤14)(hr:w.heap[g]?=some (.cells (hA n h) 38))(hr3:w.heap[g3]?=some (.cells (hA n h3) 38))(s9 s10:Value)
  (g9:f 9=s9) (g10:f 10=s10) (g11:f 11=.slice (some ⟨g,0,none⟩) n c) (g13:f 13=.int .i64 (mx:Nat)) (g15:f 15=.slice (some ⟨g3,0,none⟩) n c3) (g16:f 16=.int .i64 0) (g17:f 17=.int .i64 0)
  (next:∀ f',f' 16=.int .i64 1→f' 9=s9→f' 10=s10→f' 15=.slice (some ⟨g3,0,none⟩) n c3→Vw.Reach Tryz.prog Stop (G ((base 3).at ⟨TA 158 f',[]⟩ k0) cs) S w) :
  Vw.Reach Tryz.prog Stop (G ((base 3).at ⟨TA 158 f,[]⟩ (.code (zxB 1 (Tryz.f3.body.getD .skip)) :: .inBlock 2 :: k0)) cs) S w:=by
 have e:zxB 1 (Tryz.f3.body.getD .skip)=.loop _:=rfl;rw[e];clear e;have Hmx:=hide hmx;clear hmx;refine zaI (fun d f' S' w'=>∃ i bt,d=n - i∧i≤n∧S'=S∧w'=w∧Hid (bt=if mi<i then 1 else 0)∧bt≤1∧f' 9=s9∧f' 10=s10∧f' 11=.slice (some ⟨g,0,none⟩) n c∧f' 13=.int .i64 (mx:Nat)∧f' 15=.slice (some ⟨g3,0,none⟩) n c3∧f' 16=.int .i64 (bt:Nat)∧f' 17=.int .i64 (i:Nat)) n ⟨0,0,by omega,by omega,rfl,rfl,hide (by simp),by omega,g9,g10,g11,g13,g15,by simp[g16],by simp[g17]⟩ ?_
 clear g9 g10 g11 g13 g15 g16 g17 f;rintro d f S' w' ⟨i,bt,rfl,hi,eS,eW,HB,hbt,g9,g10,g11,g13,g15,g16,g17⟩ nxt;subst S' w';repeat (first|refine rQ rfl ?_|refine rY zaA ?_|refine rW ?_)
 by_cases hlt:i<n
 ·have hiI:(i:Int)<(n:Int):=by omega
  obtain⟨c0,c1,c2⟩:=zkT hr hlt;obtain⟨d0,d1,d2⟩:=zkT hr3 hlt;rw[hst.ids i hlt]at d0;rw[hst.sizes i hlt]at d1;have hbi:=hb i hlt;(refine zaB (t:=true) (by simp[Act.eval,g17,g15,hiI,hlt]) ?_;simp only[if_true,if_false,reduceIte,Bool.false_eq_true]);repeat (first|refine rQ rfl ?_|refine rY zaA ?_|refine rW ?_)
  refine yfB s9 s10 g c g3 c3 n mx bt i (h i).id (h i).size hlt ⟨by simp[g9],by simp[g10],by simp[g11],by simp[g13],by simp[g15],by simp[g16],by simp[g17]⟩ c0 c1 d0 d1 fun f2 hF2 q107=>?_
  clear g9 g10 g11 g13 g15 g16 g17 f c0 c1 d0 d1;repeat (first|refine rQ rfl ?_|refine rY zaA ?_|refine rW ?_)
  (refine zaB (t:=false) (by simp[Act.eval,q107]) ?_;simp only[if_true,if_false,reduceIte,Bool.false_eq_true]);repeat (first|refine rQ rfl ?_|refine rY zaA ?_|refine rW ?_)
  refine yfA s9 s10 g c g3 c3 n mx bt i (h i).bad (h3 i).bad hlt hF2 c2 d2 fun f hF q118=>?_
  clear hF2 q107 f2;obtain⟨g9,g10,g11,g13,g15,g16,g17⟩:=hF;by_cases hm:i=mi
  ·have hless:=hst.less;have hmost:=hst.most;rw[←Hmx.out,←hm]at hmost;rw[←hm]at hless;obtain⟨b3,hb3⟩:∃ b3,b3=(h3 i).bad:=⟨_,rfl⟩;rw[hmost]at c2 hless hbi q118;rw[←hb3]at d2 hless q118;have hneI:¬((b3:Nat):Int)=((mx:Nat):Int):=by omega
   have hsubI:((mx:Nat):Int) - 1=((b3:Nat):Int):=by omega
   have hne:¬b3=mx:=by omega
   have HB2:Hid (bt+1=if mi<i+1 then 1 else 0):=hide (by rw[HB.out,if_neg (by omega),if_pos (by omega)])
   have hbt2:bt+1≤1:=by
    have:bt=0:=by rw[HB.out,if_neg (by omega)]
    omega
   rw[decide_eq_true hne]at q118;clear hmost hless hb3 hm;repeat (first|refine rQ rfl ?_|refine rY zaA ?_|refine rW ?_)
   (refine zaB (t:=true) (by simp[Act.eval,q118]) ?_;simp only[if_true,if_false,reduceIte,Bool.false_eq_true]);repeat (first|refine rQ rfl ?_|(refine rO zaA rfl ?_;intro _ hu_ K_ hK_;(have hc:=(Ext.twin hu_).cell c2;have hc2:=(Ext.twin hu_).cell d2);go_simp;(try rw[wI _]);(try rw[wU _]);refine hK_ _ ?_;clear hK_ K_ hu_;simp only[sS,sN])|refine rW ?_)
   (refine zaB (t:=false) (by simp[Act.eval]) ?_;simp only[if_true,if_false,reduceIte,Bool.false_eq_true]);repeat (first|refine rQ rfl ?_|refine rY zaA ?_|refine rW ?_)
   refine nxt _ _ _ (n - (i+1)) (by omega) ⟨i+1,bt+1,rfl,by omega,rfl,rfl,HB2,hbt2,by simp[g9],by simp[g10],by simp[g11],by simp[g13],by simp[g15],by simp,by simp⟩
  ·have hsame:=hst.same i hlt hm;have HB2:Hid (bt=if mi<i+1 then 1 else 0):=hide (by rw[HB.out];simp only[show(mi<i+1)↔mi<i by omega])
   rw[hsame,decide_eq_false (fun q=>q rfl)]at q118;clear hsame;repeat (first|refine rQ rfl ?_|refine rY zaA ?_|refine rW ?_)
   (refine zaB (t:=false) (by simp[Act.eval,q118]) ?_;simp only[if_true,if_false,reduceIte,Bool.false_eq_true]);repeat (first|refine rQ rfl ?_|refine rY zaA ?_|refine rW ?_)
   refine nxt _ _ _ (n - (i+1)) (by omega) ⟨i+1,bt,rfl,by omega,rfl,rfl,HB2,hbt,by simp[g9],by simp[g10],by simp[g11],by simp[g13],by simp[g15],by simp[g16],by simp⟩
 ·obtain rfl:i=n:=by omega
  have hb1:bt=1:=by rw[HB.out,if_pos hst.lt]
  (refine zaB (t:=false) (by simp[Act.eval,g17,g15]) ?_;simp only[if_true,if_false,reduceIte,Bool.false_eq_true]);refine zaK rfl ?_;refine next _ (by simp[g16,hb1]) (by simp[g9]) (by simp[g10]) (by simp[g15])
end
end Go.Proofs.YtpiefebngnlfoabGreatDoor
