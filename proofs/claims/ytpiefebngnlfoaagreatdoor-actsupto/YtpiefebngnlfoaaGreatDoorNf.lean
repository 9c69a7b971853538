import Derived.Test.YtpiefebngnlfoaaGreatDoorNa
set_option maxRecDepth 99999
set_option maxHeartbeats 0
set_option linter.unusedVariables false
set_option linter.unusedSimpArgs false
namespace Go.Proofs.YtpiefebngnlfoaaGreatDoor
open Go.RowKit Go.Conc Go.Vw
theorem Va{S:Nat->Prop}{v:World}{f:Nat->Value}{Stop:Goroutine->(Nat->Prop)->World->Prop}{cs:List Frame}{k0:List Item}(W g nb cb E len cap B i k j:Nat)(hi:i<nb)(eu:nb<1099511627776)(hk:k<4)(hj:j<len)(hl:len<=1000)(f0:f 0=.pointer (some ⟨W,3,none⟩))(f3:f 3=.int .i64 (k:Nat))(f4:f 8=.int .i64 (i:Nat))(f5:f 9=.int .i64 (j:Nat))
  (h0:v.cell? ⟨W,5,none⟩=some (.slice (some ⟨g,0,none⟩) nb cb)) (h1:v.cell? ⟨g,i,none⟩=some (.slice (some ⟨E,0,none⟩) 4 4)) (h2:v.cell? ⟨E,k,none⟩=some (.slice (some ⟨B,0,none⟩) len cap)) (h3:v.cell? ⟨B,j*3,none⟩=some (zH i))
  (next:∀f':Nat->Value,f' 0=f 0->f' 3=f 3->f' 8=f 8->f' 9=f 9->f' 155=.bool false->Vw.Reach Tryz.prog Stop (G ((base 11).at ⟨TA 214 f',[]⟩ k0) cs) S v) :
  Vw.Reach Tryz.prog Stop (G ((base 11).at ⟨TA 214 f,[]⟩ (.code (.region 26 ((bM 26 (Tryz.f11.body.getD .skip)).getD #[]) false)::k0)) cs) S v:=by
 have pd:(i:Int)<(nb:Int):=by omega
 have ll:(k:Int)<4:=by omega
 have ja:(j:Int)<(len:Int):=by omega
 unfold zH at h3;have e:bM 26 (Tryz.f11.body.getD .skip)=some _:=rfl;rw[e];simp only[ao];clear e;repeat refine rM h0 ?_
 repeat refine rM h1 ?_
 repeat refine rM h2 ?_
 repeat refine rM h3 ?_
 exact next _ (by simp) (by simp) (by simp) (by simp) (by simp)
theorem Zt{S:Nat->Prop}{v:World}{f:Nat->Value}{Stop:Goroutine->(Nat->Prop)->World->Prop}{cs:List Frame}{k0:List Item}{N W k:Nat}{x:Nat->Sx}{T:Nat->List It}{G0:Wv}(hm:Wm N W x T G0 v)(eu:G0.h<1099511627776)(hk:k<4)(f0:f 0=.pointer (some ⟨W,3,none⟩))(f3:f 3=.int .i64 (k:Nat))(f4:f 8=.int .i64 0)
  (next:∀f':Nat->Value,f' 0=.pointer (some ⟨W,3,none⟩)->f' 3=.int .i64 (k:Nat)->Vw.Reach Tryz.prog Stop (G ((base 11).at ⟨TA 214 f',[]⟩ k0) cs) S v) :
  Vw.Reach Tryz.prog Stop (G ((base 11).at ⟨TA 214 f,[]⟩ (.code (gU 5 (Tryz.f11.body.getD .skip))::.inBlock 10::k0)) cs) S v:=by
 have e:gU 5 (Tryz.f11.body.getD .skip)=.loop _:=rfl;rw[e];clear e;have mq:v.cell? ⟨W,5,none⟩=some G0.hv:=(ab _ W 5 _ _ _ hm.row).trans rfl;have hL:=hm.h;generalize G0.h=nb at *
 generalize G0.hv=bv at *
 refine bF (λd f' S' v'=>∃i,d=nb-i∧i<=nb∧S'=S∧v'=v∧f' 0=.pointer (some ⟨W,3,none⟩)∧f' 3=.int .i64 (k:Nat)∧f' 8=.int .i64 (i:Nat)) nb ⟨0,by omega,by omega,rfl,rfl,f0,f3,f4⟩ ?_;clear f0 f3 f4 f;rintro d f S' v' ⟨i,rfl,hi,eS,eV,g0,g3,g4⟩ dj;subst S' v';by_cases dp:i<nb
 .have pd:(i:Int)<(nb:Int):=by omega
  have ll:(k:Int)<4:=by omega
  obtain⟨g,cb,E,p,len,cap,h1,h2,h3,h4,h5⟩:=hL.ent dp hk;rw[h1]at mq;repeat refine rM mq ?_
  refine rX (by simp[Act.eval,pd,dp]) ?_;repeat refine rN ?_
  refine bF (λd f' S' v'=>∃j,d=len-j∧j<=len∧S'=S∧v'=v∧f' 0=.pointer (some ⟨W,3,none⟩)∧f' 3=.int .i64 (k:Nat)∧f' 8=.int .i64 (i:Nat)∧f' 9=.int .i64 (j:Nat)) len ⟨0,by omega,by omega,rfl,rfl,by simp[g0],by simp[g3],by simp[g4],by simp⟩ ?_;clear g0 g3 g4 f;rintro d f S' v' ⟨j,rfl,hj,eS,eV,g0,g3,g4,g5⟩ gj;subst S' v';repeat refine rM mq ?_
  repeat refine rM h2 ?_
  repeat refine rM h3 ?_
  by_cases DI:j<len
  .have ja:(j:Int)<(len:Int):=by omega
   obtain⟨B,b1,b2⟩:=h5 j DI;subst b1;refine rX (by simp[Act.eval,ja,DI]) ?_;repeat (first|refine rA ?_|refine rB ?_|refine rC ?_|refine rD ?_)
   refine Va W g nb cb E len cap B i k j dp eu hk DI h4 (by simp[g0]) (by simp[g3]) (by simp[g4]) (by simp[g5]) mq h2 h3 b2 λf' e0 e3 e4 e5 UL=>?_
   have q5:f' 9=.int .i64 (j:Nat):=by rw[e5];simp[g5]
   refine rZ (by simp[Act.eval,UL]) ?_;repeat refine rN ?_
   refine gj _ _ _ (len-(j+1)) (by omega) ⟨j+1,rfl,by omega,rfl,rfl,by simp[e0,g0],by simp[e3,g3],by simp[e4,g4],by simp⟩
  .obtain rfl:j=len:=by omega
   refine rZ (by simp[Act.eval,g5]) ?_;refine bC rfl ?_;repeat refine rN ?_
   refine dj _ _ _ (nb-(i+1)) (by omega) ⟨i+1,rfl,by omega,rfl,rfl,by simp[g0],by simp[g3],by simp⟩
 .obtain rfl:i=nb:=by omega
  obtain⟨pb,cb,EB⟩:=hL.form;rw[EB]at mq;repeat refine rM mq ?_
  refine rZ (by simp[Act.eval,g4]) ?_;refine bC rfl ?_;exact next _ (by simp[g0]) (by simp[g3])
