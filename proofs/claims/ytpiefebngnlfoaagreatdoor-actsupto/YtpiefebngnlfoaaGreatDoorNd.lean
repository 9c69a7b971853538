import Derived.Test.YtpiefebngnlfoaaGreatDoorNa
set_option maxRecDepth 99999
set_option maxHeartbeats 0
set_option linter.unusedVariables false
set_option linter.unusedSimpArgs false
namespace Go.Proofs.YtpiefebngnlfoaaGreatDoor
open Go.RowKit Go.Conc Go.Vw
theorem Vb{S:Nat->Prop}{v:World}{f:Nat->Value}{Stop:Goroutine->(Nat->Prop)->World->Prop}{cs:List Frame}{k0:List Item}(W g nb cb E len cap B i k j:Nat)(hi:i<nb)(eu:nb<1099511627776)(hk:k<4)(hj:j<len)(hl:len<=1000)(f0:f 0=.pointer (some ⟨W,3,none⟩))(f3:f 3=.int .i64 (k:Nat))(f4:f 4=.int .i64 (i:Nat))(f5:f 5=.int .i64 (j:Nat))
  (h0:v.cell? ⟨W,3,none⟩=some (.slice (some ⟨g,0,none⟩) nb cb)) (h1:v.cell? ⟨g,i,none⟩=some (.slice (some ⟨E,0,none⟩) 4 4)) (h2:v.cell? ⟨E,k,none⟩=some (.slice (some ⟨B,0,none⟩) len cap)) (h3:v.cell? ⟨B,j,none⟩=some (zB i))
  (next:∀f':Nat->Value,f' 0=f 0->f' 3=f 3->f' 4=f 4->f' 5=f 5->f' 55=.bool false->Vw.Reach Tryz.prog Stop (G ((base 11).at ⟨TA 214 f',[]⟩ (.inRegion ((bM 10 (Tryz.f11.body.getD .skip)).getD #[]) []::k0)) cs) S v) :
  Vw.Reach Tryz.prog Stop (G ((base 11).at ⟨TA 214 f,[]⟩ (.code (.region 10 ((bM 10 (Tryz.f11.body.getD .skip)).getD #[]) true)::k0)) cs) S v:=by
 have pd:(i:Int)<(nb:Int):=by omega
 have ll:(k:Int)<4:=by omega
 have ja:(j:Int)<(len:Int):=by omega
 have aI:=Hv i;unfold zB at h3;have e:bM 10 (Tryz.f11.body.getD .skip)=some _:=rfl;rw[e]at next⊢
 simp only[ao]at next⊢
 clear e;refine oA aB (by first|kernel_rfl|rfl) ?_
 simp only[bh,av,cf,Nat.reduceAdd,an];refine rU 0 ?_;refine rU 1 ?_;refine rU 2 ?_;co_applyP rT (i:=3) rfl (λ_ dt=>run_eq_of ?u2) ?v2
 case u2=>intro K_ dr;(have hc:=(Ext.twin dt).cell h0);go_simp;(try rw[wI _]);(try rw[wU _]);exact dr
 simp only[sS,sN];refine rU 4 ?_;refine rU 5 ?_;co_applyP rT (i:=6) rfl (λ_ dt=>run_eq_of ?u4) ?v4
 case u4=>intro K_ dr;(have hc:=(Ext.twin dt).cell h1);go_simp;(try rw[wI _]);(try rw[wU _]);exact dr
 simp only[sS,sN];refine rU 7 ?_;refine rU 8 ?_;co_applyP rT (i:=9) rfl (λ_ dt=>run_eq_of ?u6) ?v6
 case u6=>intro K_ dr;(have hc:=(Ext.twin dt).cell h2);go_simp;(try rw[wI _]);(try rw[wU _]);exact dr
 simp only[sS,sN];refine rU 10 ?_;refine rU 11 ?_;co_applyP rT (i:=12) rfl (λ_ dt=>run_eq_of ?u8) ?v8
 case u8=>intro K_ dr;(have hc:=(Ext.twin dt).cell h3);go_simp;(try rw[wI _]);(try rw[wU _]);exact dr
 simp only[sS,sN];refine rU 13 ?_;co_applyP xO (i:=14) rfl (by first|kernel_rfl|decide +kernel) (by first|kernel_rfl|decide +kernel) (by first|kernel_rfl|decide +kernel) (.inl ⟨(by first|rfl|(simp[Region.wanted,yielded,eC, *];done)),.inr ⟨_,_,_,_,_,rfl,Tryz.func35,(by kernel_rfl),rfl,?run10⟩⟩) ?rest10
 case run10=>
  simp[Act.eval, *];exact tW i (by omega)
 simp only[stO_some,stO_none];refine rU 15 ?_;refine oH (by first|kernel_rfl|decide +kernel) ?_ _
 exact next _ (by simp) (by simp) (by simp) (by simp) (by simp)
theorem Zu{S:Nat->Prop}{v:World}{f:Nat->Value}{Stop:Goroutine->(Nat->Prop)->World->Prop}{cs:List Frame}{k0:List Item}{N W k:Nat}{x:Nat->Sx}{T:Nat->List It}{G0:Wv}(hm:Wm N W x T G0 v)(eu:G0.b<1099511627776)(hk:k<4)(f0:f 0=.pointer (some ⟨W,3,none⟩))(f3:f 3=.int .i64 (k:Nat))(f4:f 4=.int .i64 0)
  (next:∀f':Nat->Value,f' 0=.pointer (some ⟨W,3,none⟩)->f' 3=.int .i64 (k:Nat)->Vw.Reach Tryz.prog Stop (G ((base 11).at ⟨TA 214 f',[]⟩ k0) cs) S v) :
  Vw.Reach Tryz.prog Stop (G ((base 11).at ⟨TA 214 f,[]⟩ (.code (gU 1 (Tryz.f11.body.getD .skip))::.inBlock 2::k0)) cs) S v:=by
 have e:gU 1 (Tryz.f11.body.getD .skip)=.loop _:=rfl;rw[e];clear e;have mq:v.cell? ⟨W,3,none⟩=some G0.bv:=(ab _ W 3 _ _ _ hm.row).trans rfl;have hL:=hm.b;generalize G0.b=nb at *
 generalize G0.bv=bv at *
 refine bF (λd f' S' v'=>∃i,d=nb-i∧i<=nb∧S'=S∧v'=v∧f' 0=.pointer (some ⟨W,3,none⟩)∧f' 3=.int .i64 (k:Nat)∧f' 4=.int .i64 (i:Nat)) nb ⟨0,by omega,by omega,rfl,rfl,f0,f3,f4⟩ ?_;clear f0 f3 f4 f;rintro d f S' v' ⟨i,rfl,hi,eS,eV,g0,g3,g4⟩ dj;subst S' v';by_cases dp:i<nb
 .have pd:(i:Int)<(nb:Int):=by omega
  have ll:(k:Int)<4:=by omega
  obtain⟨g,cb,E,p,len,cap,h1,h2,h3,h4,h5⟩:=hL.ent dp hk;rw[h1]at mq;repeat refine rM mq ?_
  refine rX (by simp[Act.eval,pd,dp]) ?_;repeat refine rN ?_
  refine bF (λd f' S' v'=>∃j,d=len-j∧j<=len∧S'=S∧v'=v∧f' 0=.pointer (some ⟨W,3,none⟩)∧f' 3=.int .i64 (k:Nat)∧f' 4=.int .i64 (i:Nat)∧f' 5=.int .i64 (j:Nat)) len ⟨0,by omega,by omega,rfl,rfl,by simp[g0],by simp[g3],by simp[g4],by simp⟩ ?_;clear g0 g3 g4 f;rintro d f S' v' ⟨j,rfl,hj,eS,eV,g0,g3,g4,g5⟩ gj;subst S' v';repeat refine rM mq ?_
  repeat refine rM h2 ?_
  repeat refine rM h3 ?_
  by_cases DI:j<len
  .have ja:(j:Int)<(len:Int):=by omega
   obtain⟨B,b1,b2⟩:=h5 j DI;subst b1;refine rX (by simp[Act.eval,ja,DI]) ?_;repeat refine rN ?_
   rw[Nat.mul_one]at b2;refine Vb W g nb cb E len cap B i k j dp eu hk DI h4 (by simp[g0]) (by simp[g3]) (by simp[g4]) (by simp[g5]) mq h2 h3 b2 λf' e0 e3 e4 e5 UL=>?_
   have q5:f' 5=.int .i64 (j:Nat):=by rw[e5];simp[g5]
   repeat refine rN ?_
   refine rZ (by simp[Act.eval,UL]) ?_;repeat refine rN ?_
   refine gj _ _ _ (len-(j+1)) (by omega) ⟨j+1,rfl,by omega,rfl,rfl,by simp[e0,g0],by simp[e3,g3],by simp[e4,g4],by simp⟩
  .obtain rfl:j=len:=by omega
   refine rZ (by simp[Act.eval,g5]) ?_;refine bC rfl ?_;repeat refine rN ?_
   refine dj _ _ _ (nb-(i+1)) (by omega) ⟨i+1,rfl,by omega,rfl,rfl,by simp[g0],by simp[g3],by simp⟩
 .obtain rfl:i=nb:=by omega
  obtain⟨pb,cb,EB⟩:=hL.form;rw[EB]at mq;repeat refine rM mq ?_
  refine rZ (by simp[Act.eval,g4]) ?_;refine bC rfl ?_;exact next _ (by simp[g0]) (by simp[g3])
