import Derived.Test.YtpiefebngnlfoaaGreatDoorNa
set_option maxRecDepth 99999
set_option maxHeartbeats 0
set_option linter.unusedVariables false
set_option linter.unusedSimpArgs false
namespace Go.Proofs.YtpiefebngnlfoaaGreatDoor
open Go.RowKit Go.Conc Go.Vw
theorem Nl{o:Oper}{a:Act}{x:Operand}{s:ByteArray}{m:Nat}{u:World}(dm:o.op=.index 9 x (.const (.int .i64 0)))(hx:a.eval x=.string s)(h0:s[0]?=some (UInt8.ofNat m))(hm:m<256):(execOp a.eval o).run Tryz.prog u=.ok (.value (.int .u8 ((m:Nat):Int))) u:=by
 have e:((UInt8.ofNat m).toNat:Int)=(m:Int):=by rw[UInt8.toNat_ofNat'];omega
 have e2:(m:Int)%256=(m:Int):=by omega
 have hc:a.eval (.const (.int .i64 0))=.int .i64 0:=rfl;simp[execOp,dm,hx,hc,Instr.index,asIntOf,cw Tryz.underlying9,h0,e,e2]
theorem Uz{S:Nat->Prop}{v:World}{f:Nat->Value}{Stop:Goroutine->(Nat->Prop)->World->Prop}{cs:List Frame}{k0:List Item}(W g nb cb E len cap B i k j:Nat)(hi:i<nb)(eu:nb<1099511627776)(hk:k<4)(hj:j<len)(hl:len<=1000)(f0:f 0=.pointer (some ⟨W,3,none⟩))(f3:f 3=.int .i64 (k:Nat))(f4:f 10=.int .i64 (i:Nat))(f5:f 11=.int .i64 (j:Nat))
  (h0:v.cell? ⟨W,6,none⟩=some (.slice (some ⟨g,0,none⟩) nb cb)) (h1:v.cell? ⟨g,i,none⟩=some (.slice (some ⟨E,0,none⟩) 4 4)) (h2:v.cell? ⟨E,k,none⟩=some (.slice (some ⟨B,0,none⟩) len cap)) (h3:v.cell? ⟨B,j,none⟩=some (zT i))
  (next:∀f':Nat->Value,f' 0=f 0->f' 3=f 3->f' 10=f 10->f' 11=f 11->f' 213=.bool false->Vw.Reach Tryz.prog Stop (G ((base 11).at ⟨TA 214 f',[]⟩ (.inRegion ((bM 34 (Tryz.f11.body.getD .skip)).getD #[]) []::k0)) cs) S v) :
  Vw.Reach Tryz.prog Stop (G ((base 11).at ⟨TA 214 f,[]⟩ (.code (.region 34 ((bM 34 (Tryz.f11.body.getD .skip)).getD #[]) true)::k0)) cs) S v:=by
 have pd:(i:Int)<(nb:Int):=by omega
 have ll:(k:Int)<4:=by omega
 have ja:(j:Int)<(len:Int):=by omega
 have aI:=Hv i;obtain⟨s,hs,jg,xr⟩:∃s,zT i=.string s∧s.size=1∧s[0]?=some (UInt8.ofNat (iM i)):=⟨_,rfl,rfl,rfl⟩;rw[hs]at h3;clear hs;have e:bM 34 (Tryz.f11.body.getD .skip)=some _:=rfl;rw[e]at next⊢
 simp only[ao]at next⊢
 clear e;refine oA aB (by first|kernel_rfl|rfl) ?_
 simp only[bh,av,cf,Nat.reduceAdd,an];refine rU 0 ?_;refine rU 1 ?_;refine rU 2 ?_;co_applyP rT (i:=3) rfl (λ_ dt=>run_eq_of ?u2) ?v2
 case u2=>intro K_ dr;(have hc:=(Ext.twin dt).cell h0);go_simp;(try rw[wI _]);(try rw[wU _]);exact dr
 simp only[sS,sN];refine rU 4 ?_;refine rU 5 ?_;co_applyP rT (i:=6) rfl (λ_ dt=>run_eq_of ?u4) ?v4
 case u4=>intro K_ dr;(have hc:=(Ext.twin dt).cell h1);go_simp;(try rw[wI _]);(try rw[wU _]);exact dr
 simp only[sS,sN];refine rU 7 ?_;refine rU 8 ?_;co_applyP rT (i:=9) rfl (λ_ dt=>run_eq_of ?u6) ?v6
 case u6=>intro K_ dr;(have hc:=(Ext.twin dt).cell h2);go_simp;(try rw[wI _]);(try rw[wU _]);exact dr
 simp only[sS,sN];refine rU 10 ?_;refine rU 11 ?_;co_applyP rT (i:=12) rfl (λ_ dt=>run_eq_of ?u8) ?v8
 case u8=>intro K_ dr;(have hc:=(Ext.twin dt).cell h3);go_simp;(try rw[wI _]);(try rw[wU _]);exact dr
 simp only[sS,sN];refine rU 13 ?_;refine rU 14 ?_;refine rU 15 ?_;refine rU 16 ?_;refine rU 17 ?_;refine rU 18 ?_;co_applyP rT (i:=19) rfl (λ_ dt=>run_eq_of ?u10) ?v10
 case u10=>intro K_ dr;(have hc:=(Ext.twin dt).cell h0);go_simp;(try rw[wI _]);(try rw[wU _]);exact dr
 simp only[sS,sN];refine rU 20 ?_;refine rU 21 ?_;co_applyP rT (i:=22) rfl (λ_ dt=>run_eq_of ?u12) ?v12
 case u12=>intro K_ dr;(have hc:=(Ext.twin dt).cell h1);go_simp;(try rw[wI _]);(try rw[wU _]);exact dr
 simp only[sS,sN];refine rU 23 ?_;refine rU 24 ?_;co_applyP rT (i:=25) rfl (λ_ dt=>run_eq_of ?u14) ?v14
 case u14=>intro K_ dr;(have hc:=(Ext.twin dt).cell h2);go_simp;(try rw[wI _]);(try rw[wU _]);exact dr
 simp only[sS,sN];refine rU 26 ?_;refine rU 27 ?_;co_applyP rT (i:=28) rfl (λ_ dt=>run_eq_of ?u16) ?v16
 case u16=>intro K_ dr;(have hc:=(Ext.twin dt).cell h3);go_simp;(try rw[wI _]);(try rw[wU _]);exact dr
 simp only[sS,sN];refine rT (i:=29) (x:=.int .u8 ((iM i:Nat):Int)) rfl (λu hu=>Nl (s:=s) (x:=.tmp 208) rfl (by simp) xr aI) ?_;simp only[sS,sN];refine rU 30 ?_;co_applyP xO (i:=31) rfl (by first|kernel_rfl|decide +kernel) (by first|kernel_rfl|decide +kernel) (by first|kernel_rfl|decide +kernel) (.inl ⟨(by first|rfl|(simp[Region.wanted,yielded,eC, *];done)),.inr ⟨_,_,_,_,_,rfl,Tryz.func35,(by kernel_rfl),rfl,?run18⟩⟩) ?rest18
 case run18=>
  simp[Act.eval, *];exact tW i (by omega)
 simp only[stO_some,stO_none];refine rU 32 ?_;refine rU 33 ?_;refine oH (by first|kernel_rfl|decide +kernel) ?_ _
 exact next _ (by simp) (by simp) (by simp) (by simp) (by simp)
theorem Zs{S:Nat->Prop}{v:World}{f:Nat->Value}{Stop:Goroutine->(Nat->Prop)->World->Prop}{cs:List Frame}{k0:List Item}{N W k:Nat}{x:Nat->Sx}{T:Nat->List It}{G0:Wv}(hm:Wm N W x T G0 v)(eu:G0.t<1099511627776)(hk:k<4)(f0:f 0=.pointer (some ⟨W,3,none⟩))(f3:f 3=.int .i64 (k:Nat))(f4:f 10=.int .i64 0)
  (next:∀f':Nat->Value,f' 0=.pointer (some ⟨W,3,none⟩)->f' 3=.int .i64 (k:Nat)->Vw.Reach Tryz.prog Stop (G ((base 11).at ⟨TA 214 f',[]⟩ k0) cs) S v) :
  Vw.Reach Tryz.prog Stop (G ((base 11).at ⟨TA 214 f,[]⟩ (.code (gU 7 (Tryz.f11.body.getD .skip))::.inBlock 14::k0)) cs) S v:=by
 have e:gU 7 (Tryz.f11.body.getD .skip)=.loop _:=rfl;rw[e];clear e;have mq:v.cell? ⟨W,6,none⟩=some G0.tv:=(ab _ W 6 _ _ _ hm.row).trans rfl;have hL:=hm.t;generalize G0.t=nb at *
 generalize G0.tv=bv at *
 refine bF (λd f' S' v'=>∃i,d=nb-i∧i<=nb∧S'=S∧v'=v∧f' 0=.pointer (some ⟨W,3,none⟩)∧f' 3=.int .i64 (k:Nat)∧f' 10=.int .i64 (i:Nat)) nb ⟨0,by omega,by omega,rfl,rfl,f0,f3,f4⟩ ?_;clear f0 f3 f4 f;rintro d f S' v' ⟨i,rfl,hi,eS,eV,g0,g3,g4⟩ dj;subst S' v';by_cases dp:i<nb
 .have pd:(i:Int)<(nb:Int):=by omega
  have ll:(k:Int)<4:=by omega
  obtain⟨g,cb,E,p,len,cap,h1,h2,h3,h4,h5⟩:=hL.ent dp hk;rw[h1]at mq;repeat refine rM mq ?_
  refine rX (by simp[Act.eval,pd,dp]) ?_;repeat refine rN ?_
  refine bF (λd f' S' v'=>∃j,d=len-j∧j<=len∧S'=S∧v'=v∧f' 0=.pointer (some ⟨W,3,none⟩)∧f' 3=.int .i64 (k:Nat)∧f' 10=.int .i64 (i:Nat)∧f' 11=.int .i64 (j:Nat)) len ⟨0,by omega,by omega,rfl,rfl,by simp[g0],by simp[g3],by simp[g4],by simp⟩ ?_;clear g0 g3 g4 f;rintro d f S' v' ⟨j,rfl,hj,eS,eV,g0,g3,g4,g5⟩ gj;subst S' v';repeat refine rM mq ?_
  repeat refine rM h2 ?_
  repeat refine rM h3 ?_
  by_cases DI:j<len
  .have ja:(j:Int)<(len:Int):=by omega
   obtain⟨B,b1,b2⟩:=h5 j DI;subst b1;refine rX (by simp[Act.eval,ja,DI]) ?_;repeat refine rN ?_
   rw[Nat.mul_one]at b2;refine Uz W g nb cb E len cap B i k j dp eu hk DI h4 (by simp[g0]) (by simp[g3]) (by simp[g4]) (by simp[g5]) mq h2 h3 b2 λf' e0 e3 e4 e5 UL=>?_
   have q5:f' 11=.int .i64 (j:Nat):=by rw[e5];simp[g5]
   repeat refine rN ?_
   refine rZ (by simp[Act.eval,UL]) ?_;repeat refine rN ?_
   refine gj _ _ _ (len-(j+1)) (by omega) ⟨j+1,rfl,by omega,rfl,rfl,by simp[e0,g0],by simp[e3,g3],by simp[e4,g4],by simp⟩
  .obtain rfl:j=len:=by omega
   refine rZ (by simp[Act.eval,g5]) ?_;refine bC rfl ?_;repeat refine rN ?_
   refine dj _ _ _ (nb-(i+1)) (by omega) ⟨i+1,rfl,by omega,rfl,rfl,by simp[g0],by simp[g3],by simp⟩
 .obtain rfl:i=nb:=by omega
  obtain⟨pb,cb,EB⟩:=hL.form;rw[EB]at mq;repeat refine rM mq ?_
  refine rZ (by simp[Act.eval,g4]) ?_;refine bC rfl ?_;exact next _ (by simp[g0]) (by simp[g3])
