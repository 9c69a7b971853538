import Derived.Test.YtpiefebngnlfoaaGreatDoorNq
import Derived.Test.YtpiefebngnlfoaaGreatDoorNr
set_option maxRecDepth 99999
set_option maxHeartbeats 0
set_option linter.unusedVariables false
set_option linter.unusedSimpArgs false
namespace Go.Proofs.YtpiefebngnlfoaaGreatDoor
open Go.RowKit Go.Conc Go.Vw
section
variable {N W:Nat}{v w w0:World}{S:Nat->Prop}
theorem R3{f:Nat->Value}{Stop:Goroutine->(Nat->Prop)->World->Prop}{cs:List Frame}{k0:List Item}{t:TypeId}{e:Value}{x0:Nat->Sx}{T0:Nat->List It}{G0:Wv}(p:Option Addr)(L cap:Nat)(A:Nat->Opp)(hL:L<=1048576)(tz:Gl N t e w0)(DZ:Wd N W (42*L) 1 0 x0 T0 G0 w0)(NM:lR N w0 p L A)
  (f2:f 2=.slice p L cap) (f7:f 7=.pointer (some ⟨W,0,none⟩)) (f12:f 12=.bool true) (f13:f 13=.int .i64 0)
  (next:∀f' S' w' x T g,Wd N W 0 (1+L) L x T g w'->Fr N w0 w'->f' 7=.pointer (some ⟨W,0,none⟩)->f' 12=.bool true->Vw.Reach Tryz.prog Stop (G ((base 3).at ⟨TA 155 f',[]⟩ k0) cs) S' w') :
  Vw.Reach Tryz.prog Stop (G ((base 3).at ⟨TA 155 f,[]⟩ (.code (gU 1 (Tryz.f3.body.getD .skip))::.inBlock 2::k0)) cs) S w0:=by
 have e0:gU 1 (Tryz.f3.body.getD .skip)=.loop _:=rfl;rw[e0];clear e0;refine bF (λd f' S' w=>∃i x T g,d=L-i∧i<=L∧Wd N W (42*(L-i)) (1+i) i x T g w∧Fr N w0 w∧f' 2=.slice p L cap∧f' 7=.pointer (some ⟨W,0,none⟩)∧f' 12=.bool true∧f' 13=.int .i64 (i:Nat)) L ⟨0,x0,T0,G0,by omega,by omega,DZ,.refl _ _,f2,f7,f12,f13⟩ ?_;clear f2 f7 f12 f13 DZ f;rintro d f S' w ⟨i,x,T,g,rfl,hi,hd,pw,g2,g7,g12,g13⟩ dj;by_cases dp:i<L
 .have pd:(i:Int)<(L:Int):=by omega
  obtain⟨⟨B,off,hp,hBN,MQ⟩,dx⟩:=NM.fr pw i dp;subst hp;have ni:=tz.fr pw;repeat refine rN ?_
  refine rX (by simp[Act.eval,pd,dp]) ?_;repeat refine rN ?_
  refine bV (x:=.agg (A i).agg) aB rfl rfl (by kernel_rfl) (λu hu=>Qb (b:=B) (off:=off+i*4) (x:=.tmp 93) rfl (by simp) λk y hk=>(Ext.twin hu).cell (MQ k y hk)) ?_
  simp only[stO_some];repeat refine rN ?_
  refine rK Tryz.func10 (Xc (n:=42*(L-(i+1))) (A i) ni (by rw[show 42*(L-(i+1))+42=42*(L-i) by omega];exact hd) dx (by omega) (by omega) (by omega)) ?_;rintro _ S2 w2 _ ⟨rfl,x',T',g',qh,pe⟩;have H_:=qh.cnt;repeat refine rN ?_
  refine rK Tryz.func11 (Gu qh.mem (by omega) (by omega) (by omega)) ?_;rintro _ S3 w3 _ ⟨rfl,e1,e2⟩;subst S3 w3;repeat refine rN ?_
  refine dj _ _ _ (L-(i+1)) (by omega) ⟨i+1,x',T',g',rfl,by omega,by rw[show 1+(i+1)=1+i+1 by omega];exact qh,pw.trans pe,by simp[g2],by simp[g7],by simp,by simp⟩
 .obtain rfl:i=L:=by omega
  rw[Nat.sub_self,Nat.mul_zero]at hd;repeat refine rN ?_
  refine rZ (by simp[Act.eval,g13,g2]) ?_;refine bC rfl ?_;exact next _ _ _ x T g hd pw (by simp[g7]) (by simp[g12])
theorem R5{f:Nat->Value}{Stop:Goroutine->(Nat->Prop)->World->Prop}{cs:List Frame}{k0:List Item}{t:TypeId}{e:Value}{x:Nat->Sx}{T:Nat->List It}{G0:Wv}{m q k:Nat}(hk:k<2)(hm:m<9223372036854775000)(hq:q<1099511627000)(tz:Gl N t e w0)(DZ:Wd N W 0 m q x T G0 w0)
  (f7:f 7=.pointer (some ⟨W,0,none⟩)) (f12:f 12=.bool true) (f15:f 15=.int .i64 (k:Nat)) (f16:f 16=.int .i64 0)
  (next:∀f' S' w' g,Wd N W 0 m (q+21) x T g w'->Fr N w0 w'->f' 7=.pointer (some ⟨W,0,none⟩)->f' 12=.bool true->f' 15=.int .i64 (k:Nat)->Vw.Reach Tryz.prog Stop (G ((base 3).at ⟨TA 155 f',[]⟩ k0) cs) S' w') :
  Vw.Reach Tryz.prog Stop (G ((base 3).at ⟨TA 155 f,[]⟩ (.code (gU 3 (Tryz.f3.body.getD .skip))::.inBlock 6::k0)) cs) S w0:=by
 have e0:gU 3 (Tryz.f3.body.getD .skip)=.loop _:=rfl;rw[e0];clear e0;have FM:=(DZ.st k hk).tl;refine bF (λd f' S' w=>∃i g,d=(T k).length-i∧i<=(T k).length∧Wd N W 0 m (q+i) x T g w∧Fr N w0 w∧f' 7=.pointer (some ⟨W,0,none⟩)∧f' 12=.bool true∧f' 15=.int .i64 (k:Nat)∧f' 16=.int .i64 (i:Nat)) (T k).length ⟨0,G0,by omega,by omega,DZ,.refl _ _,f7,f12,f15,f16⟩ ?_;clear f7 f12 f15 f16 DZ f;rintro d f S' w ⟨i,g,rfl,hi,hd,pw,g7,g12,g15,g16⟩ dj;have ll:(k:Int)<2:=by omega
 obtain⟨bl,cl,_,el,ml,lc,_,_,lk⟩:=hd.mem.lC;have lk:=lk k hk;obtain⟨Q,qq,hQ⟩:=hd.mem.k k hk;have yj:Q.length=(T k).length:=by rw[<-qq,bz]
 obtain⟨pv,cv,tg⟩:=hQ.form;rw[yj]at tg;by_cases dp:i<(T k).length
 .have pd:(i:Int)<((T k).length:Int):=by omega
  obtain⟨q0,CS⟩:∃q0,Q[i]?=some q0:=⟨_,List.getElem?_eq_getElem (by omega)⟩;obtain⟨ga,ca,ea,la,zk,_⟩:=hQ.get CS;rw[yj]at ea la;rw[ea]at lk;clear tg qq yj ea;have ni:=tz.fr pw;generalize YG:(T k).length=ql at *
  repeat refine rM lc ?_
  repeat refine rM lk ?_
  refine rX (by simp[Act.eval,pd,dp]) ?_;repeat refine rM lc ?_
  repeat refine rM lk ?_
  repeat refine rM zk ?_
  refine rK Tryz.func12 (Hy _ hd hk (by omega) (by omega) ni.glob) ?_;rintro _ S2 w2 _ ⟨rfl,g',qh,pe⟩;repeat refine rN ?_
  refine dj _ _ _ (ql-(i+1)) (by omega) ⟨i+1,g',rfl,by omega,qh,pw.trans pe,by simp[g7],by simp,by simp[g15],by simp⟩
 .obtain rfl:i=(T k).length:=by omega
  rw[tg]at lk;have qh:=hd.le (n':=0) (m':=m) (q':=q+21) (ae _) (ae _) (by omega);clear tg qq yj;repeat refine rM lc ?_
  repeat refine rM lk ?_
  refine rZ (by simp[Act.eval,g16]) ?_;refine bC rfl ?_;exact next _ _ _ g qh pw (by simp[g7]) (by simp[g12]) (by simp[g15])
end
