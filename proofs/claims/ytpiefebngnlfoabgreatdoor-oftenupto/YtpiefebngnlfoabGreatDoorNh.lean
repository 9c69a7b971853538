import Derived.Test.YtpiefebngnlfoabGreatDoorNf
import Derived.Lib.ConvBytes
set_option maxRecDepth 99999
set_option maxHeartbeats 0
set_option linter.unusedVariables false
set_option linter.unusedSimpArgs false
namespace Go.Proofs.YtpiefebngnlfoabGreatDoor
open Go.RowKit Go.Conc Go.Vw
def lN(d d':ByteArray):Prop:=d'.size=d.size∧∃ at' W,W<4294967296∧∀ i,i<d.size->bI d' i=bI d i ^^^ aW (2 ^ at'*W) i
def pA(w:World)(p:Option Addr)(n:Nat)(bt:Nat->Bool):Prop:=∀ k,k<n->∃ B off,p=some ⟨B,off,none⟩∧w.cell? ⟨B,off+k,none⟩=some (.bool (bt k))
theorem pA.ext{w w':World}{p:Option Addr}{n:Nat}{bt:Nat->Bool}(h:pA w p n bt)(hE:Ext w w'):pA w' p n bt:=fun k hk=>by
 obtain⟨B,off,h1,h2⟩:=h k hk;exact⟨B,off,h1,hE.cell h2⟩
def eJ(bt:Nat->Bool):Nat->Nat
 |0=>0
 |k+1=>eJ bt k+if bt k=true then 2 ^ k else 0
theorem yV(bt:Nat->Bool):∀ k,eJ bt k<2 ^ k
 |0=>by simp[eJ]
 |k+1=>by
  have:=yV bt k;unfold eJ;rw[Nat.pow_succ];split<;>omega
theorem Yp{a k:Nat}(h:a<2 ^ k):a+2 ^ k=a ^^^ 2 ^ k:=by
 apply Nat.eq_of_testBit_eq;intro i;rw[Nat.testBit_xor,Nat.add_comm,show 2 ^ k+a=2 ^ k*1+a by omega,Nat.testBit_two_pow_mul_add _ h,Nat.testBit_two_pow];by_cases hi:i<k
 .rw[if_pos hi];have:¬k=i:=by omega
  simp[this]
 .rw[if_neg hi,Nat.testBit_lt_two_pow (x:=a) (Nat.lt_of_lt_of_le h (Nat.pow_le_pow_right (by omega) (by omega)))];by_cases e:k=i
  .subst e;simp
  .have h2:i - k≠0:=by omega
   obtain⟨m,hm⟩:=Nat.exists_eq_succ_of_ne_zero h2;simp[e,hm,Nat.testBit_succ]
theorem Xs(at' a b:Nat):2 ^ at'*(a ^^^ b)=2 ^ at'*a ^^^ 2 ^ at'*b:=by
 apply Nat.eq_of_testBit_eq;intro i;simp only[Nat.testBit_xor,Nat.testBit_two_pow_mul];cases decide (i ≥ at')<;>simp
theorem Pz(bt:Nat->Bool)(at' k i x:Nat)(hb:bt k=true):x ^^^ aW (2 ^ at'*eJ bt (k+1)) i=(x ^^^ aW (2 ^ at'*eJ bt k) i) ^^^ (if i=(at'+k) / 8 then 2 ^ ((at'+k) % 8) else 0):=by
 have e:eJ bt (k+1)=eJ bt k ^^^ 2 ^ k:=by
  show eJ bt k+(if bt k=true then 2 ^ k else 0)=_;rw[if_pos hb,Yp (yV bt k)]
 rw[e,Xs,<-Nat.pow_add,Pg,Pi,Nat.xor_assoc]
theorem Qa(bt:Nat->Bool)(k:Nat)(hb:bt k=false):eJ bt (k+1)=eJ bt k:=by
 show eJ bt k+(if bt k=true then 2 ^ k else 0)=eJ bt k;rw[hb];simp
section
variable {w w' v:World}{S:Nat->Prop}
theorem Lj{u:World}{o:Oper}{a:Act}{t t':TypeId}{x y:Operand}{g j:Nat}{old:Array Value}{z:Value}{fr:Nat×Nat}(hu:Vw.Twin w u)(hrow:w.heap[g]?=some (.cells old t' fr))(hj:j<old.size)(hfr:old.size<=fr.1)(hz:z.cells=#[z])(h1:z.oneCell'=true)
  (hop:o.op=.store t x y) (hx:a.eval x=.pointer (some ⟨g,j,none⟩)) (hy:a.eval y=z) (hs:(Tryz.prog.info? t).map (·.size)=some 1) :
  ∃ x w',((execOp a.eval o).run Tryz.prog u=.ok (.value x) w'∨((execOp a.eval o).run Tryz.prog u=.ok .skip w'∧x=undef))∧Wr w g (.cells (old.setIfInBounds j z) t' fr) w':=by
 have hr:=(Ext.twin hu).row hrow;have hc:u.cell? ⟨g,j,none⟩=some (old[j]):=by rw[cell_of_row u g j old t' fr hr];simp[hj]
 have hf:u.frozen? ⟨g,j,none⟩=false:=by
  obtain⟨lo,hi⟩:=fr;simp[World.frozen?,hr];intro h;simp only at hfr;omega
 obtain⟨inf,hq,hsz⟩:=Option.map_eq_some_iff.1 hs;have hadd:(⟨g,j,none⟩:Addr).add 0=⟨g,j,none⟩:=by unfold Addr.add;split<;>simp_all
 have hst:(store ⟨g,j,none⟩ z).run Tryz.prog u=.ok () (u.setCell ⟨g,j,none⟩ z):=by rw[run_store Tryz.prog u _ z _ h1,hc];simp[hf]
 refine⟨undef,u.setCell ⟨g,j,none⟩ z,.inr ⟨?_,rfl⟩,?_,fun b hb=>?_,?_,hu.os,hu.output⟩
 .unfold execOp;simp only[hop,hx,hy,Instr.storeAt,Instr.sureAddr];simp[storeVar,sizeOf,typeInfo,hq,hsz,hz,storeCells,hadd,hst]
 .show(u.heap.modify g _)[g]?=_;rw[Array.getElem?_modify,if_pos rfl,hr];rfl
 .show(u.heap.modify g _)[b]?=_;rw[Array.getElem?_modify,if_neg (Ne.symm hb),hu.heap]
 .show(u.heap.modify g _).size=_;rw[Array.size_modify,hu.heap]
theorem Pd{u:World}{o:Oper}{a:Act}{x:Operand}{d:ByteArray}(hu:Vw.Twin v u)(hop:o.op=.convert 9 48 x)(hx:a.eval x=.string d) :
  ∃ y w',((execOp a.eval o).run Tryz.prog u=.ok (.value y) w'∨((execOp a.eval o).run Tryz.prog u=.ok .skip w'∧y=undef))∧(Ext v w'∧∃ c C fr,y=.slice (some ⟨v.heap.size,0,none⟩) d.size c∧d.size<=c∧w'.heap[v.heap.size]?=some (.cells C 5 fr)∧d.size<=C.size∧C.size<=fr.1∧∀ i,i<d.size->C[i]?=some (.int .u8 (bI d i:Nat))):=by
 have hrun:=Lib.run_convert_string_bytes (P:=Tryz.prog) u 9 48 5 d Tryz.underlying9 Tryz.underlying48 Tryz.underlying5;have hcap:d.size<=grownCap u d.size 0 5:=grownCap_ge u d.size 0 5;have hnew:=Lib.bytesWorld_at_new u 5 d;have hdz:d.data.size=d.size:=rfl;refine⟨.slice (some ⟨u.heap.size,0,none⟩) d.size (grownCap u d.size 0 5),Lib.bytesWorld u 5 d,.inl ?_,⟨?_,fun b hb=>?_,?_,?_⟩,grownCap u d.size 0 5,Lib.bytesCells u 5 d,_,by rw[hu.heap],hcap,by rw[<-hu.heap];exact hnew,?_,Nat.le_refl _,fun i hi=>?_⟩
 .unfold execOp;simp only[hop,hx,Sem.run_bind,hrun,Result.andThen_ok,Sem.run_pure]
 .rw[Lib.bytesWorld_size,hu.heap];omega
 .rw[Lib.bytesWorld_at_old u 5 d b (by rw[hu.heap];exact hb),hu.heap]
 .exact hu.os
 .exact hu.output
 .simp[Lib.bytesCells,hdz]
 .have:i<d.data.size:=hi;simp[Lib.bytesCells,Array.getElem?_append,this,bI];rw[if_pos hi,Array.getElem?_eq_getElem this];rfl
theorem Ua(d:ByteArray)(frm:Int)(h1:-9223372036854775808<=frm)(h2:frm<=9223372036854775807)(p:Option Addr)(nb cap:Nat)(bt:Nat->Bool)(hnb:nb<2 ^ 62)(hB:pA v p nb bt)(hd1:96<=d.size)(hd2:d.size<=10000) :
  aI Tryz.prog 26 #[.string d,.int .i64 frm,.slice p nb cap] S v fun x S' v'=>S'=S∧Ext v v'∧∃ d',x=.string d'∧lN d d':=by
 refine jV Tryz.func26 rfl Tryz.ntmps26 fun Stop cc cs ret f g0 g1 g2=>?_
 obtain⟨n,hn⟩:∃ n,n=min nb 32:=⟨_,rfl⟩;have hn32:n<=32:=by omega
 have hnnb:n<=nb:=by omega
 repeat refine rN ?_
 refine Al (fun f' S' w'=>S'=S∧w'=v∧f' 0=.string d∧f' 1=.int .i64 frm∧f' 2=.slice p nb cap∧f' 7=.int .i64 (n:Nat)) ?_ ?_
 .intro next
  by_cases hb:32<nb
  .have hbI:(32:Int)<(nb:Int):=by omega
   obtain rfl:n=32:=by omega
   clear hn;refine rX (by simp[Act.eval,hbI,hb]) ?_;refine rR ?_;simp only[tO,Nat.reduceAdd];refine rY aB ?_;refine rE ?_;exact next _ _ _ ⟨rfl,rfl,by simp[g0],by simp[g1],by simp[g2],by simp⟩
  .have hbI:¬(32:Int)<(nb:Int):=by omega
   obtain rfl:n=nb:=by omega
   clear hn;refine rZ (by simp[Act.eval,hbI,hb]) ?_;refine rB ?_;exact next _ _ _ ⟨rfl,rfl,by simp[g0],by simp[g1],by simp[g2],by simp⟩
 clear g0 g1 g2 f hn;rintro f S' w' ⟨eS,eW,g0,g1,g2,g7⟩;subst S' w';repeat refine rN ?_
 refine bJ aB rfl rfl (by kernel_rfl) (fun u hu=>Pd (x:=.tmp 15) (d:=d) hu rfl (by simp)) ?_;rintro _ w1 ⟨hE1,c,C,fr,rfl,hc,hr1,hC1,hfr,hC2⟩;simp only[stO_some];have hmul:(8:Int)*((d.size:Nat):Int) - (n:Nat)+1=((8*d.size - n+1:Nat):Int):=by omega
 have hm1:(8:Int)*((d.size:Nat):Int)<=80000:=by omega
 have hm2:(0:Int)<=8*((d.size:Nat):Int) - (n:Nat):=by omega
 obtain⟨m,hm⟩:∃ m,m=8*d.size - n+1:=⟨_,rfl⟩;rw[<-hm]at hmul;have hmp:0<m:=by omega
 have hmb:m<=1000000:=by omega
 have hsz:d.size=d.size:=rfl;repeat refine rN ?_
 refine rK Tryz.func16 (mQ frm m hmp hmb h1 h2) ?_;rintro _ S1 w2 _ ⟨rfl,e1,e2⟩;subst S1 w2;obtain⟨at',hat⟩:∃ at',at'=cX frm m:=⟨_,rfl⟩;have hal:=jW frm hmp;rw[<-hat]at hal ⊢;have hend:at'+n<=8*d.size:=by omega
 clear hmul hm1 hm2 hm hal hmp hmb hat hsz;repeat refine rN ?_
 refine bR (fun dd f' S' w=>∃ k C,dd=n - k∧k<=n∧S'=S∧Ext v w∧w.heap[v.heap.size]?=some (.cells C 5 fr)∧d.size<=C.size∧C.size<=fr.1∧Hid (∀ i,i<d.size->C[i]?=some (.int .u8 ((bI d i ^^^ aW (2 ^ at'*eJ bt k) i:Nat):Int)))∧f' 2=.slice p nb cap∧f' 7=.int .i64 (n:Nat)∧f' 8=.slice (some ⟨v.heap.size,0,none⟩) d.size c∧f' 9=.int .i64 (at':Nat)∧f' 10=.int .i64 (k:Nat)) n ⟨0,C,by omega,by omega,rfl,hE1,hr1,hC1,hfr,aJ fun i hi=>by rw[hC2 i hi];simp[eJ,Ng],by simp[g2],by simp[g7],by simp,by simp,by simp⟩ ?_
 clear g0 g1 g2 g7 f hE1 hr1 hC1 hfr hC2 C;rintro dd f S' w ⟨k,C,rfl,hk,eS,hEw,hr,hC1,hfr,HC,g2,g7,g8,g9,g10⟩ nxt;subst S';repeat refine rN ?_
 by_cases hlt:k<n
 .have hkI:(k:Int)<(n:Int):=by omega
  obtain⟨B,off,rfl,hbc⟩:=hB.ext hEw k (by omega);have hknb:k<nb:=by omega
  have hknbI:(k:Int)<(nb:Int):=by omega
  refine rX (by simp[Act.eval,g10,g7,hkI,hlt]) ?_;repeat refine rM hbc ?_
  cases hbk:bt k with
  |false=>
   rw[hbk]at hbc;refine rZ (by simp[Act.eval]) ?_;repeat refine rN ?_
   refine nxt _ _ _ (n - (k+1)) (by omega) ⟨k+1,C,rfl,by omega,rfl,hEw,hr,hC1,hfr,aJ fun i hi=>?_,by simp[g2],by simp[g7],by simp[g8],by simp[g9],by simp⟩
   rw[Qa bt k hbk];exact HC.out i hi
  |true=>
   rw[hbk]at hbc;refine rX (by simp[Act.eval]) ?_;repeat refine rN ?_
   obtain⟨q,hq⟩:∃ q,q=(at'+k) / 8:=⟨_,rfl⟩;obtain⟨r,hr8⟩:∃ r,r=(at'+k) % 8:=⟨_,rfl⟩;have eq:((at':Int)+(k:Int)).tdiv 8=(q:Int):=by
    rw[Int.tdiv_eq_ediv_of_nonneg (by omega)];omega
   have er:((at':Int)+(k:Int)).tmod 8=(r:Int):=by
    rw[Int.tmod_eq_emod_of_nonneg (by omega)];omega
   have hqs:q<d.size:=by omega
   have hqI:(q:Int)<((d.size:Nat):Int):=by omega
   have hr7:r<8:=by omega
   have HQ:=aJ hq;have HR8:=aJ hr8;have hsum:at'+k<=80000:=by omega
   clear hq hr8;obtain⟨x,hx⟩:∃ x,x=bI d q ^^^ aW (2 ^ at'*eJ bt k) q:=⟨_,rfl⟩;have hcq:w.cell? ⟨v.heap.size,q,none⟩=some (.int .u8 (x:Nat)):=by
    rw[cell_of_row _ _ _ _ _ _ hr,HC.out q hqs,hx]
   have hx256:x<256:=by rw[hx];exact Nat.xor_lt_two_pow (n:=8) (sD _ _) (oN _ _)
   have HX:=aJ hx;clear hx;refine iZ aB (by first|kernel_rfl|rfl) ?_
   simp only[List.size_toArray,List.length_cons,List.length_nil,Nat.reduceAdd,Nat.zero_add];refine cU 0 ?_;refine cU 1 ?_;refine cU 2 ?_;refine cU 3 ?_;refine cU 4 ?_;refine cU 5 ?_;refine cU 6 ?_;refine cU 7 ?_;refine cU 8 ?_;refine cU 9 ?_;refine cU 10 ?_;co_applyP cT (i:=11) rfl (fun _ hu_=>run_eq_of ?u3_11) ?v3_11
   case u3_11=>intro K_ hK_;(have hc:=(Ext.twin hu_).cell hcq);go_simp;(try rw[wI _]);(try rw[wU _]);exact hK_
   simp only[sS,sN];refine cU 12 ?_;refine cU 13 ?_;refine cU 14 ?_;refine cU 15 ?_;refine cU 16 ?_;refine cU 17 ?_;refine cU 18 ?_;have hp2:2 ^ r<256:=Nat.lt_of_lt_of_le (Nat.pow_lt_pow_right (a:=2) (by omega) hr7) (Nat.le_refl _);have hw2:IntKind.u8.wrap (2 ^ r)=((2 ^ r:Nat):Int):=by
    have:((2:Int) ^ r)=((2 ^ r:Nat):Int):=by push_cast;rfl
    rw[this];generalize 2 ^ r=z at hp2;rw[IntKind.wrap_u8];omega
   have hxx:bits BinOp.xor IntKind.u8 (x:Int) (IntKind.u8.wrap (2 ^ r))=((x ^^^ 2 ^ r:Nat):Int):=by
    rw[hw2,u8_xor_nat _ _ hx256 hp2]
   refine cL 19 ?_;refine bJ aB rfl rfl (by kernel_rfl) (fun u hu=>Lj (x:=.tmp 52) (y:=.tmp 51) (g:=v.heap.size) (j:=q) (z:=.int .u8 ((x ^^^ 2 ^ r:Nat):Int)) hu hr (by omega) hfr rfl rfl rfl (by simp) (by simp;exact hxx) (by kernel_rfl)) ?_;rintro _ w3 hW3;simp only[stO_none];repeat refine rN ?_
   refine nxt _ _ _ (n - (k+1)) (by omega) ⟨k+1,C.setIfInBounds q (.int .u8 ((x ^^^ 2 ^ r:Nat):Int)),rfl,by omega,rfl,bL hEw (Nat.le_refl _) hW3,hW3.at_,by simpa using hC1,by simpa using hfr,aJ fun i hi=>?_,by simp[g2],by simp[g7],by simp[g8],by simp[g9],by simp⟩
   rw[Pz bt at' k i (bI d i) hbk,Array.getElem?_setIfInBounds,<-HQ.out,<-HR8.out];by_cases e:q=i
   .subst e;rw[if_pos rfl,if_pos (by omega),if_pos rfl,HX.out]
   .rw[if_neg e,if_neg (fun q'=>e q'.symm),Nat.xor_zero];exact HC.out i hi
 .obtain rfl:k=n:=by omega
  refine rZ (by simp[Act.eval,g10,g7]) ?_;refine bB rfl ?_
  have kc:=fun(u:World) (hu:Vw.Twin w u)=>run_convert_bytes_arg (P:=Tryz.prog) u 48 5 Tryz.underlying48 Tryz.underlying5 v.heap.size 0 d.size c ((List.range d.size).map fun i=>((bI d i ^^^ aW (2 ^ at'*eJ bt k) i:Nat):Int)) (by simp) (fun i hi=>(Ext.twin hu).cell (by
   rw[cell_of_row _ _ _ _ _ _ hr,Nat.zero_add,HC.out i hi]
   simp[List.getD,hi])) 9 Tryz.underlying9
  obtain⟨d',hd'⟩:∃ d',d'=strOfNums ((List.range d.size).map fun i=>((bI d i ^^^ aW (2 ^ at'*eJ bt k) i:Nat):Int)):=⟨_,rfl⟩
  rw[<-hd']at kc;have hT:lN d d':=by
   refine⟨?_,at',eJ bt k,Nat.lt_of_lt_of_le (yV bt k) (Nat.pow_le_pow_right (n:=2) (by omega) (by omega:k<=32)),fun i hi=>?_⟩
   .have h:d'.data.toList.length=d.size:=by
     rw[hd',strOfNums_data];simp
    rw[Array.length_toList]at h;exact h
   .unfold bI;rw[hd',<-Array.getElem?_toList,strOfNums_data,List.map_map,List.getElem?_map,List.getElem?_range hi];have h3:bI d i ^^^ aW (2 ^ at'*eJ bt k) i<256:=Nat.xor_lt_two_pow (n:=8) (sD _ _) (oN _ _);simp only[Option.map_some,Function.comp_apply,Option.getD_some];change (UInt8.ofNat (((bI d i ^^^ aW (2 ^ at'*eJ bt k) i:Nat):Int)).toNat).toNat=bI d i ^^^ aW (2 ^ at'*eJ bt k) i;generalize bI d i ^^^ aW (2 ^ at'*eJ bt k) i=z at h3 ⊢;simp;omega
  clear hd';repeat (first|refine rQ rfl ?_|(refine rO aB rfl ?_;intro _ hu_ K_ hK_;(have hc:=kc _ hu_);go_simp;(try rw[wI _]);(try rw[wU _]);refine hK_ _ ?_;clear hK_ K_ hu_;simp only[sS,sN])|refine rW ?_)
  refine aO fun todo=>?_
  refine ret _ _ S w (.string d') ?_ ⟨rfl,hEw,d',rfl,hT⟩;simp[results,Tryz.results26]
end
