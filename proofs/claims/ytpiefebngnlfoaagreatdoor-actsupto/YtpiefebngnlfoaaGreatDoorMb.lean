import Derived.Test.YtpiefebngnlfoaaGreatDoorMa
set_option maxRecDepth 99999
set_option maxHeartbeats 0
set_option linter.unusedVariables false
set_option linter.unusedSimpArgs false
namespace Go.Proofs.YtpiefebngnlfoaaGreatDoor
open Go.RowKit Go.Conc Go.Vw
theorem Bo{i:TypeInfo}{z:Value}(h:Tryz.prog.info? 5=some i)(hz:i.zero=some z):z.cells=#[z]:=by have:Tryz.prog.info? 5=some _:=rfl;rw[this]at h;cases h;cases hz;rfl
theorem Cf{P:Program}{o:Oper}{a:Act}{t e:TypeId}{i:TypeInfo}{z:Value}(dm:o.op=Op.buildSlice t 0 #[])(h1:P.underlying t=some (.slice e))(h2:P.info? e=some i)(h3:i.zero=some z)(h4:i.size=1)(h6:z.cells=#[z])(u:World):(execOp a.eval o).run P u=.ok (.value (.slice (some ⟨u.heap.size,0,none⟩) 0 0)) (u.alloc (.cells #[] e)):=by simp[execOp,dm,Instr.buildSlice,cw h1,sizeOf,typeInfo,h2,h4,zeroValue,h3,h6,Instr.fill,newRow];congr 2;apply Array.ext';simp
theorem Fg{id size turn k m:Nat}{y:Nat->Nat}{i:Nat}(hi:i<2):bB id size turn k m y i=bX id i:=by unfold bB eQ eN;rw[if_neg (by omega)];dsimp only;rw[if_neg (by omega),if_neg (by omega),if_neg (by omega),if_neg (by omega),if_pos (by omega),Nat.sub_zero]
theorem Ca{id size turn k m:Nat}{y:Nat->Nat}{i:Nat}(hi:i<2):bB id size turn k m y (2+i)=bX size i:=by unfold bB eQ eN;rw[if_neg (by omega)];dsimp only;rw[if_neg (by omega),if_neg (by omega),if_neg (by omega),if_pos (by omega),show 2+i-2=i by omega]
theorem Dn{id size turn k m:Nat}{y:Nat->Nat}{i:Nat}(hi:i<1):bB id size turn k m y (4+i)=bX k i:=by unfold bB eQ eN;rw[if_neg (by omega)];dsimp only;rw[if_neg (by omega),if_neg (by omega),if_pos (by omega),show 4+i-4=i by omega]
theorem Bz{id size turn k m:Nat}{y:Nat->Nat}{i:Nat}(hi:i<8):bB id size turn k m y (5+i)=bX turn i:=by unfold bB eQ eN;rw[if_neg (by omega)];dsimp only;rw[if_neg (by omega),if_pos (by omega),show 5+i-5=i by omega]
theorem Az{id size turn k m:Nat}{y:Nat->Nat}{i:Nat}(hm:m<=79)(hi:i<m):bB id size turn k m y (13+i)=y i:=by unfold bB eN eQ;rw[ah (by omega),ai (by omega),show 13+i-13=i by omega]
def bG(id size turn:Nat):Array Value:=#[.int .i64 (id:Nat),.int .i64 (size:Nat),.int .u64 (turn:Nat)]
def mX(V B id size turn:Nat)(j:Nat)(x:Value)(w:World):Prop:=
 match j with
 |0=>x=.slice (some ⟨B,0,none⟩) 2 96
 |1=>x=.int .u64 (id:Nat)
 |2=>x=.int .i64 (id:Nat)
 |3=>x=.slice (some ⟨B,2,none⟩) 2 94
 |4=>x=.int .u64 (size:Nat)
 |5=>x=.int .i64 (size:Nat)
 |6=>x=.slice (some ⟨B,5,none⟩) 8 91
 |7=>x=.int .u64 (turn:Nat)
 |8=>x=.agg (bG id size turn)
 |9=>∃g,x=.pointer (some ⟨g,0,none⟩)∧V<=g∧∃c:Array Value,c.size=3∧w.heap[g]?=some (.cells c 120)
 |_=>True
theorem Dm(V B id size turn:Nat):∀j x w w',mX V B id size turn j x w->Ext w w'->mX V B id size turn j x w':=by
 intro j x w w' h hE;unfold mX at h⊢;split at h<;>first|exact h|skip
 obtain⟨g,e,h1,c,h2,hg⟩:=h;exact⟨g,e,h1,c,h2,hE.row hg⟩
def mW(V B id size turn k:Nat)(j:Nat)(x:Value)(w:World):Prop:=
 match j with
 |0=>x=.agg (bG id size turn)
 |1=>x=.slice (some ⟨B,4,none⟩) 1 92
 |2=>x=.int .u64 (k:Nat)
 |3=>x=.int .i64 (k:Nat)
 |4=>x=.agg (bK id size turn k none 0 0)
 |5=>∃g,x=.pointer (some ⟨g,0,none⟩)∧V<=g∧∃c:Array Value,c.size=5∧w.heap[g]?=some (.cells c 143)
 |_=>True
theorem Dl(V B id size turn k:Nat):∀j x w w',mW V B id size turn k j x w->Ext w w'->mW V B id size turn k j x w':=by
 intro j x w w' h hE;unfold mW at h⊢;split at h<;>first|exact h|skip
 obtain⟨g,e,h1,c,h2,hg⟩:=h;exact⟨g,e,h1,c,h2,hE.row hg⟩
def P7(blk pc:Value)(j:Nat)(x:Value)(w:World):Prop:=
 match j with
 |0=>x=pc
 |1=>x=blk
 |2=>x=blk
 |3=>x=.bool false
 |_=>True
theorem Xl{S:Nat->Prop}{v:World}(id size turn k m:Nat)(y:Nat->Nat)(hid:id<=9999)(GR:1<=id)(fo:size<=400)(hk:k<14)(ht:turn<18446744073709551616)(hm:m=(size+9)/10)(hy:∀i,y i<256):aJ Tryz.prog 84 #[.agg (aE 96 (bB id size turn k m y))] S v λx S' v'=>S'=S∧Ext v v'∧∃B c,x=.agg (bK id size turn k (some ⟨B,0,none⟩) m c)∧m<=c∧v.heap.size<=B∧dD v' B 0 m y∧∃C,v'.heap[B]?=some (.cells C 5):=by
 refine dX Tryz.func84 rfl Tryz.ntmps84 λStop cc cs ret f g0=>?_;have sf:m<=79:=by omega
 have HM:=aP hm;clear hm;repeat refine rN ?_
 refine aN (Q:=λy' w=>y'=.pointer (some ⟨v.heap.size,0,none⟩)∧Ext v w∧w.heap[v.heap.size]?=some (.cells (aE 96 (bB id size turn k m y)) 137)∧w.heap.size=v.heap.size+1) aB rfl rfl (by kernel_rfl) (λu hu=>⟨_,_,.inl (gR (x:=.tmp 0) (y:=.agg (aE 96 (bB id size turn k m y))) rfl (by simp[g0]) u),by rw[hu.heap],(Ext.twin hu).trans _ _ _ (Ext.alloc _ _),by rw[<-hu.heap];exact bI _ _,by rw[jO,hu.heap]⟩) ?_;rintro _ w1 ⟨rfl,eh,fg,jg⟩;simp only[stO_some];refine cD aB rfl rfl (by kernel_rfl) (.agg #[.int .i64 0,.int .i64 0,.int .u64 0,.int .i64 0,.slice none 0 0]) rfl (by kernel_rfl) λw2 ep ko pj=>?_;simp only[stO_some];repeat refine rN ?_
 rw[jg]at ko;rw[show w1.heap.size=v.heap.size+1 by omega];have hb:w2.heap[v.heap.size]?=some (.cells (aE 96 (bB id size turn k m y)) 137):=ep.row fg;have QG:=eh.trans _ _ _ ep;clear eh ep fg;have hz:∀w:World,w.heap[v.heap.size]?=some (.cells (aE 96 (bB id size turn k m y)) 137)->∀i,i<96->w.cell? ⟨v.heap.size,i,none⟩=some (.int .u8 (bB id size turn k m y i:Nat)):=λw hw i hi=>by rw[ab _ _ _ _ _ _ hw];exact eE _ _ _ hi
 have q1:id%256^2=id:=Nat.mod_eq_of_lt (by omega);have q2:size%256^2=size:=Nat.mod_eq_of_lt (by omega);have q3:k%256^1=k:=Nat.mod_eq_of_lt (by omega);have q4:turn%256^8=turn:=Nat.mod_eq_of_lt (by omega);refine iY (by kernel_rfl) (by kernel_rfl) (by kernel_rfl) 10 [0,1,2,3,4,5,6,7,8,9] (by kernel_rfl) (mX w2.heap.size v.heap.size id size turn) (λS' w=>S'=S∧Ext w2 w) (λS' f w=>S'=S∧Ext w2 w∧∃g,f 3=.pointer (some ⟨g,0,none⟩)∧w2.heap.size<=g∧w.heap[g]?=some (.cells (bG id size turn) 120)) (λS' w w' h hE=>⟨h.1,h.2.trans _ _ _ hE⟩) (λS' i f x w w' hi hA jh=>?_) (Dm _ _ _ _ _) ?_ ⟨rfl,.refl _⟩ ?_ ?_ ?_
 .exfalso;have ft:i<11:=hi;simp at hA;omega
 .intro j hj he x w h;have:j=10:=by
   have jo:j<11:=hj;match j,jo with
   |0,_=>cases he
   |1,_=>cases he
   |2,_=>cases he
   |3,_=>cases he
   |4,_=>cases he
   |5,_=>cases he
   |6,_=>cases he
   |7,_=>cases he
   |8,_=>cases he
   |9,_=>cases he
   |10,_=>rfl
  subst this;exact trivial
 .intro i f S1 w rest hi dy hB hf hd dj;have g1:f 1=.pointer (some ⟨v.heap.size,0,none⟩):=(hf 1 (aV (by kernel_rfl))).trans (by simp);have ft:i<11:=hi
  obtain⟨eS,hE⟩:=hB (by
   simp
   omega)
  subst S1;have xl:=hz w (hE.row hb);clear hf hB;match i,ft with
  |0,_=>clear hd;refine rY aB ?_;exact dj _ w (.refl w) rfl
  |1,_=>have d0:f 5=.slice (some ⟨v.heap.size,0,none⟩) 2 96:=hd 0 (aD (by kernel_rfl));clear hd;refine dV Tryz.func102 (lA v.heap.size 0 2 96 id (by omega) (by omega) λi h=>by rw[xl _ (by omega),an,Fg h]) ?_;rintro _ S1 w' _ ⟨rfl,e1,e2⟩;subst S1 w';rw[q1];exact dj _ w (.refl w) rfl
  |2,_=>have d1:f 6=.int .u64 (id:Nat):=hd 1 (aD (by kernel_rfl));clear hd;refine rY aB ?_;exact dj _ w (.refl w) rfl
  |3,_=>clear hd;refine rY aB ?_;exact dj _ w (.refl w) rfl
  |4,_=>have d0:f 8=.slice (some ⟨v.heap.size,2,none⟩) 2 94:=hd 3 (aD (by kernel_rfl));clear hd;refine dV Tryz.func102 (lA v.heap.size 2 2 94 size (by omega) (by omega) λi h=>by rw[xl _ (by omega),Ca h]) ?_;rintro _ S1 w' _ ⟨rfl,e1,e2⟩;subst S1 w';rw[q2];exact dj _ w (.refl w) rfl
  |5,_=>have d1:f 9=.int .u64 (size:Nat):=hd 4 (aD (by kernel_rfl));clear hd;refine rY aB ?_;exact dj _ w (.refl w) rfl
  |6,_=>clear hd;refine rY aB ?_;exact dj _ w (.refl w) rfl
  |7,_=>have d0:f 11=.slice (some ⟨v.heap.size,5,none⟩) 8 91:=hd 6 (aD (by kernel_rfl));clear hd;refine dV Tryz.func102 (lA v.heap.size 5 8 91 turn (by omega) (by omega) λi h=>by rw[xl _ (by omega),Bz h]) ?_;rintro _ S1 w' _ ⟨rfl,e1,e2⟩;subst S1 w';rw[q4];exact dj _ w (.refl w) rfl
  |8,_=>have d0:f 7=.int .i64 (id:Nat):=hd 2 (aD (by kernel_rfl));have d1:f 10=.int .i64 (size:Nat):=hd 5 (aD (by kernel_rfl));have d2:f 12=.int .u64 (turn:Nat):=hd 7 (aD (by kernel_rfl));clear hd;refine rY aB ?_;exact dj _ w (.refl w) rfl
  |9,_=>clear hd;refine cD aB rfl rfl (by kernel_rfl) (.agg zE) rfl (by kernel_rfl) λw3 ef km ma=>?_;exact dj _ w3 ef ⟨_,rfl,hE.size,_,rfl,km⟩
  |10,_=>exact absurd rfl dy
 .rintro f S1 w rest ⟨eS,hB⟩ hf hd dj;subst S1;obtain⟨g,d0,su,c,c8,hg⟩:∃g,f 3=.pointer (some ⟨g,0,none⟩)∧w2.heap.size<=g∧∃c:Array Value,c.size=3∧w.heap[g]?=some (.cells c 120):=hd 9 (by simp);have d1:f 13=.agg (bG id size turn):=hd 8 (by simp);clear hd;refine cS aB rfl rfl (by kernel_rfl) (x:=.tmp 3) (y:=.tmp 13) (g:=g) (c:=bG id size turn) rfl (by simp[d0]) (by simp[d1]) hg (by kernel_rfl) c8 (by simp[bG,Value.oneCell']) λw3 hW=>?_;refine dj undef S w3 ⟨rfl,bO hB su hW,g,d0,su,hW.at_⟩ trivial λj x' hj h=>?_;unfold mX at h⊢;split at h<;>first|exact h|skip
  obtain⟨g',e',lj,c',nu,ks⟩:=h;by_cases e:g'=g
  .subst e;exact⟨g',e',lj,_,rfl,hW.at_⟩
  .exact⟨g',e',lj,c',nu,aO hW ks e⟩
 .rintro f S1 w ⟨eS,fj,g,g3,su,hg⟩ hf hd;subst S1;have g1:f 1=.pointer (some ⟨v.heap.size,0,none⟩):=(hf 1 (aV (by kernel_rfl))).trans (by simp);have g2:f 2=.pointer (some ⟨v.heap.size+1,0,none⟩):=(hf 2 (aV (by kernel_rfl))).trans (by simp);clear hf hd;repeat refine rN ?_
  refine iY (by kernel_rfl) (by kernel_rfl) (by kernel_rfl) 6 [0,1,2,3,4,5] (by kernel_rfl) (mW w.heap.size v.heap.size id size turn k) (λS' w'=>S'=S∧Ext w w') (λS' f w'=>S'=S∧Ext w w'∧∃g,f 4=.pointer (some ⟨g,0,none⟩)∧w.heap.size<=g∧w'.heap[g]?=some (.cells (bK id size turn k none 0 0) 143)) (λS' w w' h hE=>⟨h.1,h.2.trans _ _ _ hE⟩) (λS' i f x w w' hi hA jh=>?_) (Dl _ _ _ _ _ _) ?_ ⟨rfl,.refl _⟩ ?_ ?_ ?_
  .exfalso;have ft:i<7:=hi;simp at hA;omega
  .intro j hj he x w h;have:j=6:=by
    have jo:j<7:=hj;match j,jo with
    |0,_=>cases he
    |1,_=>cases he
    |2,_=>cases he
    |3,_=>cases he
    |4,_=>cases he
    |5,_=>cases he
    |6,_=>rfl
   subst this;exact trivial
  .intro i f' S1 w' rest hi dy hB jk ji dj;have PR:f' 1=.pointer (some ⟨v.heap.size,0,none⟩):=(jk 1 (aV (by kernel_rfl))).trans g1;have PQ:f' 3=.pointer (some ⟨g,0,none⟩):=(jk 3 (aV (by kernel_rfl))).trans g3;have ft:i<7:=hi
   obtain⟨eS,FR⟩:=hB (by
    simp
    omega)
   subst S1;have xl:=hz w' ((fj.trans _ _ _ FR).row hb);clear jk hB;match i,ft with
   |0,_=>clear ji;refine gO aB rfl rfl (by kernel_rfl) (x:=.tmp 3) (b:=g) (c:=bG id size turn) rfl (by simp[PQ]) (FR.row hg) (by kernel_rfl) (by kernel_rfl) ?_;exact dj _ w' (.refl w') rfl
   |1,_=>clear ji;refine rY aB ?_;exact dj _ w' (.refl w') rfl
   |2,_=>have d0:f' 15=.slice (some ⟨v.heap.size,4,none⟩) 1 92:=ji 1 (aD (by kernel_rfl));clear ji;refine dV Tryz.func102 (lA v.heap.size 4 1 92 k (by omega) (by omega) λi h=>by rw[xl _ (by omega),Dn h]) ?_;rintro _ S1 w1 _ ⟨rfl,e1,e2⟩;subst S1 w1;rw[q3];exact dj _ w' (.refl w') rfl
   |3,_=>have d1:f' 16=.int .u64 (k:Nat):=ji 2 (aD (by kernel_rfl));clear ji;refine rY aB ?_;exact dj _ w' (.refl w') rfl
   |4,_=>have d0:f' 14=.agg (bG id size turn):=ji 0 (aD (by kernel_rfl));have d1:f' 17=.int .i64 (k:Nat):=ji 3 (aD (by kernel_rfl));clear ji;unfold bG at d0;refine rY aB ?_;exact dj _ w' (.refl w') rfl
   |5,_=>clear ji;refine cD aB rfl rfl (by kernel_rfl) (.agg iH) rfl (by kernel_rfl) λw3 ef km ma=>?_;exact dj _ w3 ef ⟨_,rfl,FR.size,_,rfl,km⟩
   |6,_=>exact absurd rfl dy
  .rintro f' S1 w' rest ⟨eS,hB⟩ jk ji dj;subst S1;obtain⟨g',d0,EH,c,qi,ks⟩:∃g',f' 4=.pointer (some ⟨g',0,none⟩)∧w.heap.size<=g'∧∃c:Array Value,c.size=5∧w'.heap[g']?=some (.cells c 143):=ji 5 (by simp);have d1:f' 18=.agg (bK id size turn k none 0 0):=ji 4 (by simp);clear ji;refine cS aB rfl rfl (by kernel_rfl) (x:=.tmp 4) (y:=.tmp 18) (g:=g') (c:=bK id size turn k none 0 0) rfl (by simp[d0]) (by simp[d1]) ks (by kernel_rfl) qi (by simp[bK,Value.oneCell']) λw3 hW=>?_;refine dj undef S w3 ⟨rfl,bO hB EH hW,g',d0,EH,hW.at_⟩ trivial λj x' hj h=>?_;unfold mW at h⊢;split at h<;>first|exact h|skip
   obtain⟨KN,e',lj,c',nu,xy⟩:=h;by_cases e:KN=g'
   .subst e;exact⟨KN,e',lj,_,rfl,hW.at_⟩
   .exact⟨KN,e',lj,c',nu,aO hW xy e⟩
  .rintro f' S1 w' ⟨eS,sx,gp,PO,j0,GV⟩ jk ji;subst S1;have PR:f' 1=.pointer (some ⟨v.heap.size,0,none⟩):=(jk 1 (aV (by kernel_rfl))).trans g1;have WO:f' 2=.pointer (some ⟨v.heap.size+1,0,none⟩):=(jk 2 (aV (by kernel_rfl))).trans g2;have PQ:f' 3=.pointer (some ⟨g,0,none⟩):=(jk 3 (aV (by kernel_rfl))).trans g3;clear jk ji g1 g2 g3 g0;have AM:=QG.trans _ _ _ (fj.trans _ _ _ sx);have DR:=sx.row hg;have hblk:=sx.row (fj.row hb);have iy:=sx.row (fj.row ko);have l0:w'.cell? ⟨g,0,none⟩=some (.int .i64 (id:Nat)):=(ab _ _ _ _ _ _ DR).trans rfl;have l1:w'.cell? ⟨g,1,none⟩=some (.int .i64 (size:Nat)):=(ab _ _ _ _ _ _ DR).trans rfl;have l2:w'.cell? ⟨gp,3,none⟩=some (.int .i64 (k:Nat)):=(ab _ _ _ _ _ _ GV).trans rfl;have i1:¬(id:Int)<1:=by omega
   have i2:¬(9999:Int)<(id:Int):=by omega
   have i3:¬(400:Int)<(size:Int):=by omega
   have i4:¬(14:Int)<=(k:Int):=by omega
   have n1:¬id<1:=by omega
   have n2:¬9999<id:=by omega
   have n3:¬400<size:=by omega
   have n4:¬14<=k:=by omega
   have n5:¬id=0:=by omega
   repeat (first|refine rM l0 ?_|refine rM l1 ?_|refine rM l2 ?_)
   refine rZ (by simp[Act.eval,i1,i2,i3,i4,n1,n2,n3,n4,n5]) ?_;repeat refine rN ?_
   obtain⟨ib,zb,qd,qu,rr,xa,va⟩:=oR;have XA:zb.cells=#[zb]:=Bo qd qu;refine aN (Q:=λy' w3=>y'=.slice (some ⟨w'.heap.size,0,none⟩) 0 0∧Ext w' w3∧w3.heap[w'.heap.size]?=some (.cells #[] 5)∧w3.heap.size=w'.heap.size+1) aB rfl rfl (by kernel_rfl) (λu hu=>⟨_,_,.inl (Cf rfl Tryz.underlying43 qd qu rr XA u),by rw[hu.heap],(Ext.twin hu).trans _ _ _ (Ext.alloc _ _),by rw[<-hu.heap];exact bI _ _,by rw[jO,hu.heap]⟩) ?_;rintro _ w3 ⟨rfl,ef,km,ma⟩;simp only[stO_some];have WU:=ef.cell l1;repeat refine rM WU ?_
   refine rK Tryz.func75 (vR size fo) ?_;rintro _ S1 w4 _ ⟨rfl,e1,e2⟩;subst S1 w4;rw[<-HM.out];have j1:(13:Int)<=13+(m:Int):=by omega
   have j2:(13:Int)+(m:Int)<=96:=by omega
   have j3:((13:Int)+(m:Int)).toNat=13+m:=by omega
   have j4:(0:Int)<=13+(m:Int):=by omega
   have j5:(13:Int)<=max (13+(m:Int)) 0:=by omega
   have j6:((13:Int)+(m:Int)).toNat-13=m:=by omega
   repeat refine rN ?_
   have EE:=ef.row hblk;have gm:w3.ownsRow w'.heap.size 5 1 (.slice (some ⟨w'.heap.size,0,none⟩) 0 0) 0 []:=⟨rfl,.inr ⟨_,0,#[],rfl,ae _,km,ae _,Nat.zero_le _,rfl,rfl⟩⟩;refine aN (Q:=λy' w4=>w4.ownsRow w'.heap.size 5 1 y' (0+m) ([]++(List.range m).map λj=>Value.int .u8 ((y j:Nat):Int))∧Gr w3 w4 (Value.slice (some ⟨w'.heap.size,0,none⟩) 0 0).ownBlock∧(y'=.slice none 0 0↔(Value.slice (some ⟨w'.heap.size,0,none⟩) 0 0)=.slice none 0 0∧m=0)) aB rfl rfl (by kernel_rfl) (λu hu=>mB (s:=.tmp 38) (x:=.tmp 43) (ad:=⟨v.heap.size,13,none⟩) (c:=83) hu _ Tryz.underlying43 qd qu rr xa va gm (by simp) (λj z hj=>?_) kX (by omega) (by omega) (by omega) rfl (by simp) (by simp)) ?_
   .obtain⟨ZI,rfl⟩:=oC hj;rw[Addr.add_lit];show w3.cell? ⟨v.heap.size,13+j,none⟩=_;rw[hz w3 EE _ (by omega),Az sf ZI]
   rintro y' w4 ⟨AV,TY,RJ⟩;simp only[stO_some];rw[an,List.nil_append]at AV;obtain⟨gB,cap,cur,rfl,hgB,YD,AB,ns,uk⟩:=lD AV (.inr λe=>by have:=(RJ.1 e).1;cases this);have gn:Ext w' w4:=TY.over ef λb e=>by simp only[Value.ownBlock,cr]at e;omega
   clear TY RJ AV gm km;have MG:=gn.row GV;have SI:gp<w'.heap.size:=(Array.getElem?_eq_some_iff.1 GV).1;repeat refine rN ?_
   refine dQ aB rfl rfl (by kernel_rfl) (x:=.tmp 45) (y:=.tmp 44) (g:=gp) (j:=4) (z:=.slice (some ⟨gB,0,none⟩) m cap) rfl (by simp) (by simp) rfl rfl MG (by simp[bK]) (by kernel_rfl) λw5 jc=>?_;simp only[stO_none];have GU:w5.heap[gp]?=some (.cells (bK id size turn k (some ⟨gB,0,none⟩) m cap) 143):=jc.at_;have lh:Ext v w5:=bO (AM.trans _ _ _ gn) (ak QG.size (ak fj.size j0)) jc
   have ED:w5.heap[v.heap.size]?=some (.cells (aE 96 (bB id size turn k m y)) 137):=aO jc (gn.row hblk) (λe=>by
    rw[e,GV]at hblk
    exact absurd (Obj.cells.inj (bm hblk)).2.1 (by decide))
   have JB:w5.heap[v.heap.size+1]?=some (.cells #[.int .i64 0,.int .i64 0,.int .u64 0,.int .i64 0,.slice none 0 0] 143):=aO jc (gn.row iy) (λe=>by
    have h1:v.heap.size+1<w2.heap.size:=(Array.getElem?_eq_some_iff.1 ko).1;have h2:=fj.size
    omega)
   have GG:=aO jc YD (by omega);have NJ:dD w5 gB 0 m y:=λi hi=>by rw[an,ab _ _ _ _ _ _ GG,uk i hi];simp[hi]
   repeat refine rN ?_
   refine Bc (by kernel_rfl) (by kernel_rfl) (by kernel_rfl) (P7 (.agg (aE 96 (bB id size turn k m y))) (.agg (bK id size turn k (some ⟨gB,0,none⟩) m cap))) (λj x w w' h hE=>h) ?_ ?_ ?_
   .intro j hj he x w h;have jo:j<4:=hj;match j,jo with
    |0,_=>cases he
    |1,_=>cases he
    |2,_=>cases he
    |3,_=>cases he
   .intro i uy w6 rest hi ew nq kh dj;have r1:uy 1=.pointer (some ⟨v.heap.size,0,none⟩):=(nq 1 (aV (by kernel_rfl))).trans (by simp[PR]);have r4:uy 4=.pointer (some ⟨gp,0,none⟩):=(nq 4 (aV (by kernel_rfl))).trans (by simp[PO]);have ft:i<4:=hi;clear nq;match i,ft with
    |0,_=>clear kh;refine gO aB rfl rfl (by kernel_rfl) (x:=.tmp 4) (b:=gp) rfl (by simp[r4]) (ew.row GU) (by kernel_rfl) (by kernel_rfl) ?_;exact dj _ w6 (.refl w6) rfl
    |1,_=>have d0:uy 46=.agg (bK id size turn k (some ⟨gB,0,none⟩) m cap):=kh 0 (aD (by kernel_rfl));clear kh;refine dV Tryz.func85 (yZ id size turn k m cap gB 0 y hid fo hk ht sf hy (NJ.ext ew)) ?_;rintro _ S1 w7 _ ⟨rfl,e1,ve⟩;subst S1;exact dj _ w7 ve rfl
    |2,_=>clear kh;refine gO aB rfl rfl (by kernel_rfl) (x:=.tmp 1) (b:=v.heap.size) rfl (by simp[r1]) (ew.row ED) (by kernel_rfl) (by rw[eB];kernel_rfl) ?_;exact dj _ w6 (.refl w6) rfl
    |3,_=>have d0:uy 47=.agg (aE 96 (bB id size turn k m y)):=kh 1 (aD (by kernel_rfl));have d1:uy 48=.agg (aE 96 (bB id size turn k m y)):=kh 2 (aD (by kernel_rfl));clear kh;refine bV aB rfl rfl (by kernel_rfl) (λu hu=>Cc (xo:=.tmp 47) (yo:=.tmp 48) (x:=bB id size turn k m y) (y:=bB id size turn k m y) rfl (by simp[d0]) (by simp[d1])) ?_;rw[(lG _ _ 96 0).2 λ_ _ _=>rfl];exact dj _ w6 (.refl w6) rfl
   .intro uy w6 ew nq kh;have r2:uy 2=.pointer (some ⟨v.heap.size+1,0,none⟩):=(nq 2 (aV (by kernel_rfl))).trans (by simp[WO]);have r4:uy 4=.pointer (some ⟨gp,0,none⟩):=(nq 4 (aV (by kernel_rfl))).trans (by simp[PO]);have d3:uy 49=.bool false:=kh 3 (by decide);clear nq kh;repeat refine rN ?_
    refine rZ (by simp[Act.eval,d3]) ?_;repeat refine rN ?_
    refine gO aB rfl rfl (by kernel_rfl) (x:=.tmp 4) (b:=gp) rfl (by simp[r4]) (ew.row GU) (by kernel_rfl) (by kernel_rfl) ?_;simp only[stO_some];refine cS aB rfl rfl (by kernel_rfl) (x:=.tmp 2) (y:=.tmp 51) (g:=v.heap.size+1) (c:=bK id size turn k (some ⟨gB,0,none⟩) m cap) rfl (by simp[r2]) (by simp) (ew.row JB) (by kernel_rfl) rfl (by simp[bK,Value.oneCell']) λw7 nz=>?_;simp only[stO_none];repeat refine rN ?_
    refine aM λtodo=>?_
    have QW:=aO nz (ew.row GG) (by
     have h1:v.heap.size+1<w2.heap.size:=(Array.getElem?_eq_some_iff.1 ko).1;have h2:=fj.size;have h3:=sx.size
     omega)
    refine ret _ _ S w7 (.agg (bK id size turn k (some ⟨gB,0,none⟩) m cap)) ?_ ⟨rfl,bO (lh.trans _ _ _ ew) (by omega) nz,gB,cap,rfl,AB,by have:=AM.size;omega,λi hi=>?_,_,QW⟩
    .have hl:=run_loadVar_row (P:=Tryz.prog) w7 (v.heap.size+1) 143 143 (bK id size turn k (some ⟨gB,0,none⟩) m cap) (0,0) _ nz.at_ Tryz.underlying143 rfl (by kernel_rfl);simp[results,Tryz.results84,asAddr,hl,r2]
    .rw[an,ab _ _ _ _ _ _ QW,uk i hi];simp[hi]
def bY(x:Nat->Nat):Nat->Nat
 |0=>0
 |n+1=>x 0+256*bY (λi=>x (i+1)) n
theorem pS{x:Nat->Nat}(hx:∀i,x i<256)(n:Nat):∀i,i<n->x i=bX (bY x n) i:=by
 induction n generalizing x with
 |zero=>intro i hi;omega
 |succ n ih=>
  intro i hi;unfold bY;cases i with
  |zero=>unfold bX;have:=hx 0;rw[Nat.pow_zero,Nat.div_one];omega
  |succ i=>rw[ih (x:=λi=>x (i+1)) (λi=>hx (i+1)) i (by omega)];unfold bX;have h0:=hx 0;generalize bY (λi=>x (i+1)) n=N;rw[Nat.pow_succ,Nat.mul_comm (256^i) 256,<-Nat.div_div_eq_div_mul,show(x 0+256*N)/256=N by omega]
theorem tM{x:Nat->Nat}(hx:∀i,x i<256)(n:Nat):bY x n<256^n:=by
 induction n generalizing x with
 |zero=>exact Nat.one_pos
 |succ n ih=>have h1:=ih (x:=λi=>x (i+1)) (λi=>hx (i+1));have h0:=hx 0;unfold bY;rw[Nat.pow_succ];omega
def gX(x:Nat->Nat):Prop:=1<=bY x 2∧bY x 2<=9999∧bY (λi=>x (2+i)) 2<=400∧bY (λi=>x (4+i)) 1<14∧
 ∀j,j<96->bB (bY x 2) (bY (λi=>x (2+i)) 2) (bY (λi=>x (5+i)) 8) (bY (λi=>x (4+i)) 1) ((bY (λi=>x (2+i)) 2+9)/10) (λi=>x (13+i)) j=x j
def P6(sealed blk pc:Value)(j:Nat)(x:Value)(w:World):Prop:=
 match j with
 |0=>x=pc
 |1=>x=sealed
 |2=>x=blk
 |3=>x=.bool true
 |_=>True
theorem Rh{S:Nat->Prop}{v:World}(t:TypeId)(e:Value)(rv:v.cell? ⟨0,0,none⟩=some (.iface t e))(x:Nat->Nat)(hx:∀i,x i<256)(lq:¬gX x):zJ Tryz.prog 84 #[.agg (aE 96 x)] S v λx S' v'=>x=.iface t e∧S'=S∧Ext v v':=by
 refine Mp Tryz.func84 rfl Tryz.ntmps84 (by simp) λStop cc cs ret=>?_;have g0:eG #[.agg (aE 96 x)] 0=.agg (aE 96 x):=rfl;generalize eG #[.agg (aE 96 x)]=f at g0;unfold gX at lq;have b1:=pS (λi=>hx i) 2;have b2:=pS (x:=λi=>x (2+i)) (λi=>hx (2+i)) 2;have b3:=pS (x:=λi=>x (4+i)) (λi=>hx (4+i)) 1;have b4:=pS (x:=λi=>x (5+i)) (λi=>hx (5+i)) 8;have z1:=tM (λi=>hx i) 2;have z2:=tM (x:=λi=>x (2+i)) (λi=>hx (2+i)) 2;have z3:=tM (x:=λi=>x (4+i)) (λi=>hx (4+i)) 1;have z4:=tM (x:=λi=>x (5+i)) (λi=>hx (5+i)) 8;generalize bY x 2=id at *
 generalize bY (λi=>x (2+i)) 2=size at *
 generalize bY (λi=>x (4+i)) 1=k at *
 generalize bY (λi=>x (5+i)) 8=turn at *
 repeat refine rN ?_
 refine aN (Q:=λy' w=>y'=.pointer (some ⟨v.heap.size,0,none⟩)∧Ext v w∧w.heap[v.heap.size]?=some (.cells (aE 96 x) 137)∧w.heap.size=v.heap.size+1) aB rfl rfl (by kernel_rfl) (λu hu=>⟨_,_,.inl (gR (x:=.tmp 0) (y:=.agg (aE 96 x)) rfl (by simp[g0]) u),by rw[hu.heap],(Ext.twin hu).trans _ _ _ (Ext.alloc _ _),by rw[<-hu.heap];exact bI _ _,by rw[jO,hu.heap]⟩) ?_;rintro _ w1 ⟨rfl,eh,fg,jg⟩;simp only[stO_some];refine cD aB rfl rfl (by kernel_rfl) (.agg #[.int .i64 0,.int .i64 0,.int .u64 0,.int .i64 0,.slice none 0 0]) rfl (by kernel_rfl) λw2 ep ko pj=>?_;simp only[stO_some];repeat refine rN ?_
 rw[jg]at ko;rw[show w1.heap.size=v.heap.size+1 by omega];have hb:w2.heap[v.heap.size]?=some (.cells (aE 96 x) 137):=ep.row fg;have QG:=eh.trans _ _ _ ep;clear eh ep fg;have hz:∀w:World,w.heap[v.heap.size]?=some (.cells (aE 96 x) 137)->∀i,i<96->w.cell? ⟨v.heap.size,i,none⟩=some (.int .u8 (x i:Nat)):=λw hw i hi=>by rw[ab _ _ _ _ _ _ hw];exact eE _ _ _ hi
 have q1:id%256^2=id:=Nat.mod_eq_of_lt (by omega);have q2:size%256^2=size:=Nat.mod_eq_of_lt (by omega);have q3:k%256^1=k:=Nat.mod_eq_of_lt (by omega);have q4:turn%256^8=turn:=Nat.mod_eq_of_lt (by omega);refine iY (by kernel_rfl) (by kernel_rfl) (by kernel_rfl) 10 [0,1,2,3,4,5,6,7,8,9] (by kernel_rfl) (mX w2.heap.size v.heap.size id size turn) (λS' w=>S'=S∧Ext w2 w) (λS' f w=>S'=S∧Ext w2 w∧∃g,f 3=.pointer (some ⟨g,0,none⟩)∧w2.heap.size<=g∧w.heap[g]?=some (.cells (bG id size turn) 120)) (λS' w w' h hE=>⟨h.1,h.2.trans _ _ _ hE⟩) (λS' i f x w w' hi hA jh=>?_) (Dm _ _ _ _ _) ?_ ⟨rfl,.refl _⟩ ?_ ?_ ?_
 .exfalso;have ft:i<11:=hi;simp at hA;omega
 .intro j hj he x w h;have:j=10:=by
   have jo:j<11:=hj;match j,jo with
   |0,_=>cases he
   |1,_=>cases he
   |2,_=>cases he
   |3,_=>cases he
   |4,_=>cases he
   |5,_=>cases he
   |6,_=>cases he
   |7,_=>cases he
   |8,_=>cases he
   |9,_=>cases he
   |10,_=>rfl
  subst this;exact trivial
 .intro i f S1 w rest hi dy hB hf hd dj;have g1:f 1=.pointer (some ⟨v.heap.size,0,none⟩):=(hf 1 (aV (by kernel_rfl))).trans (by simp);have ft:i<11:=hi
  obtain⟨eS,hE⟩:=hB (by
   simp
   omega)
  subst S1;have xl:=hz w (hE.row hb);clear hf hB;match i,ft with
  |0,_=>clear hd;refine rY aB ?_;exact dj _ w (.refl w) rfl
  |1,_=>have d0:f 5=.slice (some ⟨v.heap.size,0,none⟩) 2 96:=hd 0 (aD (by kernel_rfl));clear hd;refine dV Tryz.func102 (lA v.heap.size 0 2 96 id (by omega) (by omega) λi h=>by rw[xl _ (by omega),an,b1 i h]) ?_;rintro _ S1 w' _ ⟨rfl,e1,e2⟩;subst S1 w';rw[q1];exact dj _ w (.refl w) rfl
  |2,_=>have d1:f 6=.int .u64 (id:Nat):=hd 1 (aD (by kernel_rfl));clear hd;refine rY aB ?_;exact dj _ w (.refl w) rfl
  |3,_=>clear hd;refine rY aB ?_;exact dj _ w (.refl w) rfl
  |4,_=>have d0:f 8=.slice (some ⟨v.heap.size,2,none⟩) 2 94:=hd 3 (aD (by kernel_rfl));clear hd;refine dV Tryz.func102 (lA v.heap.size 2 2 94 size (by omega) (by omega) λi h=>by rw[xl _ (by omega),b2 i h]) ?_;rintro _ S1 w' _ ⟨rfl,e1,e2⟩;subst S1 w';rw[q2];exact dj _ w (.refl w) rfl
  |5,_=>have d1:f 9=.int .u64 (size:Nat):=hd 4 (aD (by kernel_rfl));clear hd;refine rY aB ?_;exact dj _ w (.refl w) rfl
  |6,_=>clear hd;refine rY aB ?_;exact dj _ w (.refl w) rfl
  |7,_=>have d0:f 11=.slice (some ⟨v.heap.size,5,none⟩) 8 91:=hd 6 (aD (by kernel_rfl));clear hd;refine dV Tryz.func102 (lA v.heap.size 5 8 91 turn (by omega) (by omega) λi h=>by rw[xl _ (by omega),b4 i h]) ?_;rintro _ S1 w' _ ⟨rfl,e1,e2⟩;subst S1 w';rw[q4];exact dj _ w (.refl w) rfl
  |8,_=>have d0:f 7=.int .i64 (id:Nat):=hd 2 (aD (by kernel_rfl));have d1:f 10=.int .i64 (size:Nat):=hd 5 (aD (by kernel_rfl));have d2:f 12=.int .u64 (turn:Nat):=hd 7 (aD (by kernel_rfl));clear hd;refine rY aB ?_;exact dj _ w (.refl w) rfl
  |9,_=>clear hd;refine cD aB rfl rfl (by kernel_rfl) (.agg zE) rfl (by kernel_rfl) λw3 ef km ma=>?_;exact dj _ w3 ef ⟨_,rfl,hE.size,_,rfl,km⟩
  |10,_=>exact absurd rfl dy
 .rintro f S1 w rest ⟨eS,hB⟩ hf hd dj;subst S1;obtain⟨g,d0,su,c,c8,hg⟩:∃g,f 3=.pointer (some ⟨g,0,none⟩)∧w2.heap.size<=g∧∃c:Array Value,c.size=3∧w.heap[g]?=some (.cells c 120):=hd 9 (by simp);have d1:f 13=.agg (bG id size turn):=hd 8 (by simp);clear hd;refine cS aB rfl rfl (by kernel_rfl) (x:=.tmp 3) (y:=.tmp 13) (g:=g) (c:=bG id size turn) rfl (by simp[d0]) (by simp[d1]) hg (by kernel_rfl) c8 (by simp[bG,Value.oneCell']) λw3 hW=>?_;refine dj undef S w3 ⟨rfl,bO hB su hW,g,d0,su,hW.at_⟩ trivial λj x' hj h=>?_;unfold mX at h⊢;split at h<;>first|exact h|skip
  obtain⟨g',e',lj,c',nu,ks⟩:=h;by_cases e:g'=g
  .subst e;exact⟨g',e',lj,_,rfl,hW.at_⟩
  .exact⟨g',e',lj,c',nu,aO hW ks e⟩
 .rintro f S1 w ⟨eS,fj,g,g3,su,hg⟩ hf hd;subst S1;have g1:f 1=.pointer (some ⟨v.heap.size,0,none⟩):=(hf 1 (aV (by kernel_rfl))).trans (by simp);have g2:f 2=.pointer (some ⟨v.heap.size+1,0,none⟩):=(hf 2 (aV (by kernel_rfl))).trans (by simp);clear hf hd;repeat refine rN ?_
  refine iY (by kernel_rfl) (by kernel_rfl) (by kernel_rfl) 6 [0,1,2,3,4,5] (by kernel_rfl) (mW w.heap.size v.heap.size id size turn k) (λS' w'=>S'=S∧Ext w w') (λS' f w'=>S'=S∧Ext w w'∧∃g,f 4=.pointer (some ⟨g,0,none⟩)∧w.heap.size<=g∧w'.heap[g]?=some (.cells (bK id size turn k none 0 0) 143)) (λS' w w' h hE=>⟨h.1,h.2.trans _ _ _ hE⟩) (λS' i f x w w' hi hA jh=>?_) (Dl _ _ _ _ _ _) ?_ ⟨rfl,.refl _⟩ ?_ ?_ ?_
  .exfalso;have ft:i<7:=hi;simp at hA;omega
  .intro j hj he x w h;have:j=6:=by
    have jo:j<7:=hj;match j,jo with
    |0,_=>cases he
    |1,_=>cases he
    |2,_=>cases he
    |3,_=>cases he
    |4,_=>cases he
    |5,_=>cases he
    |6,_=>rfl
   subst this;exact trivial
  .intro i f' S1 w' rest hi dy hB jk ji dj;have PR:f' 1=.pointer (some ⟨v.heap.size,0,none⟩):=(jk 1 (aV (by kernel_rfl))).trans g1;have PQ:f' 3=.pointer (some ⟨g,0,none⟩):=(jk 3 (aV (by kernel_rfl))).trans g3;have ft:i<7:=hi
   obtain⟨eS,FR⟩:=hB (by
    simp
    omega)
   subst S1;have xl:=hz w' ((fj.trans _ _ _ FR).row hb);clear jk hB;match i,ft with
   |0,_=>clear ji;refine gO aB rfl rfl (by kernel_rfl) (x:=.tmp 3) (b:=g) (c:=bG id size turn) rfl (by simp[PQ]) (FR.row hg) (by kernel_rfl) (by kernel_rfl) ?_;exact dj _ w' (.refl w') rfl
   |1,_=>clear ji;refine rY aB ?_;exact dj _ w' (.refl w') rfl
   |2,_=>have d0:f' 15=.slice (some ⟨v.heap.size,4,none⟩) 1 92:=ji 1 (aD (by kernel_rfl));clear ji;refine dV Tryz.func102 (lA v.heap.size 4 1 92 k (by omega) (by omega) λi h=>by rw[xl _ (by omega),b3 i h]) ?_;rintro _ S1 w1 _ ⟨rfl,e1,e2⟩;subst S1 w1;rw[q3];exact dj _ w' (.refl w') rfl
   |3,_=>have d1:f' 16=.int .u64 (k:Nat):=ji 2 (aD (by kernel_rfl));clear ji;refine rY aB ?_;exact dj _ w' (.refl w') rfl
   |4,_=>have d0:f' 14=.agg (bG id size turn):=ji 0 (aD (by kernel_rfl));have d1:f' 17=.int .i64 (k:Nat):=ji 3 (aD (by kernel_rfl));clear ji;unfold bG at d0;refine rY aB ?_;exact dj _ w' (.refl w') rfl
   |5,_=>clear ji;refine cD aB rfl rfl (by kernel_rfl) (.agg iH) rfl (by kernel_rfl) λw3 ef km ma=>?_;exact dj _ w3 ef ⟨_,rfl,FR.size,_,rfl,km⟩
   |6,_=>exact absurd rfl dy
  .rintro f' S1 w' rest ⟨eS,hB⟩ jk ji dj;subst S1;obtain⟨g',d0,EH,c,qi,ks⟩:∃g',f' 4=.pointer (some ⟨g',0,none⟩)∧w.heap.size<=g'∧∃c:Array Value,c.size=5∧w'.heap[g']?=some (.cells c 143):=ji 5 (by simp);have d1:f' 18=.agg (bK id size turn k none 0 0):=ji 4 (by simp);clear ji;refine cS aB rfl rfl (by kernel_rfl) (x:=.tmp 4) (y:=.tmp 18) (g:=g') (c:=bK id size turn k none 0 0) rfl (by simp[d0]) (by simp[d1]) ks (by kernel_rfl) qi (by simp[bK,Value.oneCell']) λw3 hW=>?_;refine dj undef S w3 ⟨rfl,bO hB EH hW,g',d0,EH,hW.at_⟩ trivial λj x' hj h=>?_;unfold mW at h⊢;split at h<;>first|exact h|skip
   obtain⟨KN,e',lj,c',nu,xy⟩:=h;by_cases e:KN=g'
   .subst e;exact⟨KN,e',lj,_,rfl,hW.at_⟩
   .exact⟨KN,e',lj,c',nu,aO hW xy e⟩
  .rintro f' S1 w' ⟨eS,sx,gp,PO,j0,GV⟩ jk ji;subst S1;have PR:f' 1=.pointer (some ⟨v.heap.size,0,none⟩):=(jk 1 (aV (by kernel_rfl))).trans g1;have WO:f' 2=.pointer (some ⟨v.heap.size+1,0,none⟩):=(jk 2 (aV (by kernel_rfl))).trans g2;have PQ:f' 3=.pointer (some ⟨g,0,none⟩):=(jk 3 (aV (by kernel_rfl))).trans g3;clear jk ji g1 g2 g3 g0;have AM:=QG.trans _ _ _ (fj.trans _ _ _ sx);have DR:=sx.row hg;have hblk:=sx.row (fj.row hb);have iy:=sx.row (fj.row ko);have l0:w'.cell? ⟨g,0,none⟩=some (.int .i64 (id:Nat)):=(ab _ _ _ _ _ _ DR).trans rfl;have l1:w'.cell? ⟨g,1,none⟩=some (.int .i64 (size:Nat)):=(ab _ _ _ _ _ _ DR).trans rfl;have l2:w'.cell? ⟨gp,3,none⟩=some (.int .i64 (k:Nat)):=(ab _ _ _ _ _ _ GV).trans rfl;have GW:=AM.cell rv;by_cases RZ:1<=id∧id<=9999∧size<=400∧k<14;rotate_left
   .by_cases c1:id<1
    .have UN:id=0:=by omega
     have c1I:(id:Int)<1:=by omega
     subst UN;repeat (first|refine rM l0 ?_|refine rM l1 ?_|refine rM l2 ?_)
     refine rX (by simp[Act.eval]) ?_;repeat refine rM GW ?_
     refine pD (x:=.iface t e) (by simp[base]) rfl rfl ?_ ?_ λtodo=>?_
     .exact pH (t:=t) (e:=e) rfl (by simp)
     .exact λu hu=>pI (t:=t) (e:=e) rfl (by simp)
     .exact ret _ _ _ _ _ ⟨rfl,rfl,AM⟩
    .have n1:¬id<1:=by omega
     have n5:¬id=0:=by omega
     have i1:¬(id:Int)<1:=by omega
     by_cases c2:9999<id
     .have c2I:(9999:Int)<(id:Int):=by omega
      repeat (first|refine rM l0 ?_|refine rM l1 ?_|refine rM l2 ?_)
      refine rX (by simp[Act.eval,n1,n5,i1,c2,c2I]) ?_;repeat refine rM GW ?_
      refine pD (x:=.iface t e) (by simp[base]) rfl rfl ?_ ?_ λtodo=>?_
      .exact pH (t:=t) (e:=e) rfl (by simp)
      .exact λu hu=>pI (t:=t) (e:=e) rfl (by simp)
      .exact ret _ _ _ _ _ ⟨rfl,rfl,AM⟩
     .have n2:¬9999<id:=by omega
      have i2:¬(9999:Int)<(id:Int):=by omega
      by_cases c3:400<size
      .have c3I:(400:Int)<(size:Int):=by omega
       repeat (first|refine rM l0 ?_|refine rM l1 ?_|refine rM l2 ?_)
       refine rX (by simp[Act.eval,n1,n5,i1,n2,i2,c3,c3I]) ?_;repeat refine rM GW ?_
       refine pD (x:=.iface t e) (by simp[base]) rfl rfl ?_ ?_ λtodo=>?_
       .exact pH (t:=t) (e:=e) rfl (by simp)
       .exact λu hu=>pI (t:=t) (e:=e) rfl (by simp)
       .exact ret _ _ _ _ _ ⟨rfl,rfl,AM⟩
      .have n3:¬400<size:=by omega
       have i3:¬(400:Int)<(size:Int):=by omega
       have c4:14<=k:=by omega
       have c4I:(14:Int)<=(k:Int):=by omega
       repeat (first|refine rM l0 ?_|refine rM l1 ?_|refine rM l2 ?_)
       refine rX (by simp[Act.eval,n1,n5,i1,n2,i2,n3,i3,c4,c4I]) ?_;repeat refine rM GW ?_
       refine pD (x:=.iface t e) (by simp[base]) rfl rfl ?_ ?_ λtodo=>?_
       .exact pH (t:=t) (e:=e) rfl (by simp)
       .exact λu hu=>pI (t:=t) (e:=e) rfl (by simp)
       .exact ret _ _ _ _ _ ⟨rfl,rfl,AM⟩
   obtain⟨GR,hid,fo,hk⟩:=RZ;obtain⟨m,hm⟩:∃m,m=(size+9)/10:=⟨_,rfl⟩;have sf:m<=79:=by omega
   have HM:=aP hm;clear hm;have i1:¬(id:Int)<1:=by omega
   have i2:¬(9999:Int)<(id:Int):=by omega
   have i3:¬(400:Int)<(size:Int):=by omega
   have i4:¬(14:Int)<=(k:Int):=by omega
   have n1:¬id<1:=by omega
   have n2:¬9999<id:=by omega
   have n3:¬400<size:=by omega
   have n4:¬14<=k:=by omega
   have n5:¬id=0:=by omega
   repeat (first|refine rM l0 ?_|refine rM l1 ?_|refine rM l2 ?_)
   refine rZ (by simp[Act.eval,i1,i2,i3,i4,n1,n2,n3,n4,n5]) ?_;repeat refine rN ?_
   obtain⟨ib,zb,qd,qu,rr,xa,va⟩:=oR;have XA:zb.cells=#[zb]:=Bo qd qu;refine aN (Q:=λy' w3=>y'=.slice (some ⟨w'.heap.size,0,none⟩) 0 0∧Ext w' w3∧w3.heap[w'.heap.size]?=some (.cells #[] 5)∧w3.heap.size=w'.heap.size+1) aB rfl rfl (by kernel_rfl) (λu hu=>⟨_,_,.inl (Cf rfl Tryz.underlying43 qd qu rr XA u),by rw[hu.heap],(Ext.twin hu).trans _ _ _ (Ext.alloc _ _),by rw[<-hu.heap];exact bI _ _,by rw[jO,hu.heap]⟩) ?_;rintro _ w3 ⟨rfl,ef,km,ma⟩;simp only[stO_some];have WU:=ef.cell l1;repeat refine rM WU ?_
   refine rK Tryz.func75 (vR size fo) ?_;rintro _ S1 w4 _ ⟨rfl,e1,e2⟩;subst S1 w4;rw[<-HM.out];have j1:(13:Int)<=13+(m:Int):=by omega
   have j2:(13:Int)+(m:Int)<=96:=by omega
   have j3:((13:Int)+(m:Int)).toNat=13+m:=by omega
   have j4:(0:Int)<=13+(m:Int):=by omega
   have j5:(13:Int)<=max (13+(m:Int)) 0:=by omega
   have j6:((13:Int)+(m:Int)).toNat-13=m:=by omega
   repeat refine rN ?_
   have EE:=ef.row hblk;have gm:w3.ownsRow w'.heap.size 5 1 (.slice (some ⟨w'.heap.size,0,none⟩) 0 0) 0 []:=⟨rfl,.inr ⟨_,0,#[],rfl,ae _,km,ae _,Nat.zero_le _,rfl,rfl⟩⟩;refine aN (Q:=λy' w4=>w4.ownsRow w'.heap.size 5 1 y' (0+m) ([]++(List.range m).map λj=>Value.int .u8 ((x (13+j):Nat):Int))∧Gr w3 w4 (Value.slice (some ⟨w'.heap.size,0,none⟩) 0 0).ownBlock∧(y'=.slice none 0 0↔(Value.slice (some ⟨w'.heap.size,0,none⟩) 0 0)=.slice none 0 0∧m=0)) aB rfl rfl (by kernel_rfl) (λu hu=>mB (s:=.tmp 38) (x:=.tmp 43) (ad:=⟨v.heap.size,13,none⟩) (c:=83) hu _ Tryz.underlying43 qd qu rr xa va gm (by simp) (λj z hj=>?_) kX (by omega) (by omega) (by omega) rfl (by simp) (by simp)) ?_
   .obtain⟨ZI,rfl⟩:=oC hj;rw[Addr.add_lit];show w3.cell? ⟨v.heap.size,13+j,none⟩=_;rw[hz w3 EE _ (by omega)]
   rintro y' w4 ⟨AV,TY,RJ⟩;simp only[stO_some];rw[an,List.nil_append]at AV;obtain⟨gB,cap,cur,rfl,hgB,YD,AB,ns,uk⟩:=lD AV (.inr λe=>by have:=(RJ.1 e).1;cases this);have gn:Ext w' w4:=TY.over ef λb e=>by simp only[Value.ownBlock,cr]at e;omega
   clear TY RJ AV gm km;have MG:=gn.row GV;have SI:gp<w'.heap.size:=(Array.getElem?_eq_some_iff.1 GV).1;repeat refine rN ?_
   refine dQ aB rfl rfl (by kernel_rfl) (x:=.tmp 45) (y:=.tmp 44) (g:=gp) (j:=4) (z:=.slice (some ⟨gB,0,none⟩) m cap) rfl (by simp) (by simp) rfl rfl MG (by simp[bK]) (by kernel_rfl) λw5 jc=>?_;simp only[stO_none];have GU:w5.heap[gp]?=some (.cells (bK id size turn k (some ⟨gB,0,none⟩) m cap) 143):=jc.at_;have lh:Ext v w5:=bO (AM.trans _ _ _ gn) (ak QG.size (ak fj.size j0)) jc
   have ED:w5.heap[v.heap.size]?=some (.cells (aE 96 x) 137):=aO jc (gn.row hblk) (λe=>by
    rw[e,GV]at hblk
    exact absurd (Obj.cells.inj (bm hblk)).2.1 (by decide))
   have JB:w5.heap[v.heap.size+1]?=some (.cells #[.int .i64 0,.int .i64 0,.int .u64 0,.int .i64 0,.slice none 0 0] 143):=aO jc (gn.row iy) (λe=>by
    have h1:v.heap.size+1<w2.heap.size:=(Array.getElem?_eq_some_iff.1 ko).1;have h2:=fj.size
    omega)
   have GG:=aO jc YD (by omega);have NJ:dD w5 gB 0 m (λi=>x (13+i)):=λi hi=>by rw[an,ab _ _ _ _ _ _ GG,uk i hi];simp[hi]
   repeat refine rN ?_
   refine Bc (by kernel_rfl) (by kernel_rfl) (by kernel_rfl) (P6 (.agg (aE 96 (bB id size turn k m λi=>x (13+i)))) (.agg (aE 96 x)) (.agg (bK id size turn k (some ⟨gB,0,none⟩) m cap))) (λj x w w' h hE=>h) ?_ ?_ ?_
   .intro j hj he x w h;have jo:j<4:=hj;match j,jo with
    |0,_=>cases he
    |1,_=>cases he
    |2,_=>cases he
    |3,_=>cases he
   .intro i uy w6 rest hi ew nq kh dj;have r1:uy 1=.pointer (some ⟨v.heap.size,0,none⟩):=(nq 1 (aV (by kernel_rfl))).trans (by simp[PR]);have r4:uy 4=.pointer (some ⟨gp,0,none⟩):=(nq 4 (aV (by kernel_rfl))).trans (by simp[PO]);have ft:i<4:=hi;clear nq;match i,ft with
    |0,_=>clear kh;refine gO aB rfl rfl (by kernel_rfl) (x:=.tmp 4) (b:=gp) rfl (by simp[r4]) (ew.row GU) (by kernel_rfl) (by kernel_rfl) ?_;exact dj _ w6 (.refl w6) rfl
    |1,_=>have d0:uy 46=.agg (bK id size turn k (some ⟨gB,0,none⟩) m cap):=kh 0 (aD (by kernel_rfl));clear kh;refine dV Tryz.func85 (yZ id size turn k m cap gB 0 (λi=>x (13+i)) hid fo hk (by omega) sf (λi=>hx _) (NJ.ext ew)) ?_;rintro _ S1 w7 _ ⟨rfl,e1,ve⟩;subst S1;exact dj _ w7 ve rfl
    |2,_=>clear kh;refine gO aB rfl rfl (by kernel_rfl) (x:=.tmp 1) (b:=v.heap.size) rfl (by simp[r1]) (ew.row ED) (by kernel_rfl) (by rw[eB];kernel_rfl) ?_;exact dj _ w6 (.refl w6) rfl
    |3,_=>
     have d0:uy 47=.agg (aE 96 (bB id size turn k m λi=>x (13+i))):=kh 1 (aD (by kernel_rfl));have d1:uy 48=.agg (aE 96 x):=kh 2 (aD (by kernel_rfl));clear kh;refine bV aB rfl rfl (by kernel_rfl) (λu hu=>Cc (xo:=.tmp 47) (yo:=.tmp 48) (x:=bB id size turn k m λi=>x (13+i)) (y:=x) rfl (by simp[d0]) (by simp[d1])) ?_;have dy:dI (bB id size turn k m λi=>x (13+i)) x 0 96=false:=by
      cases hq:dI (bB id size turn k m λi=>x (13+i)) x 0 96 with
      |false=>rfl
      |true=>exact absurd ⟨GR,hid,fo,hk,λj hj=>by rw[<-HM.out];exact(lG _ _ 96 0).1 hq j (by omega) (by omega)⟩ lq
     rw[dy];exact dj _ w6 (.refl w6) rfl
   .intro uy w6 ew nq kh;have r2:uy 2=.pointer (some ⟨v.heap.size+1,0,none⟩):=(nq 2 (aV (by kernel_rfl))).trans (by simp[WO]);have r4:uy 4=.pointer (some ⟨gp,0,none⟩):=(nq 4 (aV (by kernel_rfl))).trans (by simp[PO]);have d3:uy 49=.bool true:=kh 3 (by decide);have ru:=ew.cell (lh.cell rv);clear nq kh;repeat refine rN ?_
    refine rX (by simp[Act.eval,d3]) ?_;repeat refine rM ru ?_
    refine pD (x:=.iface t e) (by simp[base]) rfl rfl ?_ ?_ λtodo=>?_
    .exact pH (t:=t) (e:=e) rfl (by simp)
    .exact λu hu=>pI (t:=t) (e:=e) rfl (by simp)
    .exact ret _ _ _ _ _ ⟨rfl,rfl,lh.trans _ _ _ ew⟩
