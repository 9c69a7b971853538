import Derived.Test.YtpiefebngnlfoabGreatDoorMa
set_option maxRecDepth 99999
set_option maxHeartbeats 0
set_option linter.unusedVariables false
set_option linter.unusedSimpArgs false
namespace Go.Proofs.YtpiefebngnlfoabGreatDoor
open Go.RowKit Go.Conc Go.Vw
theorem Ck{i:TypeInfo}{z:Value}(h:Tryz.prog.info? 5=some i)(hz:i.zero=some z):z.cells=#[z]:=by
 have:Tryz.prog.info? 5=some _:=rfl;rw[this]at h;cases h
 cases hz
 rfl
theorem Cy{P:Program}{o:Oper}{a:Act}{t e:TypeId}{i:TypeInfo}{z:Value}(hop:o.op=Op.buildSlice t 0 #[])(h1:P.underlying t=some (.slice e))(h2:P.info? e=some i)(h3:i.zero=some z)(h4:i.size=1)(h6:z.cells=#[z])(u:World) :
  (execOp a.eval o).run P u=.ok (.value (.slice (some ⟨u.heap.size,0,none⟩) 0 0)) (u.alloc (.cells #[] e)):=by
 simp[execOp,hop,Instr.buildSlice,run_underlying h1,sizeOf,typeInfo,h2,h4,zeroValue,h3,h6,Instr.fill,newRow];congr 2;apply Array.ext';simp
theorem Gb{id size turn k m:Nat}{y:Nat->Nat}{i:Nat}(hi:i<2):aY id size turn k m y i=bA id i:=by
 unfold aY eB eQ;rw[if_neg (by omega)];dsimp only;rw[if_neg (by omega),if_neg (by omega),if_neg (by omega),if_neg (by omega),if_pos (by omega),Nat.sub_zero]
theorem Cu{id size turn k m:Nat}{y:Nat->Nat}{i:Nat}(hi:i<2):aY id size turn k m y (2+i)=bA size i:=by
 unfold aY eB eQ;rw[if_neg (by omega)];dsimp only;rw[if_neg (by omega),if_neg (by omega),if_neg (by omega),if_pos (by omega),show 2+i - 2=i by omega]
theorem El{id size turn k m:Nat}{y:Nat->Nat}{i:Nat}(hi:i<1):aY id size turn k m y (4+i)=bA k i:=by
 unfold aY eB eQ;rw[if_neg (by omega)];dsimp only;rw[if_neg (by omega),if_neg (by omega),if_pos (by omega),show 4+i - 4=i by omega]
theorem Ct{id size turn k m:Nat}{y:Nat->Nat}{i:Nat}(hi:i<8):aY id size turn k m y (5+i)=bA turn i:=by
 unfold aY eB eQ;rw[if_neg (by omega)];dsimp only;rw[if_neg (by omega),if_pos (by omega),show 5+i - 5=i by omega]
theorem Ca{id size turn k m:Nat}{y:Nat->Nat}{i:Nat}(hm:m<=79)(hi:i<m):aY id size turn k m y (13+i)=y i:=by
 unfold aY eQ eB;rw[if_neg (by omega),if_pos (by omega),show 13+i - 13=i by omega]
def bC(id size turn:Nat):Array Value:=#[.int .i64 (id:Nat),.int .i64 (size:Nat),.int .u64 (turn:Nat)]
def nJ(V B id size turn:Nat)(j:Nat)(x:Value)(w:World):Prop:=
 match j with
 |0=>x=.slice (some ⟨B,0,none⟩) 2 96
 |1=>x=.int .u64 (id:Nat)
 |2=>x=.int .i64 (id:Nat)
 |3=>x=.slice (some ⟨B,2,none⟩) 2 94
 |4=>x=.int .u64 (size:Nat)
 |5=>x=.int .i64 (size:Nat)
 |6=>x=.slice (some ⟨B,5,none⟩) 8 91
 |7=>x=.int .u64 (turn:Nat)
 |8=>x=.agg (bC id size turn)
 |9=>∃ g,x=.pointer (some ⟨g,0,none⟩)∧V<=g∧∃ c:Array Value,c.size=3∧w.heap[g]?=some (.cells c 78)
 |_=>True
theorem Ek(V B id size turn:Nat):∀ j x w w',nJ V B id size turn j x w->Ext w w'->nJ V B id size turn j x w':=by
 intro j x w w' h hE;unfold nJ at h ⊢;split at h<;>first|exact h|skip
 obtain⟨g,e,h1,c,h2,hg⟩:=h;exact⟨g,e,h1,c,h2,hE.row hg⟩
def nI(V B id size turn k:Nat)(j:Nat)(x:Value)(w:World):Prop:=
 match j with
 |0=>x=.agg (bC id size turn)
 |1=>x=.slice (some ⟨B,4,none⟩) 1 92
 |2=>x=.int .u64 (k:Nat)
 |3=>x=.int .i64 (k:Nat)
 |4=>x=.agg (bK id size turn k none 0 0)
 |5=>∃ g,x=.pointer (some ⟨g,0,none⟩)∧V<=g∧∃ c:Array Value,c.size=5∧w.heap[g]?=some (.cells c 143)
 |_=>True
theorem Ej(V B id size turn k:Nat):∀ j x w w',nI V B id size turn k j x w->Ext w w'->nI V B id size turn k j x w':=by
 intro j x w w' h hE;unfold nI at h ⊢;split at h<;>first|exact h|skip
 obtain⟨g,e,h1,c,h2,hg⟩:=h;exact⟨g,e,h1,c,h2,hE.row hg⟩
def zbJ(blk pc:Value)(j:Nat)(x:Value)(w:World):Prop:=
 match j with
 |0=>x=pc
 |1=>x=blk
 |2=>x=blk
 |3=>x=.bool false
 |_=>True
theorem Xt{S:Nat->Prop}{v:World}(id size turn k m:Nat)(y:Nat->Nat)(hid:id<=9999)(hid0:1<=id)(hsz:size<=400)(hk:k<14)(ht:turn<18446744073709551616)(hm:m=(size+9) / 10)(hy:∀ i,y i<256) :
  aK Tryz.prog 92 #[.agg (aC 96 (aY id size turn k m y))] S v fun x S' v'=>S'=S∧Ext v v'∧∃ B c,x=.agg (bK id size turn k (some ⟨B,0,none⟩) m c)∧m<=c∧v.heap.size<=B∧eA v' B 0 m y∧∃ C,v'.heap[B]?=some (.cells C 5):=by
 refine dU Tryz.func92 rfl Tryz.ntmps92 fun Stop cc cs ret f g0=>?_
 have hm79:m<=79:=by omega
 have HM:=aE hm;clear hm;repeat refine rN ?_
 refine bO (Q:=fun y' w=>y'=.pointer (some ⟨v.heap.size,0,none⟩)∧Ext v w∧w.heap[v.heap.size]?=some (.cells (aC 96 (aY id size turn k m y)) 107)∧w.heap.size=v.heap.size+1) aB rfl rfl (by kernel_rfl) (fun u hu=>⟨_,_,.inl (gM (x:=.tmp 0) (y:=.agg (aC 96 (aY id size turn k m y))) rfl (by simp[g0]) u),by rw[hu.heap],(Ext.twin hu).trans _ _ _ (Ext.alloc _ _),by rw[<-hu.heap];exact cI _ _,by rw[jY,hu.heap]⟩) ?_
 rintro _ w1 ⟨rfl,hE1,hb1,hs1⟩;simp only[stO_some];refine cQ aB rfl rfl (by kernel_rfl) (.agg #[.int .i64 0,.int .i64 0,.int .u64 0,.int .i64 0,.slice none 0 0]) rfl (by kernel_rfl) fun w2 hE2 hb2 hs2=>?_
 simp only[stO_some];repeat refine rN ?_
 rw[hs1]at hb2;rw[show w1.heap.size=v.heap.size+1 by omega];have hb:w2.heap[v.heap.size]?=some (.cells (aC 96 (aY id size turn k m y)) 107):=hE2.row hb1;have hv2:=hE1.trans _ _ _ hE2;clear hE1 hE2 hb1;have hz:∀ w:World,w.heap[v.heap.size]?=some (.cells (aC 96 (aY id size turn k m y)) 107)->∀ i,i<96->w.cell? ⟨v.heap.size,i,none⟩=some (.int .u8 (aY id size turn k m y i:Nat)):=fun w hw i hi=>by
  rw[cell_of_row _ _ _ _ _ _ hw];exact dZ _ _ _ hi
 have q1:id % 256 ^ 2=id:=Nat.mod_eq_of_lt (by omega);have q2:size % 256 ^ 2=size:=Nat.mod_eq_of_lt (by omega);have q3:k % 256 ^ 1=k:=Nat.mod_eq_of_lt (by omega);have q4:turn % 256 ^ 8=turn:=Nat.mod_eq_of_lt (by omega);refine jN (by kernel_rfl) (by kernel_rfl) (by kernel_rfl) 10 [0,1,2,3,4,5,6,7,8,9] (by kernel_rfl) (nJ w2.heap.size v.heap.size id size turn) (fun S' w=>S'=S∧Ext w2 w) (fun S' f w=>S'=S∧Ext w2 w∧∃ g,f 3=.pointer (some ⟨g,0,none⟩)∧w2.heap.size<=g∧w.heap[g]?=some (.cells (bC id size turn) 78)) (fun S' w w' h hE=>⟨h.1,h.2.trans _ _ _ hE⟩) (fun S' i f x w w' hi hA hm'=>?_) (Ek _ _ _ _ _) ?_ ⟨rfl,.refl _⟩ ?_ ?_ ?_
 .exfalso;have hi':i<11:=hi;simp at hA;omega
 .intro j hj he x w h;have:j=10:=by
   have hj':j<11:=hj;match j,hj' with
   |0,_=>cases he
   |1,_=>cases he
   |2,_=>cases he
   |3,_=>cases he
   |4,_=>cases he
   |5,_=>cases he
   |6,_=>cases he
   |7,_=>cases he
   |8,_=>cases he
   |9,_=>cases he
   |10,_=>rfl
  subst this;exact trivial
 .intro i f S1 w rest hi hne hB hf hd nxt;have g1:f 1=.pointer (some ⟨v.heap.size,0,none⟩):=(hf 1 (aW (by kernel_rfl))).trans (by simp);have hi':i<11:=hi
  obtain⟨eS,hE⟩:=hB (by
   simp
   omega)
  subst S1;have hz':=hz w (hE.row hb);clear hf hB;match i,hi' with
  |0,_=>
   clear hd;refine rY aB ?_;exact nxt _ w (.refl w) rfl
  |1,_=>
   have d0:f 5=.slice (some ⟨v.heap.size,0,none⟩) 2 96:=hd 0 (aD (by kernel_rfl));clear hd;refine dK Tryz.func116 (lK v.heap.size 0 2 96 id (by omega) (by omega) fun i h=>by rw[hz' _ (by omega),Nat.zero_add,Gb h]) ?_
   rintro _ S1 w' _ ⟨rfl,e1,e2⟩;subst S1 w';rw[q1];exact nxt _ w (.refl w) rfl
  |2,_=>
   have d1:f 6=.int .u64 (id:Nat):=hd 1 (aD (by kernel_rfl));clear hd;refine rY aB ?_;exact nxt _ w (.refl w) rfl
  |3,_=>
   clear hd;refine rY aB ?_;exact nxt _ w (.refl w) rfl
  |4,_=>
   have d0:f 8=.slice (some ⟨v.heap.size,2,none⟩) 2 94:=hd 3 (aD (by kernel_rfl));clear hd;refine dK Tryz.func116 (lK v.heap.size 2 2 94 size (by omega) (by omega) fun i h=>by rw[hz' _ (by omega),Cu h]) ?_
   rintro _ S1 w' _ ⟨rfl,e1,e2⟩;subst S1 w';rw[q2];exact nxt _ w (.refl w) rfl
  |5,_=>
   have d1:f 9=.int .u64 (size:Nat):=hd 4 (aD (by kernel_rfl));clear hd;refine rY aB ?_;exact nxt _ w (.refl w) rfl
  |6,_=>
   clear hd;refine rY aB ?_;exact nxt _ w (.refl w) rfl
  |7,_=>
   have d0:f 11=.slice (some ⟨v.heap.size,5,none⟩) 8 91:=hd 6 (aD (by kernel_rfl));clear hd;refine dK Tryz.func116 (lK v.heap.size 5 8 91 turn (by omega) (by omega) fun i h=>by rw[hz' _ (by omega),Ct h]) ?_
   rintro _ S1 w' _ ⟨rfl,e1,e2⟩;subst S1 w';rw[q4];exact nxt _ w (.refl w) rfl
  |8,_=>
   have d0:f 7=.int .i64 (id:Nat):=hd 2 (aD (by kernel_rfl));have d1:f 10=.int .i64 (size:Nat):=hd 5 (aD (by kernel_rfl));have d2:f 12=.int .u64 (turn:Nat):=hd 7 (aD (by kernel_rfl));clear hd;refine rY aB ?_;exact nxt _ w (.refl w) rfl
  |9,_=>
   clear hd;refine cQ aB rfl rfl (by kernel_rfl) (.agg Ae) rfl (by kernel_rfl) fun w3 hE3 hb3 hs3=>?_
   exact nxt _ w3 hE3 ⟨_,rfl,hE.size,_,rfl,hb3⟩
  |10,_=>exact absurd rfl hne
 .rintro f S1 w rest ⟨eS,hB⟩ hf hd nxt;subst S1;obtain⟨g,d0,hVg,c,hc3,hg⟩:∃ g,f 3=.pointer (some ⟨g,0,none⟩)∧w2.heap.size<=g∧∃ c:Array Value,c.size=3∧w.heap[g]?=some (.cells c 78):=hd 9 (by simp);have d1:f 13=.agg (bC id size turn):=hd 8 (by simp);clear hd;refine dF aB rfl rfl (by kernel_rfl) (x:=.tmp 3) (y:=.tmp 13) (g:=g) (c:=bC id size turn) rfl (by simp[d0]) (by simp[d1]) hg (by kernel_rfl) hc3 (by simp[bC,Value.oneCell']) fun w3 hW=>?_
  refine nxt undef S w3 ⟨rfl,bL hB hVg hW,g,d0,hVg,hW.at_⟩ trivial fun j x' hj h=>?_
  unfold nJ at h ⊢;split at h<;>first|exact h|skip
  obtain⟨g',e',h1',c',h2',hg'⟩:=h;by_cases e:g'=g
  .subst e;exact⟨g',e',h1',_,rfl,hW.at_⟩
  .exact⟨g',e',h1',c',h2',aO hW hg' e⟩
 .rintro f S1 w ⟨eS,hEw,g,g3,hVg,hg⟩ hf hd;subst S1;have g1:f 1=.pointer (some ⟨v.heap.size,0,none⟩):=(hf 1 (aW (by kernel_rfl))).trans (by simp);have g2:f 2=.pointer (some ⟨v.heap.size+1,0,none⟩):=(hf 2 (aW (by kernel_rfl))).trans (by simp);clear hf hd;repeat refine rN ?_
  refine jN (by kernel_rfl) (by kernel_rfl) (by kernel_rfl) 6 [0,1,2,3,4,5] (by kernel_rfl) (nI w.heap.size v.heap.size id size turn k) (fun S' w'=>S'=S∧Ext w w') (fun S' f w'=>S'=S∧Ext w w'∧∃ g,f 4=.pointer (some ⟨g,0,none⟩)∧w.heap.size<=g∧w'.heap[g]?=some (.cells (bK id size turn k none 0 0) 143)) (fun S' w w' h hE=>⟨h.1,h.2.trans _ _ _ hE⟩) (fun S' i f x w w' hi hA hm'=>?_) (Ej _ _ _ _ _ _) ?_ ⟨rfl,.refl _⟩ ?_ ?_ ?_
  .exfalso;have hi':i<7:=hi;simp at hA;omega
  .intro j hj he x w h;have:j=6:=by
    have hj':j<7:=hj;match j,hj' with
    |0,_=>cases he
    |1,_=>cases he
    |2,_=>cases he
    |3,_=>cases he
    |4,_=>cases he
    |5,_=>cases he
    |6,_=>rfl
   subst this;exact trivial
  .intro i f' S1 w' rest hi hne hB hf' hd' nxt;have q1':f' 1=.pointer (some ⟨v.heap.size,0,none⟩):=(hf' 1 (aW (by kernel_rfl))).trans g1;have q3':f' 3=.pointer (some ⟨g,0,none⟩):=(hf' 3 (aW (by kernel_rfl))).trans g3;have hi':i<7:=hi
   obtain⟨eS,hE'⟩:=hB (by
    simp
    omega)
   subst S1;have hz':=hz w' ((hEw.trans _ _ _ hE').row hb);clear hf' hB;match i,hi' with
   |0,_=>
    clear hd';refine iF aB rfl rfl (by kernel_rfl) (x:=.tmp 3) (b:=g) (c:=bC id size turn) rfl (by simp[q3']) (hE'.row hg) (by kernel_rfl) (by kernel_rfl) ?_;exact nxt _ w' (.refl w') rfl
   |1,_=>
    clear hd';refine rY aB ?_;exact nxt _ w' (.refl w') rfl
   |2,_=>
    have d0:f' 15=.slice (some ⟨v.heap.size,4,none⟩) 1 92:=hd' 1 (aD (by kernel_rfl));clear hd';refine dK Tryz.func116 (lK v.heap.size 4 1 92 k (by omega) (by omega) fun i h=>by rw[hz' _ (by omega),El h]) ?_
    rintro _ S1 w1 _ ⟨rfl,e1,e2⟩;subst S1 w1;rw[q3];exact nxt _ w' (.refl w') rfl
   |3,_=>
    have d1:f' 16=.int .u64 (k:Nat):=hd' 2 (aD (by kernel_rfl));clear hd';refine rY aB ?_;exact nxt _ w' (.refl w') rfl
   |4,_=>
    have d0:f' 14=.agg (bC id size turn):=hd' 0 (aD (by kernel_rfl));have d1:f' 17=.int .i64 (k:Nat):=hd' 3 (aD (by kernel_rfl));clear hd';unfold bC at d0;refine rY aB ?_;exact nxt _ w' (.refl w') rfl
   |5,_=>
    clear hd';refine cQ aB rfl rfl (by kernel_rfl) (.agg iW) rfl (by kernel_rfl) fun w3 hE3 hb3 hs3=>?_
    exact nxt _ w3 hE3 ⟨_,rfl,hE'.size,_,rfl,hb3⟩
   |6,_=>exact absurd rfl hne
  .rintro f' S1 w' rest ⟨eS,hB⟩ hf' hd' nxt;subst S1;obtain⟨g',d0,hVg',c,hc5,hg'⟩:∃ g',f' 4=.pointer (some ⟨g',0,none⟩)∧w.heap.size<=g'∧∃ c:Array Value,c.size=5∧w'.heap[g']?=some (.cells c 143):=hd' 5 (by simp);have d1:f' 18=.agg (bK id size turn k none 0 0):=hd' 4 (by simp);clear hd';refine dF aB rfl rfl (by kernel_rfl) (x:=.tmp 4) (y:=.tmp 18) (g:=g') (c:=bK id size turn k none 0 0) rfl (by simp[d0]) (by simp[d1]) hg' (by kernel_rfl) hc5 (by simp[bK,Value.oneCell']) fun w3 hW=>?_
   refine nxt undef S w3 ⟨rfl,bL hB hVg' hW,g',d0,hVg',hW.at_⟩ trivial fun j x' hj h=>?_
   unfold nI at h ⊢;split at h<;>first|exact h|skip
   obtain⟨g2',e',h1',c',h2',hg2⟩:=h;by_cases e:g2'=g'
   .subst e;exact⟨g2',e',h1',_,rfl,hW.at_⟩
   .exact⟨g2',e',h1',c',h2',aO hW hg2 e⟩
  .rintro f' S1 w' ⟨eS,hEw',gp,q4',hVp,hgp⟩ hf' hd';subst S1;have q1':f' 1=.pointer (some ⟨v.heap.size,0,none⟩):=(hf' 1 (aW (by kernel_rfl))).trans g1;have q2':f' 2=.pointer (some ⟨v.heap.size+1,0,none⟩):=(hf' 2 (aW (by kernel_rfl))).trans g2;have q3':f' 3=.pointer (some ⟨g,0,none⟩):=(hf' 3 (aW (by kernel_rfl))).trans g3;clear hf' hd' g1 g2 g3 g0;have hEv:=hv2.trans _ _ _ (hEw.trans _ _ _ hEw');have hlab:=hEw'.row hg;have hblk:=hEw'.row (hEw.row hb);have hres:=hEw'.row (hEw.row hb2);have l0:w'.cell? ⟨g,0,none⟩=some (.int .i64 (id:Nat)):=(cell_of_row _ _ _ _ _ _ hlab).trans rfl;have l1:w'.cell? ⟨g,1,none⟩=some (.int .i64 (size:Nat)):=(cell_of_row _ _ _ _ _ _ hlab).trans rfl;have l2:w'.cell? ⟨gp,3,none⟩=some (.int .i64 (k:Nat)):=(cell_of_row _ _ _ _ _ _ hgp).trans rfl;have i1:¬(id:Int)<1:=by omega
   have i2:¬(9999:Int)<(id:Int):=by omega
   have i3:¬(400:Int)<(size:Int):=by omega
   have i4:¬(14:Int)<=(k:Int):=by omega
   have n1:¬id<1:=by omega
   have n2:¬9999<id:=by omega
   have n3:¬400<size:=by omega
   have n4:¬14<=k:=by omega
   have n5:¬id=0:=by omega
   repeat (first|refine rM l0 ?_|refine rM l1 ?_|refine rM l2 ?_)
   refine rZ (by simp[Act.eval,i1,i2,i3,i4,n1,n2,n3,n4,n5]) ?_;repeat refine rN ?_
   obtain⟨ib,zb,ib1,ib2,ib3,ib4,ib5⟩:=vS;have hzc:zb.cells=#[zb]:=Ck ib1 ib2;refine bO (Q:=fun y' w3=>y'=.slice (some ⟨w'.heap.size,0,none⟩) 0 0∧Ext w' w3∧w3.heap[w'.heap.size]?=some (.cells #[] 5)∧w3.heap.size=w'.heap.size+1) aB rfl rfl (by kernel_rfl) (fun u hu=>⟨_,_,.inl (Cy rfl Tryz.underlying48 ib1 ib2 ib3 hzc u),by rw[hu.heap],(Ext.twin hu).trans _ _ _ (Ext.alloc _ _),by rw[<-hu.heap];exact cI _ _,by rw[jY,hu.heap]⟩) ?_
   rintro _ w3 ⟨rfl,hE3,hb3,hs3⟩;simp only[stO_some];have l1':=hE3.cell l1;repeat refine rM l1' ?_
   refine rK Tryz.func56 (wZ size hsz) ?_;rintro _ S1 w4 _ ⟨rfl,e1,e2⟩;subst S1 w4;rw[<-HM.out];have j1:(13:Int)<=13+(m:Int):=by omega
   have j2:(13:Int)+(m:Int)<=96:=by omega
   have j3:((13:Int)+(m:Int)).toNat=13+m:=by omega
   have j4:(0:Int)<=13+(m:Int):=by omega
   have j5:(13:Int)<=max (13+(m:Int)) 0:=by omega
   have j6:((13:Int)+(m:Int)).toNat - 13=m:=by omega
   repeat refine rN ?_
   have hblk3:=hE3.row hblk;have hown:w3.ownsRow w'.heap.size 5 1 (.slice (some ⟨w'.heap.size,0,none⟩) 0 0) 0 []:=⟨rfl,.inr ⟨_,0,#[],rfl,Nat.le_refl _,hb3,Nat.le_refl _,Nat.zero_le _,rfl,rfl⟩⟩;refine bO (Q:=fun y' w4=>w4.ownsRow w'.heap.size 5 1 y' (0+m) ([]++(List.range m).map fun j=>Value.int .u8 ((y j:Nat):Int))∧Gr w3 w4 (Value.slice (some ⟨w'.heap.size,0,none⟩) 0 0).ownBlock∧(y'=.slice none 0 0↔(Value.slice (some ⟨w'.heap.size,0,none⟩) 0 0)=.slice none 0 0∧m=0)) aB rfl rfl (by kernel_rfl) (fun u hu=>qC (s:=.tmp 38) (x:=.tmp 43) (ad:=⟨v.heap.size,13,none⟩) (c:=83) hu _ Tryz.underlying48 ib1 ib2 ib3 ib4 ib5 hown (by simp) (fun j z hj=>?_) oL (by omega) (by omega) (by omega) rfl (by simp) (by simp)) ?_
   .obtain⟨hjm,rfl⟩:=oM hj;rw[Addr.add_lit];show w3.cell? ⟨v.heap.size,13+j,none⟩=_;rw[hz w3 hblk3 _ (by omega),Ca hm79 hjm]
   rintro y' w4 ⟨ho4,hG4,hn4⟩;simp only[stO_some];rw[Nat.zero_add,List.nil_append]at ho4;obtain⟨gB,cap,cur,rfl,hgB,hrB,hcap,hcs,hcur⟩:=lO ho4 (.inr fun e=>by have:=(hn4.1 e).1;cases this)
   have hE4:Ext w' w4:=hG4.over hE3 fun b e=>by
    simp only[Value.ownBlock,Option.some.injEq]at e;omega
   clear hG4 hn4 ho4 hown hb3;have hgp4:=hE4.row hgp;have hgplt:gp<w'.heap.size:=(Array.getElem?_eq_some_iff.1 hgp).1;repeat refine rN ?_
   refine eT aB rfl rfl (by kernel_rfl) (x:=.tmp 45) (y:=.tmp 44) (g:=gp) (j:=4) (z:=.slice (some ⟨gB,0,none⟩) m cap) rfl (by simp) (by simp) rfl rfl hgp4 (by simp[bK]) (by kernel_rfl) fun w5 hW5=>?_
   simp only[stO_none];have hgp5:w5.heap[gp]?=some (.cells (bK id size turn k (some ⟨gB,0,none⟩) m cap) 143):=hW5.at_;have hE5:Ext v w5:=bL (hEv.trans _ _ _ hE4) (Nat.le_trans hv2.size (Nat.le_trans hEw.size hVp)) hW5
   have hblk5:w5.heap[v.heap.size]?=some (.cells (aC 96 (aY id size turn k m y)) 107):=aO hW5 (hE4.row hblk) (fun e=>by
    rw[e,hgp]at hblk
    exact absurd (Obj.cells.inj (Option.some.inj hblk)).2.1 (by decide))
   have hres5:w5.heap[v.heap.size+1]?=some (.cells #[.int .i64 0,.int .i64 0,.int .u64 0,.int .i64 0,.slice none 0 0] 143):=aO hW5 (hE4.row hres) (fun e=>by
    have h1:v.heap.size+1<w2.heap.size:=(Array.getElem?_eq_some_iff.1 hb2).1;have h2:=hEw.size
    omega)
   have hrB5:=aO hW5 hrB (by omega);have hBy5:eA w5 gB 0 m y:=fun i hi=>by
    rw[Nat.zero_add,cell_of_row _ _ _ _ _ _ hrB5,hcur i hi];simp[hi]
   repeat refine rN ?_
   refine xA (by kernel_rfl) (by kernel_rfl) (by kernel_rfl) (zbJ (.agg (aC 96 (aY id size turn k m y))) (.agg (bK id size turn k (some ⟨gB,0,none⟩) m cap))) (fun j x w w' h hE=>h) ?_ ?_ ?_
   .intro j hj he x w h;have hj':j<4:=hj;match j,hj' with
    |0,_=>cases he
    |1,_=>cases he
    |2,_=>cases he
    |3,_=>cases he
   .intro i f'' w6 rest hi hE6 hf'' hd'' nxt;have r1:f'' 1=.pointer (some ⟨v.heap.size,0,none⟩):=(hf'' 1 (aW (by kernel_rfl))).trans (by simp[q1']);have r4:f'' 4=.pointer (some ⟨gp,0,none⟩):=(hf'' 4 (aW (by kernel_rfl))).trans (by simp[q4']);have hi':i<4:=hi;clear hf'';match i,hi' with
    |0,_=>
     clear hd'';refine iF aB rfl rfl (by kernel_rfl) (x:=.tmp 4) (b:=gp) rfl (by simp[r4]) (hE6.row hgp5) (by kernel_rfl) (by kernel_rfl) ?_;exact nxt _ w6 (.refl w6) rfl
    |1,_=>
     have d0:f'' 46=.agg (bK id size turn k (some ⟨gB,0,none⟩) m cap):=hd'' 0 (aD (by kernel_rfl));clear hd'';refine dK Tryz.func93 (zZ id size turn k m cap gB 0 y hid hsz hk ht hm79 hy (hBy5.ext hE6)) ?_;rintro _ S1 w7 _ ⟨rfl,e1,hE7⟩;subst S1;exact nxt _ w7 hE7 rfl
    |2,_=>
     clear hd'';refine iF aB rfl rfl (by kernel_rfl) (x:=.tmp 1) (b:=v.heap.size) rfl (by simp[r1]) (hE6.row hblk5) (by kernel_rfl) (by rw[dY];kernel_rfl) ?_;exact nxt _ w6 (.refl w6) rfl
    |3,_=>
     have d0:f'' 47=.agg (aC 96 (aY id size turn k m y)):=hd'' 1 (aD (by kernel_rfl));have d1:f'' 48=.agg (aC 96 (aY id size turn k m y)):=hd'' 2 (aD (by kernel_rfl));clear hd'';refine cH aB rfl rfl (by kernel_rfl) (fun u hu=>Cv (xo:=.tmp 47) (yo:=.tmp 48) (x:=aY id size turn k m y) (y:=aY id size turn k m y) rfl (by simp[d0]) (by simp[d1])) ?_;rw[(iC _ _ 96 0).2 fun _ _ _=>rfl]
     exact nxt _ w6 (.refl w6) rfl
   .intro f'' w6 hE6 hf'' hd'';have r2:f'' 2=.pointer (some ⟨v.heap.size+1,0,none⟩):=(hf'' 2 (aW (by kernel_rfl))).trans (by simp[q2']);have r4:f'' 4=.pointer (some ⟨gp,0,none⟩):=(hf'' 4 (aW (by kernel_rfl))).trans (by simp[q4']);have d3:f'' 49=.bool false:=hd'' 3 (by decide);clear hf'' hd'';repeat refine rN ?_
    refine rZ (by simp[Act.eval,d3]) ?_;repeat refine rN ?_
    refine iF aB rfl rfl (by kernel_rfl) (x:=.tmp 4) (b:=gp) rfl (by simp[r4]) (hE6.row hgp5) (by kernel_rfl) (by kernel_rfl) ?_;simp only[stO_some];refine dF aB rfl rfl (by kernel_rfl) (x:=.tmp 2) (y:=.tmp 51) (g:=v.heap.size+1) (c:=bK id size turn k (some ⟨gB,0,none⟩) m cap) rfl (by simp[r2]) (by simp) (hE6.row hres5) (by kernel_rfl) rfl (by simp[bK,Value.oneCell']) fun w7 hW7=>?_
    simp only[stO_none];repeat refine rN ?_
    refine aP fun todo=>?_
    have hrB7:=aO hW7 (hE6.row hrB5) (by
     have h1:v.heap.size+1<w2.heap.size:=(Array.getElem?_eq_some_iff.1 hb2).1;have h2:=hEw.size;have h3:=hEw'.size
     omega)
    refine ret _ _ S w7 (.agg (bK id size turn k (some ⟨gB,0,none⟩) m cap)) ?_ ⟨rfl,bL (hE5.trans _ _ _ hE6) (by omega) hW7,gB,cap,rfl,hcap,by have:=hEv.size;omega,fun i hi=>?_,_,hrB7⟩
    .have hl:=run_loadVar_row (P:=Tryz.prog) w7 (v.heap.size+1) 143 143 (bK id size turn k (some ⟨gB,0,none⟩) m cap) (0,0) _ hW7.at_ Tryz.underlying143 rfl (by kernel_rfl);simp[results,Tryz.results92,asAddr,hl,r2]
    .rw[Nat.zero_add,cell_of_row _ _ _ _ _ _ hrB7,hcur i hi];simp[hi]
def bY(x:Nat->Nat):Nat->Nat
 |0=>0
 |n+1=>x 0+256*bY (fun i=>x (i+1)) n
theorem qS{x:Nat->Nat}(hx:∀ i,x i<256)(n:Nat):∀ i,i<n->x i=bA (bY x n) i:=by
 induction n generalizing x with
 |zero=>intro i hi;omega
 |succ n ih=>
  intro i hi;unfold bY;cases i with
  |zero=>
   unfold bA;have:=hx 0;rw[Nat.pow_zero,Nat.div_one];omega
  |succ i=>
   rw[ih (x:=fun i=>x (i+1)) (fun i=>hx (i+1)) i (by omega)]
   unfold bA;have h0:=hx 0;generalize bY (fun i=>x (i+1)) n=N;rw[Nat.pow_succ,Nat.mul_comm (256 ^ i) 256,<-Nat.div_div_eq_div_mul,show(x 0+256*N) / 256=N by omega]
theorem uY{x:Nat->Nat}(hx:∀ i,x i<256)(n:Nat):bY x n<256 ^ n:=by
 induction n generalizing x with
 |zero=>exact Nat.one_pos
 |succ n ih=>
  have h1:=ih (x:=fun i=>x (i+1)) (fun i=>hx (i+1))
  have h0:=hx 0;unfold bY;rw[Nat.pow_succ];omega
def gD(x:Nat->Nat):Prop:=1<=bY x 2∧bY x 2<=9999∧bY (fun i=>x (2+i)) 2<=400∧bY (fun i=>x (4+i)) 1<14∧
 ∀ j,j<96->aY (bY x 2) (bY (fun i=>x (2+i)) 2) (bY (fun i=>x (5+i)) 8) (bY (fun i=>x (4+i)) 1) ((bY (fun i=>x (2+i)) 2+9) / 10) (fun i=>x (13+i)) j=x j
def zbK(sealed blk pc:Value)(j:Nat)(x:Value)(w:World):Prop:=
 match j with
 |0=>x=pc
 |1=>x=sealed
 |2=>x=blk
 |3=>x=.bool true
 |_=>True
theorem Sg{S:Nat->Prop}{v:World}(t:TypeId)(e:Value)(hg0:v.cell? ⟨0,0,none⟩=some (.iface t e))(x:Nat->Nat)(hx:∀ i,x i<256)(hbad:¬gD x) :
  Ai Tryz.prog 92 #[.agg (aC 96 x)] S v fun x S' v'=>x=.iface t e∧S'=S∧Ext v v':=by
 refine Nm Tryz.func92 rfl Tryz.ntmps92 (by simp) fun Stop cc cs ret=>?_
 have g0:dD #[.agg (aC 96 x)] 0=.agg (aC 96 x):=rfl;generalize dD #[.agg (aC 96 x)]=f at g0;unfold gD at hbad;have b1:=qS (fun i=>hx i) 2;have b2:=qS (x:=fun i=>x (2+i)) (fun i=>hx (2+i)) 2
 have b3:=qS (x:=fun i=>x (4+i)) (fun i=>hx (4+i)) 1
 have b4:=qS (x:=fun i=>x (5+i)) (fun i=>hx (5+i)) 8
 have z1:=uY (fun i=>hx i) 2;have z2:=uY (x:=fun i=>x (2+i)) (fun i=>hx (2+i)) 2
 have z3:=uY (x:=fun i=>x (4+i)) (fun i=>hx (4+i)) 1
 have z4:=uY (x:=fun i=>x (5+i)) (fun i=>hx (5+i)) 8
 generalize bY x 2=id at *
 generalize bY (fun i=>x (2+i)) 2=size at *
 generalize bY (fun i=>x (4+i)) 1=k at *
 generalize bY (fun i=>x (5+i)) 8=turn at *
 repeat refine rN ?_
 refine bO (Q:=fun y' w=>y'=.pointer (some ⟨v.heap.size,0,none⟩)∧Ext v w∧w.heap[v.heap.size]?=some (.cells (aC 96 x) 107)∧w.heap.size=v.heap.size+1) aB rfl rfl (by kernel_rfl) (fun u hu=>⟨_,_,.inl (gM (x:=.tmp 0) (y:=.agg (aC 96 x)) rfl (by simp[g0]) u),by rw[hu.heap],(Ext.twin hu).trans _ _ _ (Ext.alloc _ _),by rw[<-hu.heap];exact cI _ _,by rw[jY,hu.heap]⟩) ?_
 rintro _ w1 ⟨rfl,hE1,hb1,hs1⟩;simp only[stO_some];refine cQ aB rfl rfl (by kernel_rfl) (.agg #[.int .i64 0,.int .i64 0,.int .u64 0,.int .i64 0,.slice none 0 0]) rfl (by kernel_rfl) fun w2 hE2 hb2 hs2=>?_
 simp only[stO_some];repeat refine rN ?_
 rw[hs1]at hb2;rw[show w1.heap.size=v.heap.size+1 by omega];have hb:w2.heap[v.heap.size]?=some (.cells (aC 96 x) 107):=hE2.row hb1;have hv2:=hE1.trans _ _ _ hE2;clear hE1 hE2 hb1;have hz:∀ w:World,w.heap[v.heap.size]?=some (.cells (aC 96 x) 107)->∀ i,i<96->w.cell? ⟨v.heap.size,i,none⟩=some (.int .u8 (x i:Nat)):=fun w hw i hi=>by
  rw[cell_of_row _ _ _ _ _ _ hw];exact dZ _ _ _ hi
 have q1:id % 256 ^ 2=id:=Nat.mod_eq_of_lt (by omega);have q2:size % 256 ^ 2=size:=Nat.mod_eq_of_lt (by omega);have q3:k % 256 ^ 1=k:=Nat.mod_eq_of_lt (by omega);have q4:turn % 256 ^ 8=turn:=Nat.mod_eq_of_lt (by omega);refine jN (by kernel_rfl) (by kernel_rfl) (by kernel_rfl) 10 [0,1,2,3,4,5,6,7,8,9] (by kernel_rfl) (nJ w2.heap.size v.heap.size id size turn) (fun S' w=>S'=S∧Ext w2 w) (fun S' f w=>S'=S∧Ext w2 w∧∃ g,f 3=.pointer (some ⟨g,0,none⟩)∧w2.heap.size<=g∧w.heap[g]?=some (.cells (bC id size turn) 78)) (fun S' w w' h hE=>⟨h.1,h.2.trans _ _ _ hE⟩) (fun S' i f x w w' hi hA hm'=>?_) (Ek _ _ _ _ _) ?_ ⟨rfl,.refl _⟩ ?_ ?_ ?_
 .exfalso;have hi':i<11:=hi;simp at hA;omega
 .intro j hj he x w h;have:j=10:=by
   have hj':j<11:=hj;match j,hj' with
   |0,_=>cases he
   |1,_=>cases he
   |2,_=>cases he
   |3,_=>cases he
   |4,_=>cases he
   |5,_=>cases he
   |6,_=>cases he
   |7,_=>cases he
   |8,_=>cases he
   |9,_=>cases he
   |10,_=>rfl
  subst this;exact trivial
 .intro i f S1 w rest hi hne hB hf hd nxt;have g1:f 1=.pointer (some ⟨v.heap.size,0,none⟩):=(hf 1 (aW (by kernel_rfl))).trans (by simp);have hi':i<11:=hi
  obtain⟨eS,hE⟩:=hB (by
   simp
   omega)
  subst S1;have hz':=hz w (hE.row hb);clear hf hB;match i,hi' with
  |0,_=>
   clear hd;refine rY aB ?_;exact nxt _ w (.refl w) rfl
  |1,_=>
   have d0:f 5=.slice (some ⟨v.heap.size,0,none⟩) 2 96:=hd 0 (aD (by kernel_rfl));clear hd;refine dK Tryz.func116 (lK v.heap.size 0 2 96 id (by omega) (by omega) fun i h=>by rw[hz' _ (by omega),Nat.zero_add,b1 i h]) ?_
   rintro _ S1 w' _ ⟨rfl,e1,e2⟩;subst S1 w';rw[q1];exact nxt _ w (.refl w) rfl
  |2,_=>
   have d1:f 6=.int .u64 (id:Nat):=hd 1 (aD (by kernel_rfl));clear hd;refine rY aB ?_;exact nxt _ w (.refl w) rfl
  |3,_=>
   clear hd;refine rY aB ?_;exact nxt _ w (.refl w) rfl
  |4,_=>
   have d0:f 8=.slice (some ⟨v.heap.size,2,none⟩) 2 94:=hd 3 (aD (by kernel_rfl));clear hd;refine dK Tryz.func116 (lK v.heap.size 2 2 94 size (by omega) (by omega) fun i h=>by rw[hz' _ (by omega),b2 i h]) ?_
   rintro _ S1 w' _ ⟨rfl,e1,e2⟩;subst S1 w';rw[q2];exact nxt _ w (.refl w) rfl
  |5,_=>
   have d1:f 9=.int .u64 (size:Nat):=hd 4 (aD (by kernel_rfl));clear hd;refine rY aB ?_;exact nxt _ w (.refl w) rfl
  |6,_=>
   clear hd;refine rY aB ?_;exact nxt _ w (.refl w) rfl
  |7,_=>
   have d0:f 11=.slice (some ⟨v.heap.size,5,none⟩) 8 91:=hd 6 (aD (by kernel_rfl));clear hd;refine dK Tryz.func116 (lK v.heap.size 5 8 91 turn (by omega) (by omega) fun i h=>by rw[hz' _ (by omega),b4 i h]) ?_
   rintro _ S1 w' _ ⟨rfl,e1,e2⟩;subst S1 w';rw[q4];exact nxt _ w (.refl w) rfl
  |8,_=>
   have d0:f 7=.int .i64 (id:Nat):=hd 2 (aD (by kernel_rfl));have d1:f 10=.int .i64 (size:Nat):=hd 5 (aD (by kernel_rfl));have d2:f 12=.int .u64 (turn:Nat):=hd 7 (aD (by kernel_rfl));clear hd;refine rY aB ?_;exact nxt _ w (.refl w) rfl
  |9,_=>
   clear hd;refine cQ aB rfl rfl (by kernel_rfl) (.agg Ae) rfl (by kernel_rfl) fun w3 hE3 hb3 hs3=>?_
   exact nxt _ w3 hE3 ⟨_,rfl,hE.size,_,rfl,hb3⟩
  |10,_=>exact absurd rfl hne
 .rintro f S1 w rest ⟨eS,hB⟩ hf hd nxt;subst S1;obtain⟨g,d0,hVg,c,hc3,hg⟩:∃ g,f 3=.pointer (some ⟨g,0,none⟩)∧w2.heap.size<=g∧∃ c:Array Value,c.size=3∧w.heap[g]?=some (.cells c 78):=hd 9 (by simp);have d1:f 13=.agg (bC id size turn):=hd 8 (by simp);clear hd;refine dF aB rfl rfl (by kernel_rfl) (x:=.tmp 3) (y:=.tmp 13) (g:=g) (c:=bC id size turn) rfl (by simp[d0]) (by simp[d1]) hg (by kernel_rfl) hc3 (by simp[bC,Value.oneCell']) fun w3 hW=>?_
  refine nxt undef S w3 ⟨rfl,bL hB hVg hW,g,d0,hVg,hW.at_⟩ trivial fun j x' hj h=>?_
  unfold nJ at h ⊢;split at h<;>first|exact h|skip
  obtain⟨g',e',h1',c',h2',hg'⟩:=h;by_cases e:g'=g
  .subst e;exact⟨g',e',h1',_,rfl,hW.at_⟩
  .exact⟨g',e',h1',c',h2',aO hW hg' e⟩
 .rintro f S1 w ⟨eS,hEw,g,g3,hVg,hg⟩ hf hd;subst S1;have g1:f 1=.pointer (some ⟨v.heap.size,0,none⟩):=(hf 1 (aW (by kernel_rfl))).trans (by simp);have g2:f 2=.pointer (some ⟨v.heap.size+1,0,none⟩):=(hf 2 (aW (by kernel_rfl))).trans (by simp);clear hf hd;repeat refine rN ?_
  refine jN (by kernel_rfl) (by kernel_rfl) (by kernel_rfl) 6 [0,1,2,3,4,5] (by kernel_rfl) (nI w.heap.size v.heap.size id size turn k) (fun S' w'=>S'=S∧Ext w w') (fun S' f w'=>S'=S∧Ext w w'∧∃ g,f 4=.pointer (some ⟨g,0,none⟩)∧w.heap.size<=g∧w'.heap[g]?=some (.cells (bK id size turn k none 0 0) 143)) (fun S' w w' h hE=>⟨h.1,h.2.trans _ _ _ hE⟩) (fun S' i f x w w' hi hA hm'=>?_) (Ej _ _ _ _ _ _) ?_ ⟨rfl,.refl _⟩ ?_ ?_ ?_
  .exfalso;have hi':i<7:=hi;simp at hA;omega
  .intro j hj he x w h;have:j=6:=by
    have hj':j<7:=hj;match j,hj' with
    |0,_=>cases he
    |1,_=>cases he
    |2,_=>cases he
    |3,_=>cases he
    |4,_=>cases he
    |5,_=>cases he
    |6,_=>rfl
   subst this;exact trivial
  .intro i f' S1 w' rest hi hne hB hf' hd' nxt;have q1':f' 1=.pointer (some ⟨v.heap.size,0,none⟩):=(hf' 1 (aW (by kernel_rfl))).trans g1;have q3':f' 3=.pointer (some ⟨g,0,none⟩):=(hf' 3 (aW (by kernel_rfl))).trans g3;have hi':i<7:=hi
   obtain⟨eS,hE'⟩:=hB (by
    simp
    omega)
   subst S1;have hz':=hz w' ((hEw.trans _ _ _ hE').row hb);clear hf' hB;match i,hi' with
   |0,_=>
    clear hd';refine iF aB rfl rfl (by kernel_rfl) (x:=.tmp 3) (b:=g) (c:=bC id size turn) rfl (by simp[q3']) (hE'.row hg) (by kernel_rfl) (by kernel_rfl) ?_;exact nxt _ w' (.refl w') rfl
   |1,_=>
    clear hd';refine rY aB ?_;exact nxt _ w' (.refl w') rfl
   |2,_=>
    have d0:f' 15=.slice (some ⟨v.heap.size,4,none⟩) 1 92:=hd' 1 (aD (by kernel_rfl));clear hd';refine dK Tryz.func116 (lK v.heap.size 4 1 92 k (by omega) (by omega) fun i h=>by rw[hz' _ (by omega),b3 i h]) ?_
    rintro _ S1 w1 _ ⟨rfl,e1,e2⟩;subst S1 w1;rw[q3];exact nxt _ w' (.refl w') rfl
   |3,_=>
    have d1:f' 16=.int .u64 (k:Nat):=hd' 2 (aD (by kernel_rfl));clear hd';refine rY aB ?_;exact nxt _ w' (.refl w') rfl
   |4,_=>
    have d0:f' 14=.agg (bC id size turn):=hd' 0 (aD (by kernel_rfl));have d1:f' 17=.int .i64 (k:Nat):=hd' 3 (aD (by kernel_rfl));clear hd';unfold bC at d0;refine rY aB ?_;exact nxt _ w' (.refl w') rfl
   |5,_=>
    clear hd';refine cQ aB rfl rfl (by kernel_rfl) (.agg iW) rfl (by kernel_rfl) fun w3 hE3 hb3 hs3=>?_
    exact nxt _ w3 hE3 ⟨_,rfl,hE'.size,_,rfl,hb3⟩
   |6,_=>exact absurd rfl hne
  .rintro f' S1 w' rest ⟨eS,hB⟩ hf' hd' nxt;subst S1;obtain⟨g',d0,hVg',c,hc5,hg'⟩:∃ g',f' 4=.pointer (some ⟨g',0,none⟩)∧w.heap.size<=g'∧∃ c:Array Value,c.size=5∧w'.heap[g']?=some (.cells c 143):=hd' 5 (by simp);have d1:f' 18=.agg (bK id size turn k none 0 0):=hd' 4 (by simp);clear hd';refine dF aB rfl rfl (by kernel_rfl) (x:=.tmp 4) (y:=.tmp 18) (g:=g') (c:=bK id size turn k none 0 0) rfl (by simp[d0]) (by simp[d1]) hg' (by kernel_rfl) hc5 (by simp[bK,Value.oneCell']) fun w3 hW=>?_
   refine nxt undef S w3 ⟨rfl,bL hB hVg' hW,g',d0,hVg',hW.at_⟩ trivial fun j x' hj h=>?_
   unfold nI at h ⊢;split at h<;>first|exact h|skip
   obtain⟨g2',e',h1',c',h2',hg2⟩:=h;by_cases e:g2'=g'
   .subst e;exact⟨g2',e',h1',_,rfl,hW.at_⟩
   .exact⟨g2',e',h1',c',h2',aO hW hg2 e⟩
  .rintro f' S1 w' ⟨eS,hEw',gp,q4',hVp,hgp⟩ hf' hd';subst S1;have q1':f' 1=.pointer (some ⟨v.heap.size,0,none⟩):=(hf' 1 (aW (by kernel_rfl))).trans g1;have q2':f' 2=.pointer (some ⟨v.heap.size+1,0,none⟩):=(hf' 2 (aW (by kernel_rfl))).trans g2;have q3':f' 3=.pointer (some ⟨g,0,none⟩):=(hf' 3 (aW (by kernel_rfl))).trans g3;clear hf' hd' g1 g2 g3 g0;have hEv:=hv2.trans _ _ _ (hEw.trans _ _ _ hEw');have hlab:=hEw'.row hg;have hblk:=hEw'.row (hEw.row hb);have hres:=hEw'.row (hEw.row hb2);have l0:w'.cell? ⟨g,0,none⟩=some (.int .i64 (id:Nat)):=(cell_of_row _ _ _ _ _ _ hlab).trans rfl;have l1:w'.cell? ⟨g,1,none⟩=some (.int .i64 (size:Nat)):=(cell_of_row _ _ _ _ _ _ hlab).trans rfl;have l2:w'.cell? ⟨gp,3,none⟩=some (.int .i64 (k:Nat)):=(cell_of_row _ _ _ _ _ _ hgp).trans rfl;have hg0':=hEv.cell hg0;by_cases hlab':1<=id∧id<=9999∧size<=400∧k<14;rotate_left
   .by_cases c1:id<1
    .have c1':id=0:=by omega
     have c1I:(id:Int)<1:=by omega
     subst c1';repeat (first|refine rM l0 ?_|refine rM l1 ?_|refine rM l2 ?_)
     refine rX (by simp[Act.eval]) ?_;repeat refine rM hg0' ?_
     refine pS (x:=.iface t e) (by simp[base]) rfl rfl ?_ ?_ fun todo=>?_
     .exact pW (t:=t) (e:=e) rfl (by simp)
     .exact fun u hu=>pX (t:=t) (e:=e) rfl (by simp)
     .exact ret _ _ _ _ _ ⟨rfl,rfl,hEv⟩
    .have n1:¬id<1:=by omega
     have n5:¬id=0:=by omega
     have i1:¬(id:Int)<1:=by omega
     by_cases c2:9999<id
     .have c2I:(9999:Int)<(id:Int):=by omega
      repeat (first|refine rM l0 ?_|refine rM l1 ?_|refine rM l2 ?_)
      refine rX (by simp[Act.eval,n1,n5,i1,c2,c2I]) ?_;repeat refine rM hg0' ?_
      refine pS (x:=.iface t e) (by simp[base]) rfl rfl ?_ ?_ fun todo=>?_
      .exact pW (t:=t) (e:=e) rfl (by simp)
      .exact fun u hu=>pX (t:=t) (e:=e) rfl (by simp)
      .exact ret _ _ _ _ _ ⟨rfl,rfl,hEv⟩
     .have n2:¬9999<id:=by omega
      have i2:¬(9999:Int)<(id:Int):=by omega
      by_cases c3:400<size
      .have c3I:(400:Int)<(size:Int):=by omega
       repeat (first|refine rM l0 ?_|refine rM l1 ?_|refine rM l2 ?_)
       refine rX (by simp[Act.eval,n1,n5,i1,n2,i2,c3,c3I]) ?_;repeat refine rM hg0' ?_
       refine pS (x:=.iface t e) (by simp[base]) rfl rfl ?_ ?_ fun todo=>?_
       .exact pW (t:=t) (e:=e) rfl (by simp)
       .exact fun u hu=>pX (t:=t) (e:=e) rfl (by simp)
       .exact ret _ _ _ _ _ ⟨rfl,rfl,hEv⟩
      .have n3:¬400<size:=by omega
       have i3:¬(400:Int)<(size:Int):=by omega
       have c4:14<=k:=by omega
       have c4I:(14:Int)<=(k:Int):=by omega
       repeat (first|refine rM l0 ?_|refine rM l1 ?_|refine rM l2 ?_)
       refine rX (by simp[Act.eval,n1,n5,i1,n2,i2,n3,i3,c4,c4I]) ?_;repeat refine rM hg0' ?_
       refine pS (x:=.iface t e) (by simp[base]) rfl rfl ?_ ?_ fun todo=>?_
       .exact pW (t:=t) (e:=e) rfl (by simp)
       .exact fun u hu=>pX (t:=t) (e:=e) rfl (by simp)
       .exact ret _ _ _ _ _ ⟨rfl,rfl,hEv⟩
   obtain⟨hid0,hid,hsz,hk⟩:=hlab';obtain⟨m,hm⟩:∃ m,m=(size+9) / 10:=⟨_,rfl⟩;have hm79:m<=79:=by omega
   have HM:=aE hm;clear hm;have i1:¬(id:Int)<1:=by omega
   have i2:¬(9999:Int)<(id:Int):=by omega
   have i3:¬(400:Int)<(size:Int):=by omega
   have i4:¬(14:Int)<=(k:Int):=by omega
   have n1:¬id<1:=by omega
   have n2:¬9999<id:=by omega
   have n3:¬400<size:=by omega
   have n4:¬14<=k:=by omega
   have n5:¬id=0:=by omega
   repeat (first|refine rM l0 ?_|refine rM l1 ?_|refine rM l2 ?_)
   refine rZ (by simp[Act.eval,i1,i2,i3,i4,n1,n2,n3,n4,n5]) ?_;repeat refine rN ?_
   obtain⟨ib,zb,ib1,ib2,ib3,ib4,ib5⟩:=vS;have hzc:zb.cells=#[zb]:=Ck ib1 ib2;refine bO (Q:=fun y' w3=>y'=.slice (some ⟨w'.heap.size,0,none⟩) 0 0∧Ext w' w3∧w3.heap[w'.heap.size]?=some (.cells #[] 5)∧w3.heap.size=w'.heap.size+1) aB rfl rfl (by kernel_rfl) (fun u hu=>⟨_,_,.inl (Cy rfl Tryz.underlying48 ib1 ib2 ib3 hzc u),by rw[hu.heap],(Ext.twin hu).trans _ _ _ (Ext.alloc _ _),by rw[<-hu.heap];exact cI _ _,by rw[jY,hu.heap]⟩) ?_
   rintro _ w3 ⟨rfl,hE3,hb3,hs3⟩;simp only[stO_some];have l1':=hE3.cell l1;repeat refine rM l1' ?_
   refine rK Tryz.func56 (wZ size hsz) ?_;rintro _ S1 w4 _ ⟨rfl,e1,e2⟩;subst S1 w4;rw[<-HM.out];have j1:(13:Int)<=13+(m:Int):=by omega
   have j2:(13:Int)+(m:Int)<=96:=by omega
   have j3:((13:Int)+(m:Int)).toNat=13+m:=by omega
   have j4:(0:Int)<=13+(m:Int):=by omega
   have j5:(13:Int)<=max (13+(m:Int)) 0:=by omega
   have j6:((13:Int)+(m:Int)).toNat - 13=m:=by omega
   repeat refine rN ?_
   have hblk3:=hE3.row hblk;have hown:w3.ownsRow w'.heap.size 5 1 (.slice (some ⟨w'.heap.size,0,none⟩) 0 0) 0 []:=⟨rfl,.inr ⟨_,0,#[],rfl,Nat.le_refl _,hb3,Nat.le_refl _,Nat.zero_le _,rfl,rfl⟩⟩;refine bO (Q:=fun y' w4=>w4.ownsRow w'.heap.size 5 1 y' (0+m) ([]++(List.range m).map fun j=>Value.int .u8 ((x (13+j):Nat):Int))∧Gr w3 w4 (Value.slice (some ⟨w'.heap.size,0,none⟩) 0 0).ownBlock∧(y'=.slice none 0 0↔(Value.slice (some ⟨w'.heap.size,0,none⟩) 0 0)=.slice none 0 0∧m=0)) aB rfl rfl (by kernel_rfl) (fun u hu=>qC (s:=.tmp 38) (x:=.tmp 43) (ad:=⟨v.heap.size,13,none⟩) (c:=83) hu _ Tryz.underlying48 ib1 ib2 ib3 ib4 ib5 hown (by simp) (fun j z hj=>?_) oL (by omega) (by omega) (by omega) rfl (by simp) (by simp)) ?_
   .obtain⟨hjm,rfl⟩:=oM hj;rw[Addr.add_lit];show w3.cell? ⟨v.heap.size,13+j,none⟩=_;rw[hz w3 hblk3 _ (by omega)]
   rintro y' w4 ⟨ho4,hG4,hn4⟩;simp only[stO_some];rw[Nat.zero_add,List.nil_append]at ho4;obtain⟨gB,cap,cur,rfl,hgB,hrB,hcap,hcs,hcur⟩:=lO ho4 (.inr fun e=>by have:=(hn4.1 e).1;cases this)
   have hE4:Ext w' w4:=hG4.over hE3 fun b e=>by
    simp only[Value.ownBlock,Option.some.injEq]at e;omega
   clear hG4 hn4 ho4 hown hb3;have hgp4:=hE4.row hgp;have hgplt:gp<w'.heap.size:=(Array.getElem?_eq_some_iff.1 hgp).1;repeat refine rN ?_
   refine eT aB rfl rfl (by kernel_rfl) (x:=.tmp 45) (y:=.tmp 44) (g:=gp) (j:=4) (z:=.slice (some ⟨gB,0,none⟩) m cap) rfl (by simp) (by simp) rfl rfl hgp4 (by simp[bK]) (by kernel_rfl) fun w5 hW5=>?_
   simp only[stO_none];have hgp5:w5.heap[gp]?=some (.cells (bK id size turn k (some ⟨gB,0,none⟩) m cap) 143):=hW5.at_;have hE5:Ext v w5:=bL (hEv.trans _ _ _ hE4) (Nat.le_trans hv2.size (Nat.le_trans hEw.size hVp)) hW5
   have hblk5:w5.heap[v.heap.size]?=some (.cells (aC 96 x) 107):=aO hW5 (hE4.row hblk) (fun e=>by
    rw[e,hgp]at hblk
    exact absurd (Obj.cells.inj (Option.some.inj hblk)).2.1 (by decide))
   have hres5:w5.heap[v.heap.size+1]?=some (.cells #[.int .i64 0,.int .i64 0,.int .u64 0,.int .i64 0,.slice none 0 0] 143):=aO hW5 (hE4.row hres) (fun e=>by
    have h1:v.heap.size+1<w2.heap.size:=(Array.getElem?_eq_some_iff.1 hb2).1;have h2:=hEw.size
    omega)
   have hrB5:=aO hW5 hrB (by omega);have hBy5:eA w5 gB 0 m (fun i=>x (13+i)):=fun i hi=>by
    rw[Nat.zero_add,cell_of_row _ _ _ _ _ _ hrB5,hcur i hi];simp[hi]
   repeat refine rN ?_
   refine xA (by kernel_rfl) (by kernel_rfl) (by kernel_rfl) (zbK (.agg (aC 96 (aY id size turn k m fun i=>x (13+i)))) (.agg (aC 96 x)) (.agg (bK id size turn k (some ⟨gB,0,none⟩) m cap))) (fun j x w w' h hE=>h) ?_ ?_ ?_
   .intro j hj he x w h;have hj':j<4:=hj;match j,hj' with
    |0,_=>cases he
    |1,_=>cases he
    |2,_=>cases he
    |3,_=>cases he
   .intro i f'' w6 rest hi hE6 hf'' hd'' nxt;have r1:f'' 1=.pointer (some ⟨v.heap.size,0,none⟩):=(hf'' 1 (aW (by kernel_rfl))).trans (by simp[q1']);have r4:f'' 4=.pointer (some ⟨gp,0,none⟩):=(hf'' 4 (aW (by kernel_rfl))).trans (by simp[q4']);have hi':i<4:=hi;clear hf'';match i,hi' with
    |0,_=>
     clear hd'';refine iF aB rfl rfl (by kernel_rfl) (x:=.tmp 4) (b:=gp) rfl (by simp[r4]) (hE6.row hgp5) (by kernel_rfl) (by kernel_rfl) ?_;exact nxt _ w6 (.refl w6) rfl
    |1,_=>
     have d0:f'' 46=.agg (bK id size turn k (some ⟨gB,0,none⟩) m cap):=hd'' 0 (aD (by kernel_rfl));clear hd'';refine dK Tryz.func93 (zZ id size turn k m cap gB 0 (fun i=>x (13+i)) hid hsz hk (by omega) hm79 (fun i=>hx _) (hBy5.ext hE6)) ?_;rintro _ S1 w7 _ ⟨rfl,e1,hE7⟩;subst S1;exact nxt _ w7 hE7 rfl
    |2,_=>
     clear hd'';refine iF aB rfl rfl (by kernel_rfl) (x:=.tmp 1) (b:=v.heap.size) rfl (by simp[r1]) (hE6.row hblk5) (by kernel_rfl) (by rw[dY];kernel_rfl) ?_;exact nxt _ w6 (.refl w6) rfl
    |3,_=>
     have d0:f'' 47=.agg (aC 96 (aY id size turn k m fun i=>x (13+i))):=hd'' 1 (aD (by kernel_rfl))
     have d1:f'' 48=.agg (aC 96 x):=hd'' 2 (aD (by kernel_rfl));clear hd'';refine cH aB rfl rfl (by kernel_rfl) (fun u hu=>Cv (xo:=.tmp 47) (yo:=.tmp 48) (x:=aY id size turn k m fun i=>x (13+i)) (y:=x) rfl (by simp[d0]) (by simp[d1])) ?_
     have hne:cC (aY id size turn k m fun i=>x (13+i)) x 0 96=false:=by
      cases hq:cC (aY id size turn k m fun i=>x (13+i)) x 0 96 with
      |false=>rfl
      |true=>exact absurd ⟨hid0,hid,hsz,hk,fun j hj=>by rw[<-HM.out];exact(iC _ _ 96 0).1 hq j (by omega) (by omega)⟩ hbad
     rw[hne];exact nxt _ w6 (.refl w6) rfl
   .intro f'' w6 hE6 hf'' hd'';have r2:f'' 2=.pointer (some ⟨v.heap.size+1,0,none⟩):=(hf'' 2 (aW (by kernel_rfl))).trans (by simp[q2']);have r4:f'' 4=.pointer (some ⟨gp,0,none⟩):=(hf'' 4 (aW (by kernel_rfl))).trans (by simp[q4']);have d3:f'' 49=.bool true:=hd'' 3 (by decide);have hg6:=hE6.cell (hE5.cell hg0);clear hf'' hd'';repeat refine rN ?_
    refine rX (by simp[Act.eval,d3]) ?_;repeat refine rM hg6 ?_
    refine pS (x:=.iface t e) (by simp[base]) rfl rfl ?_ ?_ fun todo=>?_
    .exact pW (t:=t) (e:=e) rfl (by simp)
    .exact fun u hu=>pX (t:=t) (e:=e) rfl (by simp)
    .exact ret _ _ _ _ _ ⟨rfl,rfl,hE5.trans _ _ _ hE6⟩
