import Derived.Test.YtpiefebngnlfoabGreatDoorMo
set_option maxRecDepth 99999
set_option maxHeartbeats 0
set_option linter.unusedVariables false
set_option linter.unusedSimpArgs false
namespace Go.Proofs.YtpiefebngnlfoabGreatDoor
open Go.RowKit Go.Conc Go.Vw
section
variable {Stop:Goroutine->(Nat->Prop)->World->Prop}{S:Nat->Prop}{v:World}{fn:FuncId}{cs:List Frame}{k:List Item}{n:Nat}{f:Nat->Value}{ops:Array Oper}{i:Nat}{rest:List Nat}{dst:Option Tmp}{op:Op}{ty:TypeId}{pos:String}{aft:Array Edge}{grd:Option (Nat×Bool)}{M clock:Nat}{L:List Ent}
theorem Lt{id M clock n:Nat}{L:List Ent}{e:Ent}{u:World}(hq:aL id L 0=some (n,e))(hm:u.heap[M]?=some (bM L clock)):(Instr.lookup 73 (.map (some M)) (.int .i64 (id:Nat)) false).run Tryz.prog u=.ok (.agg (bP e)) u:=by
 obtain⟨inf,q1,q2⟩:=yP;unfold Instr.lookup;simp only[Sem.run_bind,run_underlying Tryz.underlying73,Result.andThen_ok,fM hm trivial,bM,List.toList_toArray,Sem.run_pure,tE,tI,hq];simp
theorem Ka{x y:Operand}{id n':Nat}{e:Ent}(ho:ops[i]?=some ⟨dst,op,ty,pos,aft,grd⟩)(hw:Region.wanted ⟨dst,op,ty,pos,aft,grd⟩ (yielded ops (TA n f))=true)(hop:op=.lookup 73 x y false)(hx:(⟨TA n f,[]⟩:Act).eval x=.map (some M))(hy:(⟨TA n f,[]⟩:Act).eval y=.int .i64 (id:Nat))(hq:aL id L 0=some (n',e))(hm:v.heap[M]?=some (bM L clock))
  (hn:Vw.Reach Tryz.prog Stop (G ((base fn).at ⟨TA n (aF f dst (.agg (bP e))),[]⟩ (.inRegion ops rest :: k)) cs) S v):Vw.Reach Tryz.prog Stop (G ((base fn).at ⟨TA n f,[]⟩ (.inRegion ops (i :: rest) :: k)) cs) S v:=by
 refine fE (by simp[base]) ho hw ?_ fun u hu=>⟨.agg (bP e),u,.inl ?_,?_⟩
 .unfold execOp;simp only[hop,hx,hy];exact aA.bind (aA.lookup nO _ _ _ _ _) fun _=>aA.pure _
 .unfold execOp;simp only[hop,hx,hy,Sem.run_bind,Lt hq ((Ext.twin hu).row hm),Result.andThen_ok,Sem.run_pure]
 .rw[bX];exact Reach.twin ⟨hu.heap.symm,hu.os.symm,hu.output.symm⟩ hn
end
section
variable {X D DB DA M:Nat}{RB RA:Nat->Nat}{nd nb turn:Nat}{s:Dsk}{L:List Ent}{w w' v:World}{S:Nat->Prop}
theorem Vu(g off n:Nat)(t:Nat->Bool)(p:Nat)(hn:n<=64)(hp:p<n)(hpt:t p=false)(hlow:∀ j,j<p->t j=true)(hg:∀ j,j<n->v.cell? ⟨g,off+j,none⟩=some (.bool (t j))) :
  aI Tryz.prog 53 #[.slice (some ⟨g,off,none⟩) n n,.bool false] S v fun x S' v'=>x=.int .i64 (p:Nat)∧S'=S∧v'=v:=by
 refine dM Tryz.func53 rfl Tryz.ntmps53 fun Stop cc cs ret f g0 g1=>?_
 repeat refine rN ?_
 refine bR (fun d f' S' w=>∃ j,d=p - j∧j<=p∧S'=S∧w=v∧f' 0=.slice (some ⟨g,off,none⟩) n n∧f' 1=.bool false∧f' 7=.int .i64 (n:Nat)∧f' 8=.int .i64 (j:Nat)) p ⟨0,by omega,by omega,rfl,rfl,by simp[g0],by simp[g1],by simp[g0],by simp⟩ ?_;clear g0 g1 f;rintro d f S' w ⟨j,rfl,hj,eS,eW,g0,g1,g7,g8⟩ nxt;subst S' w;have hjn:j<n:=by omega
 have hjI:(j:Int)<(n:Int):=by omega
 have cj:=hg j hjn;repeat refine rN ?_
 refine rX (by simp[Act.eval,g8,g7,hjI,hjn]) ?_;by_cases hlt:j<p
 .rw[hlow j hlt]at cj;repeat refine rM cj ?_
  refine rZ (by simp[Act.eval]) ?_;repeat refine rN ?_
  refine nxt _ _ _ (p - (j+1)) (by omega) ⟨j+1,rfl,by omega,rfl,rfl,by simp[g0],by simp[g1],by simp[g7],by simp⟩
 .obtain rfl:j=p:=by omega
  rw[hpt]at cj;repeat refine rM cj ?_
  refine rX (by simp[Act.eval]) ?_;repeat refine rN ?_
  refine aO fun todo=>?_
  refine ret _ _ _ _ (.int .i64 (j:Nat)) ?_ ⟨rfl,rfl,rfl⟩;simp[results,Tryz.results53]
def dO(b:Nat->Nat):Nat->Nat
 |0=>0
 |n+1=>if b (dO b n)<b n then n else dO b n
theorem uO(b:Nat->Nat):∀ n,0<n->dO b n<n
 |1,_=>by unfold dO;split<;>(try unfold dO)<;>omega
 |n+2,_=>by
  have:=uO b (n+1) (by omega);unfold dO;split<;>omega
theorem Et(b:Nat->Nat):∀ n i,i<n->b i<=b (dO b n)
 |n+1,i,hi=>by
  unfold dO;by_cases e:i=n
  .subst e;split<;>omega
  .have:=Et b n i (by omega);split<;>omega
theorem Sg(g n c:Nat)(h:Nat->Hl)(hn0:0<n)(hn:n<=64)(hb:∀ i,i<n->(h i).bad<=14)(hg:v.heap[g]?=some (.cells (hA n h) 38)) :
  aI Tryz.prog 32 #[.slice (some ⟨g,0,none⟩) n c] S v fun x S' v'=>x=.pointer (some ⟨g,dO (fun i=>(h i).bad) n*3,none⟩)∧S'=S∧v'=v:=by
 obtain⟨b,hbb⟩:∃ b:Nat->Nat,b=fun i=>(h i).bad:=⟨_,rfl⟩
 rw[<-hbb];have cells:∀ i,i<n->v.cell? ⟨g,i*3+2,none⟩=some (.int .i64 (b i:Nat)):=fun i hi=>by
  rw[cell_of_row _ _ _ _ _ _ hg,iH (by omega),show(i*3+2) / 3=i by omega,show(i*3+2) % 3=2 by omega,hbb];rfl
 have hbs:∀ i,i<n->b i<=14:=fun i hi=>by rw[hbb];exact hb i hi
 clear hbb;refine dX Tryz.func32 rfl Tryz.ntmps32 fun Stop cc cs ret f g0=>?_
 have h0I:(0:Int)<(n:Int):=by omega
 repeat refine rN ?_
 refine bR (fun d f' S' w=>∃ j q,d=n - j∧j<=n∧S'=S∧w=v∧q<n∧Hid (q=dO b j)∧f' 0=.slice (some ⟨g,0,none⟩) n c∧f' 3=.pointer (some ⟨g,q*3,none⟩)∧f' 8=.int .i64 (n:Nat)∧f' 9=.int .i64 (j:Nat)) n ⟨0,0,by omega,by omega,rfl,rfl,hn0,aJ rfl,by simp[g0],by simp[g0,hn0],by simp[g0],by simp⟩ ?_;clear g0 f;rintro d f S' w ⟨j,q,rfl,hj,eS,eW,hq,HQ,g0,g3,g8,g9⟩ nxt;subst S' w;repeat refine rN ?_
 by_cases hlt:j<n
 .have hjI:(j:Int)<(n:Int):=by omega
  have cj:=cells j hlt;have cq:=cells q hq;have hbj:=hbs j hlt;have hbq:=hbs q hq;refine rX (by simp[Act.eval,g9,g8,hjI,hlt]) ?_;repeat refine rN ?_
  refine mF aB (by first|kernel_rfl|rfl) ?_
  simp only[List.size_toArray,List.length_cons,List.length_nil,Nat.reduceAdd,Nat.zero_add];refine rU 0 ?_;refine rU 1 ?_;refine rU 2 ?_;refine rU 3 ?_;co_applyP rT (i:=4) rfl (fun _ hu_=>run_eq_of ?u2) ?v2
  case u2=>intro K_ hK_;(have hc:=(Ext.twin hu_).cell cj);go_simp;(try rw[wI _]);(try rw[wU _]);exact hK_
  simp only[sS,sN];refine rU 5 ?_;refine rU 6 ?_;refine rU 7 ?_;co_applyP rT (i:=8) rfl (fun _ hu_=>run_eq_of ?u4) ?v4
  case u4=>intro K_ hK_;(have hc:=(Ext.twin hu_).cell cq);go_simp;(try rw[wI _]);(try rw[wU _]);exact hK_
  simp only[sS,sN];refine rU 9 ?_;refine mJ (by first|kernel_rfl|decide +kernel) ?_ _
  by_cases hbig:b q<b j
  .have hbI:((b q:Nat):Int)<((b j:Nat):Int):=by omega
   have HN:Hid (j=dO b (j+1)):=aJ (by unfold dO;rw[<-HQ.out,if_pos hbig]);repeat refine rN ?_
   refine rX (by simp[Act.eval,hbI,hbig]) ?_;repeat refine rN ?_
   refine nxt _ _ _ (n - (j+1)) (by omega) ⟨j+1,j,rfl,by omega,rfl,rfl,hlt,HN,by simp[g0],by simp,by simp[g8],by simp⟩
  .have hbI:¬((b q:Nat):Int)<((b j:Nat):Int):=by omega
   have HN:Hid (q=dO b (j+1)):=aJ (by unfold dO;rw[<-HQ.out,if_neg hbig]);repeat refine rN ?_
   refine rZ (by simp[Act.eval,hbI,hbig]) ?_;repeat refine rN ?_
   refine nxt _ _ _ (n - (j+1)) (by omega) ⟨j+1,q,rfl,by omega,rfl,rfl,hq,HN,by simp[g0],by simp[g3],by simp[g8],by simp⟩
 .obtain rfl:j=n:=by omega
  refine rZ (by simp[Act.eval,g9,g8]) ?_;refine bB rfl ?_;repeat refine rN ?_
  refine aO fun todo=>?_
  refine ret _ _ _ _ (.pointer (some ⟨g,q*3,none⟩)) ?_ ⟨by rw[HQ.out],rfl,rfl⟩;simp[results,Tryz.results32]
end
def Ent.mend(e:Ent)(k:Nat):Ent:={e with good:=fun j=>if j=k then true else e.good j}
def Ent.blk(e:Ent)(k:Nat):Nat->Nat:=aU e.id e.size e.turn k ((e.size+9) / 10) (bD e.val e.size k)
theorem uK{g h:Nat->Bool}(H:∀ j,g j=true->h j=true)(n:Nat):aE g n<=aE h n:=by
 unfold aE;induction n with
 |zero=>simp
 |succ n ih=>
  rw[List.range_succ,List.filter_append,List.filter_append,List.length_append,List.length_append];have:([n].filter g).length<=([n].filter h).length:=by
   by_cases hg:g n=true
   .simp[hg,H n hg]
   .simp[hg]
  omega
theorem oC{α : Type}{f:Ent->α}{L:List Ent}{n:Nat}{e e':Ent}(hn:L[n]?=some e)(hf:f e'=f e):(L.set n e').map f=L.map f:=by
 rw[List.map_set,hf];exact yK (by rw[List.getElem?_map,hn];rfl)
section
variable {X D DB DA M:Nat}{RB RA:Nat->Nat}{nd nb turn:Nat}{s:Dsk}{L:List Ent}{w w' v:World}{S:Nat->Prop}
theorem EntOk.mend{e:Ent}{k:Nat}{c:Nat->Nat->Nat->Nat}(h:EntOk nb turn c e)(hk:k<14):EntOk nb turn (aX c k e.slot (e.blk k)) (e.mend k):=by
 refine⟨h.id1,h.id2,h.size,h.turn,h.slot,h.val,Nat.le_trans h.ten (uK (fun j hj=>?_) 14),fun j hj hg i hi=>?_⟩
 .show(if j=k then true else e.good j)=true;split
  .rfl
  .exact hj
 .show aX c k e.slot (e.blk k) j e.slot i=_;unfold aX;by_cases e1:j=k
  .subst e1;rw[if_pos ⟨rfl,rfl⟩];rfl
  .rw[if_neg (fun q=>e1 q.1)];have hg':(if j=k then true else e.good j)=true:=hg;rw[if_neg e1]at hg';exact h.blk j hj hg' i hi
theorem StE.mended{n k clock:Nat}{e:Ent}(h:StE X D DB DA M RB RA nd nb turn s L w)(hL:L[n]?=some e)(hk:k<14)(hx:w'.heap[X]?=some (.cells #[.pointer (some ⟨D,0,none⟩),.map (some M),.int .u64 (turn:Nat)] 76))(hm:w'.heap[M]?=some (bM (L.set n (e.mend k)) clock))(hb:∀ x∈L,x.born<clock)(hD:DiskG D DB DA RB RA nd nb (s.wr k e.slot (e.blk k)) w'):StE X D DB DA M RB RA nd nb turn (s.wr k e.slot (e.blk k)) (L.set n (e.mend k)) w':=by
 have he:e∈L:=List.mem_of_getElem? hL;refine⟨hx,⟨clock,hm,fun x hx=>?_⟩,hD,fun x hx=>?_,by rw[oC (f:=fun x:Ent=>x.id) (e':=e.mend k) hL rfl];exact h.ids,by rw[oC (f:=fun x:Ent=>x.slot) (e':=e.mend k) hL rfl];exact h.slots,by rw[oC (f:=fun x:Ent=>x.born) (e':=e.mend k) hL rfl];exact h.borns⟩
 .rcases List.mem_or_eq_of_mem_set hx with hx|rfl
  .exact hb x hx
  .exact hb e he
 .obtain⟨i,hi⟩:=List.getElem?_of_mem hx;rw[List.getElem?_set]at hi;by_cases e1:n=i
  .rw[if_pos e1]at hi;split at hi
   .cases hi
    exact(h.ent e he).mend hk
   .cases hi
  .rw[if_neg e1]at hi;have hx':x∈L:=List.mem_of_getElem? hi;refine(h.ent x hx').more (Nat.le_refl _) fun d j=>?_
   show aX s.c k e.slot (e.blk k) d x.slot j=_;unfold aX;have hlt:i<L.length:=(List.getElem?_eq_some_iff.1 hi).1;rw[if_neg];rintro⟨_,q⟩;have h1:(L.map (·.slot))[i]?=some x.slot:=by rw[List.getElem?_map,hi];rfl
   have h2:(L.map (·.slot))[n]?=some e.slot:=by rw[List.getElem?_map,hL];rfl
   rw[q]at h1;exact e1 ((List.getElem?_inj (by rw[List.length_map];exact hlt) h.slots).1 (h1.trans h2.symm)).symm
theorem Ga{n k clock id:Nat}{e:Ent}(hq:aL id L 0=some (n,e)):bQ L (e.mend k) clock=L.set n (e.mend k)∧jC L (e.mend k).id clock=clock∧L[n]?=some e:=by
 obtain⟨m,h1,h2,h3⟩:=dL hq;have hm:n=m:=by omega
 subst hm;subst h3;have hq':aL (e.mend k).id L 0=some (n,e):=hq;refine⟨?_,?_,h2⟩
 .unfold bQ;simp only[hq'];rfl
 .unfold jC;simp only[hq']
theorem Oy(id n k:Nat)(e:Ent)(hq:aL id L 0=some (n,e))(hk:k<14)(hkf:e.good k=false)(hlow:∀ j,j<k->e.good j=true)(hg:Tryz.prog.globals.size<=v.heap.size)(ht:turn<18446744073709551616)(hn1:14<=nd)(hnd:nd<=18)(hnb:nb<=64)(hX:StE X D DB DA M RB RA nd nb turn s L v) :
  aI Tryz.prog 33 #[.pointer (some ⟨X,0,none⟩),.int .i64 (id:Nat)] S v fun x S' v'=>x=.tuple #[]∧Kp v (bU X D M RB RA nd) v'∧StE X D DB DA M RB RA nd nb turn (s.wr k e.slot (e.blk k)) (L.set n (e.mend k)) v':=by
 obtain⟨clock,hm,hbn⟩:=hX.map;obtain⟨_,_,hLn⟩:=Ga (k:=k) (clock:=clock) hq;have he:e∈L:=List.mem_of_getElem? hLn;have hok:=hX.ent e he;refine dM Tryz.func33 rfl Tryz.ntmps33 fun Stop cc cs ret f g0 g1=>?_
 have c1:=hX.c1;repeat refine rM c1 ?_
 refine Ka rfl rfl rfl (x:=.tmp 11) (y:=.tmp 12) (id:=id) (by simp) (by simp) hq hm ?_;simp only[stO_some];repeat refine rN ?_
 refine cQ aB rfl rfl (by kernel_rfl) (.agg (aK 0 0 0 0 fun _=>false)) rfl (by kernel_rfl) fun w1 hE1 hb1 hs1=>?_
 simp only[stO_some];repeat refine rN ?_
 refine dB aB rfl rfl (by kernel_rfl) (x:=.tmp 4) (y:=.tmp 13) (g:=v.heap.size) (c:=bP e) rfl (by simp) (by simp) hb1 (by kernel_rfl) rfl (mI e) fun w2 hW2=>?_
 simp only[stO_none];have hE2:Ext v w2:=mU hE1 (Nat.le_refl _) hW2;have hV2:w2.heap[v.heap.size]?=some (.cells (bP e) 81):=hW2.at_;have hX2:=hX.ext hE2;have hVn:¬bU X D M RB RA nd v.heap.size:=by
  rintro(h|h|h|⟨d,hd,h|h⟩)
  .have:=(Array.getElem?_eq_some_iff.1 hX.row).1;omega
  .have:=(Array.getElem?_eq_some_iff.1 hm).1;omega
  .have:=(Array.getElem?_eq_some_iff.1 hX.dk.row).1;omega
  .have:=(Array.getElem?_eq_some_iff.1 (hX.dk.rb d hd)).1;omega
  .have:=(Array.getElem?_eq_some_iff.1 (hX.dk.ra d hd)).1;omega
 have hsz2:v.heap.size+1<=w2.heap.size:=by rw[hW2.size];omega
 generalize hVd:v.heap.size=V at *
 repeat refine rN ?_
 refine bV aB rfl rfl (by kernel_rfl) (fun u hu=>jR (x:=.tmp 4) (b:=V) rfl (by simp) ((Ext.twin hu).row hV2)) ?_;simp only[stO_some];refine rK Tryz.func52 (wM e hok ht hn1 hnd hnb hX2) ?_;rintro _ S1 w3 _ ⟨e1,hE3,BL,PB,CP,rfl,hrow,hps⟩;subst S1;have hgw:Tryz.prog.globals.size<=w3.heap.size:=by have:=hE3.size;omega
 repeat refine rN ?_
 refine rK Tryz.func51 (zF e BL PB CP hok.size hok.val hok.ten hgw ⟨hrow,hps⟩) ?_;rintro _ S1 w4 _ ⟨BA,PA,rfl,hP⟩;have hX4:=(hX2.ext hE3).kp hP.kp;have hV4:=hP.kp.cells _ _ _ _ (fun x=>x) (hE3.row hV2);have hK4:Kp v (fun _=>False) w4:=(bF (hE2.trans _ _ _ hE3)).trans hP.kp;have cG:∀ j,j<14->w4.cell? ⟨V,4+j,none⟩=some (.bool (e.good j)):=fun j hj=>by
  rw[cell_of_row _ _ _ _ _ _ hV4];rcases(by omega:j=0∨j=1∨j=2∨j=3∨j=4∨j=5∨j=6∨j=7∨j=8∨j=9∨j=10∨j=11∨j=12∨j=13) with rfl|rfl|rfl|rfl|rfl|rfl|rfl|rfl|rfl|rfl|rfl|rfl|rfl|rfl<;>rfl
 have hkI:(k:Int)<14:=by omega
 have cB:w4.cell? ⟨BA,k,none⟩=some (.slice (some ⟨PA k,0,none⟩) ((e.size+9) / 10) ((e.size+9) / 10)):=by
  rw[cell_of_row _ _ _ _ _ _ hP.ba];exact jM _ _ hk
 have hpb:eC w4 (PA k) 0 ((e.size+9) / 10) (bD e.val e.size k):=fun j hj=>by
  rw[cell_of_row _ _ _ _ _ _ (hP.pb k hk),Nat.zero_add];exact eB _ _ _ hj
 repeat refine rN ?_
 refine rK Tryz.func53 (Vu V 4 14 e.good k (by omega) hk hkf hlow cG) ?_;rintro _ S2 w5 _ ⟨rfl,e1,e2⟩;subst S2 w5;repeat refine rM cB ?_
 refine rK Tryz.func54 (Dg V e.id e.size e.turn e.slot k ((e.size+9) / 10) ((e.size+9) / 10) (PA k) 0 e.good (bD e.val e.size k) hok.id2 hok.size hk (Nat.lt_of_le_of_lt hok.turn ht) (by have:=hok.size;omega) (lM hok.val _ _) hpb hok.slot hn1 hnd hnb hX4.c0 hX4.dk hV4) ?_;rintro _ S2 w5 _ ⟨rfl,e1,hK5,hD5,hV5⟩;subst S2;have hXV:¬(X=V∨eK D RB RA nd X):=by
  rintro(h|h)
  .exact hVn (.inl h.symm)
  .exact hX4.xn h
 have hMV:¬(M=V∨eK D RB RA nd M):=by
  rintro(h|h)
  .exact hVn (.inr (.inl h.symm))
  .exact hX4.mn.1 h
 have hx5:=hK5.cells _ _ _ _ hXV hX4.row;have hm4:w4.heap[M]?=some (bM L clock):=hK4.objs _ _ (fun h=>h) hm trivial;have hm5:w5.heap[M]?=some (bM L clock):=hK5.objs _ _ hMV hm4 trivial;have cx:w5.cell? ⟨X,1,none⟩=some (.map (some M)):=(cell_of_row _ _ _ _ _ _ hx5).trans rfl;have hVe:w5.heap[V]?=some (.cells (bP (e.mend k)) 81):=hV5;have hide':(e.mend k).id=id:=by obtain⟨_,_,_,h3⟩:=dL hq;exact h3
 repeat refine rN ?_
 refine iZ aB (by first|kernel_rfl|rfl) ?_
 simp only[List.size_toArray,List.length_cons,List.length_nil,Nat.reduceAdd,Nat.zero_add];refine cU 0 ?_;refine cU 1 ?_;refine cU 2 ?_;co_applyP cT (i:=3) rfl (fun _ hu_=>run_eq_of ?u3_3) ?v3_3
 case u3_3=>intro K_ hK_;(have hc:=(Ext.twin hu_).cell cx);go_simp;(try rw[wI _]);(try rw[wU _]);exact hK_
 simp only[sS,sN];refine cU 4 ?_;co_applyP cT (i:=5) rfl (fun u hu_=>jR (x:=.tmp 4) (b:=V) rfl (by simp) ((Ext.twin hu_).row hV5)) ?v5;simp only[sS,sN];refine cL 6 ?_;refine wO rfl rfl rfl (x:=.tmp 34) (y:=.tmp 35) (z:=.tmp 36) (e:=e.mend k) (by simp) (by simp[g1,hide']) (by simp[bP,Ent.mend]) hm5 fun w6 hW6=>?_
 simp only[stO_none];repeat refine rN ?_
 refine iR ?_;obtain⟨p1,p2,p3⟩:=Ga (k:=k) (clock:=clock) hq;rw[p1,p2]at hW6
 have hK':Kp v (bU X D M RB RA nd) w5:=⟨Nat.le_trans hK4.size hK5.size,hK5.os.trans hK4.os,hK5.output.trans hK4.output,fun b o hb hc ht=>hK5.objs b o (fun h=>by
  rcases h with h|h
  .have:=(Array.getElem?_eq_some_iff.1 hc).1;omega
  .exact hb (.inr (.inr h))) (hK4.objs b o (fun h=>h) hc ht) ht⟩
 refine ret _ _ S1 w6 (.tuple #[]) ?_ ⟨rfl,hK'.wr (.inl (.inr (.inl rfl))) hW6,?_⟩
 .simp[results,Tryz.results33]
 .exact StE.mended hX4 p3 hk (aN hW6 hx5 (fun e=>hX4.mn.2.1 e.symm)) hW6.at_ hbn (hD5.kp ((Kp.refl w5 (fun b=>b=M)).wr (.inl rfl) hW6) (fun e=>hX4.mn.1 (.inl e.symm)) (fun e=>hX4.mn.2.2.1 e.symm) (fun e=>hX4.mn.2.2.2 e.symm) (fun d hd=>⟨fun e=>hX4.mn.1 (.inr ⟨d,hd,.inl e.symm⟩),fun e=>hX4.mn.1 (.inr ⟨d,hd,.inr e.symm⟩)⟩))
end
def cO(g:Nat->Bool):Nat:=((List.range 14).find? fun j=>!g j).getD 0
theorem Yc{g:Nat->Bool}(h:aE g 14<14):cO g<14∧g (cO g)=false∧∀ j,j<cO g->g j=true:=by
 unfold cO;cases hf:(List.range 14).find? fun j=>!g j with
 |none=>
  exfalso;rw[List.find?_eq_none]at hf;have:(List.range 14).filter g=List.range 14:=List.filter_eq_self.2 fun a ha=>by
   have:=hf a ha;simpa using this
  unfold aE at h;rw[this,List.length_range]at h;omega
 |some k=>
  have h1:=List.mem_range.1 (List.mem_of_find?_eq_some hf);have h2:=List.find?_some hf;refine⟨h1,by simpa using h2,fun j hj=>?_⟩
  obtain⟨_,i,hi,he,hall⟩:=List.find?_eq_some_iff_getElem.1 hf;simp only[List.getElem_range]at he;have:=hall j (by simp only[Option.getD_some]at hj;omega);simpa using this
structure Scb where
 h:Nat->Hl
 s:Dsk
 L:List Ent
def scrub1(n:Nat)(x:Scb):Scb:=match aL (x.h (dO (fun j=>(x.h j).bad) n)).id x.L 0 with
 |some (m,e)=>⟨bT x.h (dO (fun j=>(x.h j).bad) n) ⟨(x.h (dO (fun j=>(x.h j).bad) n)).id,(x.h (dO (fun j=>(x.h j).bad) n)).size,(x.h (dO (fun j=>(x.h j).bad) n)).bad - 1⟩,x.s.wr (cO e.good) e.slot (e.blk (cO e.good)),x.L.set m (e.mend (cO e.good))⟩
 |none=>x
def scrubN(n:Nat):Nat->Scb->Scb
 |0,x=>x
 |m+1,x=>scrub1 n (scrubN n m x)
def bG(h:Nat->Hl):Nat->Nat
 |0=>0
 |n+1=>bG h n+(h n).bad
structure Tells(L:List Ent)(n:Nat)(h:Nat->Hl):Prop where
 yes:∀ i,i<n->∃ e∈L,h i=cN e
 all:∀ e∈L,∃ i,i<n∧h i=cN e
 sort:∀ a b,a<b->b<n->(h a).id<(h b).id
theorem Tells.inj{L:List Ent}{n:Nat}{h:Nat->Hl}(H:Tells L n h){a b:Nat}(ha:a<n)(hb:b<n)(e:(h a).id=(h b).id):a=b:=by
 rcases Nat.lt_trichotomy a b with q|q|q
 .have:=H.sort a b q hb;omega
 .exact q
 .have:=H.sort b a q ha;omega
theorem Gq{id:Nat} : ∀ {L:List Ent} {e:Ent} {i:Nat},e∈L->e.id=id->∃ n e',aL id L i=some (n,e')
 |x :: L,e,i,he,hid=>by
  unfold aL;by_cases h:x.id=id
  .simp[h]
  .rcases List.mem_cons.1 he with rfl|he
   .exact absurd hid h
   .obtain⟨n,e',q⟩:=Gq (i:=i+1) he hid;exact⟨n,e',by simp[h,q]⟩
theorem uI{L:List Ent}{e:Ent}(hn:(L.map (·.id)).Nodup)(he:e∈L):∃ n,aL e.id L 0=some (n,e):=by
 obtain⟨n,e',q⟩:=Gq (i:=0) he rfl;obtain⟨m,h1,h2,h3⟩:=dL q;have:=gX (f:=fun x:Ent=>x.id) hn (List.mem_of_getElem? h2) he h3
 subst this;exact⟨n,q⟩
theorem Gs{g:Nat->Bool}{k:Nat}(hk:k<14)(hg:g k=false):aE (fun j=>if j=k then true else g j) 14=aE g 14+1:=by
 have key:∀ n,k<n->aE (fun j=>if j=k then true else g j) n=aE g n+1∧True:=by
  intro n;induction n with
  |zero=>intro h;omega
  |succ n ih=>
   intro h;unfold aE at *
   rw[List.range_succ,List.filter_append,List.filter_append,List.length_append,List.length_append];by_cases e:k=n
   .subst e;have h1:(List.range k).filter (fun j=>if j=k then true else g j)=(List.range k).filter g:=List.filter_congr fun x hx=>by
     have:=List.mem_range.1 hx;rw[if_neg (by omega)]
    rw[h1];simp[hg]
   .rw[(ih (by omega)).1];have:([n].filter fun j=>if j=k then true else g j)=[n].filter g:=by
     have:¬n=k:=fun q=>e q.symm
     simp[List.filter_cons,this]
    rw[this];exact⟨by omega,trivial⟩
 exact(key 14 hk).1
theorem yA{e:Ent}{k:Nat}(hk:k<14)(hg:e.good k=false):cN (e.mend k)=⟨e.id,e.size,(cN e).bad - 1⟩:=by
 unfold cN Ent.mend;simp only[Hl.mk.injEq,true_and];rw[Gs hk hg];omega
theorem Ej{n:Nat}{x:Scb}(hids:(x.L.map (·.id)).Nodup)(H:Tells x.L n x.h)(hn:0<n)(hb:0<(x.h (dO (fun j=>(x.h j).bad) n)).bad) :
  ∃ m e,aL (x.h (dO (fun j=>(x.h j).bad) n)).id x.L 0=some (m,e)∧e∈x.L∧x.L[m]?=some e∧x.h (dO (fun j=>(x.h j).bad) n)=cN e∧cO e.good<14∧e.good (cO e.good)=false∧(∀ j,j<cO e.good->e.good j=true)∧
   scrub1 n x=⟨bT x.h (dO (fun j=>(x.h j).bad) n) (cN (e.mend (cO e.good))),x.s.wr (cO e.good) e.slot (e.blk (cO e.good)),x.L.set m (e.mend (cO e.good))⟩∧Tells (scrub1 n x).L n (scrub1 n x).h:=by
 obtain⟨i,hi⟩:∃ i,i=dO (fun j=>(x.h j).bad) n:=⟨_,rfl⟩;have hin:i<n:=by rw[hi];exact uO _ n hn
 obtain⟨e,he,hh⟩:=H.yes i hin;obtain⟨m,hm⟩:=uI hids he;obtain⟨m',h1,h2,h3⟩:=dL hm;obtain rfl:m=m':=by omega
 rw[<-hi]at hb ⊢;have hid:(x.h i).id=e.id:=by rw[hh];rfl
 have hcnt:aE e.good 14<14:=by
  rw[hh]at hb;show aE e.good 14<14;have:(cN e).bad=14 - aE e.good 14:=rfl;omega
 obtain⟨k1,k2,k3⟩:=Yc hcnt;have hs:scrub1 n x=⟨bT x.h i (cN (e.mend (cO e.good))),x.s.wr (cO e.good) e.slot (e.blk (cO e.good)),x.L.set m (e.mend (cO e.good))⟩:=by
  unfold scrub1;rw[<-hi,hid,hm,yA k1 k2,<-hh,hh];rfl
 refine⟨m,e,by rw[hid];exact hm,he,h2,hh,k1,k2,k3,hs,?_⟩;rw[hs];have hids':∀ a,(bT x.h i (cN (e.mend (cO e.good))) a).id=(x.h a).id:=fun a=>by
  unfold bT;by_cases q:a=i
  .rw[if_pos q,q,hid];rfl
  .rw[if_neg q]
 refine⟨fun a ha=>?_,fun y hy=>?_,fun a b h1 h2=>by rw[hids',hids'];exact H.sort a b h1 h2⟩
 .show ∃ e'∈x.L.set m (e.mend (cO e.good)),bT x.h i (cN (e.mend (cO e.good))) a=cN e';unfold bT;by_cases q:a=i
  .rw[if_pos q];exact⟨_,List.mem_set (List.getElem?_eq_some_iff.1 h2).1 _,rfl⟩
  .rw[if_neg q];obtain⟨e',he',hh'⟩:=H.yes a ha;obtain⟨p,hp⟩:=List.getElem?_of_mem he';refine⟨e',List.mem_of_getElem? (i:=p) ?_,hh'⟩;rw[List.getElem?_set,if_neg]
   .exact hp
   .rintro rfl;rw[h2]at hp;cases hp
    exact q (H.inj ha hin (by rw[hh',hh]))
 .show ∃ a,a<n∧bT x.h i (cN (e.mend (cO e.good))) a=cN y;have hy':y∈x.L.set m (e.mend (cO e.good)):=hy;obtain⟨p,hp⟩:=List.getElem?_of_mem hy';rw[List.getElem?_set]at hp;by_cases q:m=p
  .rw[if_pos q]at hp;split at hp
   .cases hp
    exact⟨i,hin,by unfold bT;rw[if_pos rfl]⟩
   .cases hp
  .rw[if_neg q]at hp;obtain⟨a,ha,hha⟩:=H.all y (List.mem_of_getElem? hp);refine⟨a,ha,?_⟩;unfold bT;rw[if_neg]
   .exact hha
   .rintro rfl;have hye:y.id=e.id:=by
     have:(cN y).id=(cN e).id:=by rw[<-hha,<-hh]
     exact this
    have:=gX (f:=fun x:Ent=>x.id) hids (List.mem_of_getElem? hp) he hye
    subst this;have e1:(x.L.map (·.id))[p]?=(x.L.map (·.id))[m]?:=by rw[List.getElem?_map,List.getElem?_map,hp,h2]
    exact q ((List.getElem?_inj (by rw[List.length_map];exact(List.getElem?_eq_some_iff.1 hp).1) hids).1 e1).symm
theorem Fr(h:Nat->Hl)(i:Nat)(x:Hl):∀ n,i<n->bG (bT h i x) n+(h i).bad=bG h n+x.bad:=by
 have off:∀ n,n<=i->bG (bT h i x) n=bG h n:=by
  intro n;induction n with
  |zero=>intro _;rfl
  |succ n ih=>
   intro hn;unfold bG;rw[ih (by omega)];unfold bT;rw[if_neg (by omega)]
 intro n;induction n with
 |zero=>intro h;omega
 |succ n ih=>
  intro hn;unfold bG;by_cases e:i=n
  .subst e;rw[off i (Nat.le_refl _)];unfold bT;rw[if_pos rfl];omega
  .have:=ih (by omega);have hne:¬n=i:=by omega
   unfold bT at this ⊢;rw[if_neg hne];omega
theorem Fs{h:Nat->Hl} : ∀ {n:Nat},0<bG h n->0<n∧0<(h (dO (fun j=>(h j).bad) n)).bad:=by
 intro n hp;have key:∀ n,0<bG h n->∃ i,i<n∧0<(h i).bad:=by
  intro n;induction n with
  |zero=>intro h;cases h
  |succ n ih=>
   intro hp;unfold bG at hp;by_cases h0:0<(h n).bad
   .exact⟨n,by omega,h0⟩
   .obtain⟨i,h1,h2⟩:=ih (by omega);exact⟨i,by omega,h2⟩
 obtain⟨i,h1,h2⟩:=key n hp;have:=Et (fun j=>(h j).bad) n i h1;exact⟨by omega,by omega⟩
theorem uW{h:Nat->Hl}{b:Nat} : ∀ n,(∀ i,i<n->(h i).bad<=b)->bG h n<=n*b
 |0,H=>by simp[bG]
 |n+1,H=>by
  have:=uW n fun i hi=>H i (by omega)
  have:=H n (by omega);unfold bG;rw[Nat.add_mul];omega
theorem Zt{n i b:Nat}{h:Nat->Hl}(hi:i<n):(hA n h).setIfInBounds (i*3+2) (.int .i64 (b:Nat))=hA n (bT h i ⟨(h i).id,(h i).size,b⟩):=by
 apply Array.ext_getElem?;intro j;rw[Array.getElem?_setIfInBounds];by_cases e:i*3+2=j
 .subst e;rw[if_pos rfl,if_pos (by rw[jY];omega),iH (by omega),show(i*3+2) / 3=i by omega,show(i*3+2) % 3=2 by omega];unfold bT;rw[if_pos rfl];rfl
 .rw[if_neg e];by_cases hj:j<n*3
  .rw[iH hj,iH hj];unfold bT;by_cases q:j / 3=i
   .rw[if_pos q,<-q];have:j % 3=0∨j % 3=1:=by omega
    rcases this with z|z<;>rw[z]<;>rfl
   .rw[if_neg q]
  .rw[Array.getElem?_eq_none (by rw[jY];omega),Array.getElem?_eq_none (by rw[jY];omega)]
theorem Lst.tells{L:List Ent}{n g:Nat}{h:Nat->Hl}{v v':World}(H:Lst L n g h v v')(hids:(L.map (·.id)).Nodup):Tells L n h:=by
 have hmem:∀ i,i<n->h i∈(List.range n).map h:=fun i hi=>List.mem_map.2 ⟨i,List.mem_range.2 hi,rfl⟩
 have hnd:(((List.range n).map h).map (·.id)).Nodup:=by
  refine(List.Perm.nodup_iff (H.perm.map _)).2 ?_;rw[List.map_map];exact hids
 refine⟨fun i hi=>?_,fun e he=>?_,fun a b hab hb=>?_⟩
 .obtain⟨e,he,hh⟩:=List.mem_map.1 (H.perm.mem_iff.1 (hmem i hi));exact⟨e,he,hh.symm⟩
 .obtain⟨i,hi,hh⟩:=List.mem_map.1 (H.perm.mem_iff.2 (List.mem_map.2 ⟨e,he,rfl⟩));exact⟨i,List.mem_range.1 hi,hh⟩
 .have h1:=H.sort a b hab hb;have:(h a).id≠(h b).id:=fun e=>by
   have e1:(((List.range n).map h).map (·.id))[a]?=(((List.range n).map h).map (·.id))[b]?:=by
    rw[List.getElem?_map,List.getElem?_map,List.getElem?_map,List.getElem?_map,List.getElem?_range (by omega),List.getElem?_range hb];simp[e]
   have:=(List.getElem?_inj (by simp;omega) hnd).1 e1;omega
  omega
section
variable {X D DB DA M:Nat}{RB RA:Nat->Nat}{nd nb turn:Nat}{s:Dsk}{L:List Ent}{w w' v:World}{S:Nat->Prop}
theorem StE.gnew(h:StE X D DB DA M RB RA nd nb turn s L w){g:Nat}{c:Array Value}(hg:w.heap[g]?=some (.cells c 38)):¬bU X D M RB RA nd g:=by
 rintro(e|e|e|⟨d,hd,e|e⟩)
 .exact bS hg h.row (by decide) e
 .obtain⟨cl,hm,_⟩:=h.map;exact jB hm hg e.symm
 .exact bS hg h.dk.row (by decide) e
 .exact bS hg (h.dk.rb d hd) (by decide) e
 .exact bS hg (h.dk.ra d hd) (by decide) e
theorem StE.wrH(h:StE X D DB DA M RB RA nd nb turn s L w){g:Nat}{c:Array Value}{o:Obj}(hg:w.heap[g]?=some (.cells c 38))(hW:Wr w g o w'):StE X D DB DA M RB RA nd nb turn s L w':=by
 have hn:=h.gnew hg;refine⟨aN hW h.row (fun e=>hn (.inl e.symm)),let ⟨cl,q1,q2⟩:=h.map;⟨cl,aN hW q1 (fun e=>hn (.inr (.inl e.symm))),q2⟩,h.dk.kp ((Kp.refl w (fun b=>b=g)).wr (.inl rfl) hW) (fun e=>hn (.inr (.inr (.inl e.symm)))) (bS h.dk.db hg (by decide)) (bS h.dk.da hg (by decide)) (fun d hd=>⟨fun e=>hn (.inr (.inr (.inr ⟨d,hd,.inl e.symm⟩))),fun e=>hn (.inr (.inr (.inr ⟨d,hd,.inr e.symm⟩)))⟩),h.ent,h.ids,h.slots,h.borns⟩
theorem Uj(num:Int)(hlo:-9223372036854775808<=num)(hhi:num<9223372036854775808)(hL:L.length<=12)(hg:Tryz.prog.globals.size<=v.heap.size)(ht:turn<18446744073709551616)(hn1:14<=nd)(hnd:nd<=18)(hnb:nb<=64)(hX:StE X D DB DA M RB RA nd nb turn s L v) :
  aI Tryz.prog 13 #[.pointer (some ⟨X,0,none⟩),.int .i64 num] S v fun x S' v'=>∃ n h,Tells L n h∧n=L.length∧x=.int .i64 ((bG h n - min num.toNat (bG h n):Nat):Int)∧Kp v (bU X D M RB RA nd) v'∧StE X D DB DA M RB RA nd nb turn (scrubN n (min num.toNat (bG h n)) ⟨h,s,L⟩).s (scrubN n (min num.toNat (bG h n)) ⟨h,s,L⟩).L v':=by
 refine dM Tryz.func13 rfl Tryz.ntmps13 fun Stop cc cs ret f g0 g1=>?_
 repeat refine rN ?_
 refine rK Tryz.func11 (Hh hL hX) ?_;rintro _ S1 w1 _ ⟨e1,n,g,h,rfl,hLs⟩;subst S1;have HT:=hLs.tells hX.ids;have hn12:n<=12:=by rw[hLs.len];exact hL
 have hX1:=hX.kp hLs.kp;have hrow:=hLs.row;have hK1:=hLs.kp;have hgn:=hLs.new;have hnL:=aJ hLs.len;have HT0:=aJ HT;have hb14:∀ i,i<n->(h i).bad<=14:=fun i hi=>by
  obtain⟨e,_,he⟩:=HT.yes i hi;rw[he];show 14 - aE e.good 14<=14;omega
 clear hLs;repeat refine rN ?_
 refine bR (fun d f' S' w=>∃ j,d=n - j∧j<=n∧S'=S∧Ext w1 w∧f' 0=.pointer (some ⟨X,0,none⟩)∧f' 1=.int .i64 num∧f' 5=.slice (some ⟨g,0,none⟩) n n∧f' 12=.slice (some ⟨g,0,none⟩) n n∧f' 13=.int .i64 (n:Nat)∧f' 14=.int .i64 (j:Nat)∧f' 6=.int .i64 ((bG h j:Nat):Int)) n ⟨0,by omega,by omega,rfl,.refl _,by simp[g0],by simp[g1],by simp,by simp,by simp,by simp,by simp[bG]⟩ ?_;clear g0 g1 f;rintro d f S' w ⟨j,rfl,hj,eS,hEw,g0,g1,g5,g12,g13,g14,g6⟩ nxt;subst S';repeat refine rN ?_
 by_cases hlt:j<n
 .have hjI:(j:Int)<(n:Int):=by omega
  have hbj:=hb14 j hlt;have hsj:bG h j<=j*14:=uW j fun i hi=>hb14 i (by omega)
  have hsum:((bG h (j+1):Nat):Int)=((bG h j:Nat):Int)+(((h j).bad:Nat):Int):=by simp[bG]
  have HS:=aJ hsum;clear hsum;refine rX (by simp[Act.eval,g14,g13,hjI,hlt]) ?_;repeat refine rN ?_
  refine bV aB rfl rfl (by kernel_rfl) (fun u hu=>qM (x:=.tmp 16) (b:=g) (n:=n) (j:=j) (h:=h) rfl (by simp) ((Ext.twin hu).row (hEw.row hrow)) hlt) ?_;simp only[stO_some];repeat refine rN ?_
  refine cQ aB rfl rfl (by kernel_rfl) (.agg (bN ⟨0,0,0⟩)) rfl (by kernel_rfl) fun w2 hE2 hb2 hs2=>?_
  simp only[stO_some];repeat refine rN ?_
  refine dB aB rfl rfl (by kernel_rfl) (x:=.tmp 8) (y:=.tmp 17) (g:=w.heap.size) (c:=bN (h j)) rfl (by simp) (by simp) hb2 (by kernel_rfl) rfl (by simp[bN,Value.oneCell']) fun w3 hW3=>?_
  simp only[stO_none];have c2:w3.cell? ⟨w.heap.size,2,none⟩=some (.int .i64 ((h j).bad:Nat)):=(cell_of_row _ _ _ _ _ _ hW3.at_).trans rfl;have hE3:Ext w w3:=mU hE2 (Nat.le_refl _) hW3;repeat refine rM c2 ?_
  refine nxt _ _ _ (n - (j+1)) (by omega) ⟨j+1,rfl,by omega,rfl,hEw.trans _ _ _ hE3,by simp[g0],by simp[g1],by simp[g5],by simp[g12],by simp[g13],by simp,by simp[HS.out]⟩
 .obtain rfl:j=n:=by omega
  refine rZ (by simp[Act.eval,g14,g13]) ?_;refine bB rfl ?_;repeat refine rN ?_
  have hKv:=hK1.ext hEw;have hXw:=hX1.ext hEw;have hrw:=hEw.row hrow;obtain⟨sm,hsm⟩:∃ sm,sm=bG h j:=⟨_,rfl⟩;have hsm12:sm<=12*14:=by rw[hsm];exact Nat.le_trans (uW j hb14) (Nat.mul_le_mul_right _ hn12)
  rw[<-hsm]at g6;obtain⟨m,hm⟩:∃ m,m=min num.toNat sm:=⟨_,rfl⟩;have HM:=aJ hm;have HSM:=aJ hsm;clear hm hsm;refine bR (fun d f' S' w=>∃ k x,d=m - k∧k<=m∧Hid (x=scrubN j k ⟨h,s,L⟩)∧Hid (bG x.h j=sm - k)∧Tells x.L j x.h∧Kp v (bU X D M RB RA nd) w∧StE X D DB DA M RB RA nd nb turn x.s x.L w∧w.heap[g]?=some (.cells (hA j x.h) 38)∧f' 0=.pointer (some ⟨X,0,none⟩)∧f' 1=.int .i64 (num - (k:Nat))∧f' 5=.slice (some ⟨g,0,none⟩) j j∧f' 6=.int .i64 ((sm - k:Nat):Int)) m ⟨0,_,by omega,by omega,aJ rfl,aJ HSM.out.symm,HT,hKv.mono fun _ h=>h.elim,hXw,hrw,by simp[g0],by simp[g1],by simp[g5],by simp[g6]⟩ ?_
  clear g0 g1 g5 g6 g12 g13 g14 f nxt hKv hXw hrw HT hEw hb14;rintro d f S' w ⟨k,x,rfl,hk,HX,HB,HT,hKv,hXw,hrw,g0,g1,g5,g6⟩ nxt;by_cases hkm:k<m
  .have hm:=HM.out;have hnI:(0:Int)<num - (k:Int):=by omega
   have hnJ:(k:Int)<num:=by omega
   have hnK:k<sm:=by omega
   have hsI:(0:Int)<((sm - k:Nat):Int):=by omega
   have hsN:0<sm - k:=by omega
   have hpos:0<bG x.h j:=by rw[HB.out];exact hsN
   obtain⟨hj0,hbad⟩:=Fs hpos;obtain⟨m1,e,q1,q2,q3,q4,q5,q6,q7,q8,q9⟩:=Ej hXw.ids HT hj0 hbad;have hmi:=uO (fun i=>(x.h i).bad) j hj0;have hbx:∀ i,i<j->(x.h i).bad<=14:=fun i hi=>by
    obtain⟨e,_,he⟩:=HT.yes i hi;rw[he];show 14 - aE e.good 14<=14;omega
   have hb0:=hbx _ hmi;have hw1:IntKind.i64.wrap (num - (k:Int) - 1)=num - ((k+1:Nat):Int):=by rw[IntKind.wrap_i64];omega
   have hw2:((sm - k:Nat):Int) - 1=((sm - (k+1):Nat):Int):=by omega
   have HW1:=aJ hw1;have HW2:=aJ hw2;clear hw1 hw2 hm;have hgx:Tryz.prog.globals.size<=w.heap.size:=Nat.le_trans hg hKv.size;repeat refine rN ?_
   refine rX (by simp[Act.eval,hnI,hnJ,hnK,hsI,hsN]) ?_;repeat refine rN ?_
   refine rK Tryz.func32 (Sg g j j x.h hj0 (by omega) hbx hrw) ?_;rintro _ S1 w2 _ ⟨rfl,e1,e2⟩;subst S1 w2;obtain⟨i,hi⟩:∃ i,i=dO (fun i=>(x.h i).bad) j:=⟨_,rfl⟩;rw[<-hi]at hbad q1 q4 q8 hmi hb0 ⊢;have HI:=aJ hi;have HQ4:=aJ q4;clear hi q4;have ci:w.cell? ⟨g,i*3,none⟩=some (.int .i64 ((x.h i).id:Nat)):=by
    rw[cell_of_row _ _ _ _ _ _ hrw,iH (by omega),show i*3 / 3=i by omega,show i*3 % 3=0 by omega];rfl
   repeat refine rM ci ?_
   refine rK Tryz.func33 (Oy (x.h i).id m1 (cO e.good) e q1 q5 q6 q7 hgx ht hn1 hnd hnb hXw) ?_;rintro _ S1 w2 _ ⟨rfl,hK2,hX2⟩;have hrw2:=hK2.cells _ _ _ _ (hXw.gnew hrw) hrw;have cb:w2.cell? ⟨g,i*3+2,none⟩=some (.int .i64 ((x.h i).bad:Nat)):=by
    rw[cell_of_row _ _ _ _ _ _ hrw2,iH (by omega),show(i*3+2) / 3=i by omega,show(i*3+2) % 3=2 by omega];rfl
   have hw3:IntKind.i64.wrap ((((x.h i).bad:Nat):Int) - 1)=(((x.h i).bad - 1:Nat):Int):=by rw[IntKind.wrap_i64];omega
   repeat refine rM cb ?_
   refine eQ aB rfl rfl (by kernel_rfl) (x:=.tmp 45) (y:=.tmp 43) (g:=g) (j:=i*3+2) (z:=.int .i64 (((x.h i).bad - 1:Nat):Int)) rfl (by simp) (by simp[hw3]) rfl rfl hrw2 (by rw[jY];omega) (by kernel_rfl) fun w3 hW3=>?_
   simp only[stO_none];rw[Zt hmi]at hW3;have hx3:(⟨(x.h i).id,(x.h i).size,(x.h i).bad - 1⟩:Hl)=cN (e.mend (cO e.good)):=by
    rw[yA q5 q6,HQ4.out];rfl
   rw[hx3]at hW3;have hrw3:=hW3.at_;have hX3:=hX2.wrH hrw2 hW3;have hK3:Kp v (bU X D M RB RA nd) w3:=(hKv.trans hK2).wr (.inr hgn) hW3;have hsum:bG (bT x.h i (cN (e.mend (cO e.good)))) j=sm - (k+1):=by
    have h1:=Fr x.h i (cN (e.mend (cO e.good))) j hmi;rw[HB.out,<-hx3]at h1;rw[<-hx3];have h2:(⟨(x.h i).id,(x.h i).size,(x.h i).bad - 1⟩:Hl).bad=(x.h i).bad - 1:=rfl;omega
   repeat refine rN ?_
   refine nxt _ _ _ (m - (k+1)) (by omega) ⟨k+1,scrub1 j x,rfl,by omega,aJ (by rw[HX.out];rfl),aJ (by rw[q8];exact hsum),q9,hK3,by rw[q8];exact hX3,by rw[q8];exact hrw3,by simp[g0],by simp[g1];omega,by simp[g5],by simp[g6,HW2.out]⟩
  .obtain rfl:k=m:=by omega
   have hm:=HM.out;have hmm:k=min num.toNat (bG h j):=by rw[hm,HSM.out]
   have hx:=HX.out;have hs2:(sm - k:Nat)=bG h j - min num.toNat (bG h j):=by rw[HSM.out,<-hmm]
   rw[hx,hmm]at hXw;have HP:=aJ hXw;have HS2:=aJ hs2;by_cases hn0:(k:Int)<num
   .have hs0:¬k<sm:=by omega
    have hs1:((sm - k:Nat):Int)=0:=by omega
    have hs3:sm - k=0:=by omega
    clear hm hmm hx hXw hs2;repeat refine rN ?_
    refine rZ (by simp[Act.eval,hn0,hs0,hs1,hs3]) ?_;refine bB rfl ?_;repeat refine rN ?_
    refine aO fun todo=>?_
    refine ret _ _ S' w (.int .i64 ((sm - k:Nat):Int)) ?_ ⟨j,h,HT0.out,hnL.out,by rw[HS2.out],hKv,HP.out⟩;simp[results,Tryz.results13,hs1,hs3]
   .have hn1':¬(0:Int)<num - (k:Int):=by omega
    clear hm hmm hx hXw hs2;repeat refine rN ?_
    refine rZ (by simp[Act.eval,hn0,hn1']) ?_;refine bB rfl ?_;repeat refine rN ?_
    refine aO fun todo=>?_
    refine ret _ _ S' w (.int .i64 ((sm - k:Nat):Int)) ?_ ⟨j,h,HT0.out,hnL.out,by rw[HS2.out],hKv,HP.out⟩;simp[results,Tryz.results13,g6]
end
