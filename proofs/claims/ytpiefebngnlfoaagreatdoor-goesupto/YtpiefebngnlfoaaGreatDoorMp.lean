import Derived.Test.YtpiefebngnlfoaaGreatDoorMo
import Derived.Test.YtpiefebngnlfoaaGreatDoorLl
set_option maxRecDepth 100000
set_option maxHeartbeats 16000000
set_option linter.unusedVariables false
set_option linter.unusedSimpArgs false
namespace Go.Proofs.YtpiefebngnlfoaaGreatDoor
open Go.RowKit Go.Conc Go.Vw
theorem zkU{v w:World}{Y:Nat→Prop}(hK:Kp v Y w)(h:∀ b,Y b→v.heap.size≤b):Kp v (fun _=>False) w:=
 ⟨hK.size,hK.os,hK.output,fun b o hb hc ht=>hK.objs b o (fun hy=>by
  have h1:=h b hy;have h2:=(Array.getElem?_eq_some_iff.1 hc).1
  omega) hc ht⟩
def Svs(lf:Nat→Lb)(Gf:Nat→Nat→Bool):Nat→List Ent→Nat→Prop
 |0,L,t=>L=[]∧t=0
 |p+1,L',t'=>∃ L t,Svs lf Gf p L t∧Sv L t p (lf p) (Gf p) L' t'
theorem ygH{L:List Ent}{e x:Ent}{clock:Nat}(h:x∈putL L e clock):x∈L∨∃ b,x={e with born:=b}:=by
 unfold putL at h;cases hf:zbF e.id L 0 with
 |none=>
  rw[hf]at h;rcases List.mem_append.1 h with h|h
  ·exact .inl h
  ·exact .inr ⟨_,List.mem_singleton.1 h⟩
 |some q=>
  rw[hf]at h;rcases List.mem_or_eq_of_mem_set h with h|h
  ·exact .inl h
  ·exact .inr ⟨_,h⟩
theorem Sv.slot{L L':List Ent}{t t' p:Nat}{l:Lb}{G:Nat→Bool}(h:Sv L t p l G L' t'){e:Ent}(he:e∈L'):e∈L∨e.slot=p:=by
 unfold Sv at h;split at h
 ·obtain⟨_,h⟩:=h;split at h
  ·obtain⟨clock,_,rfl⟩:=h;rcases ygH he with h|⟨b,rfl⟩
   ·exact .inl h
   ·exact .inr rfl
  ·subst h;exact .inl he
 ·rw[h.2]at he;exact .inl he
theorem Svs.slot{lf:Nat→Lb}{Gf:Nat→Nat→Bool} : ∀ {p:Nat} {L:List Ent} {t:Nat},Svs lf Gf p L t→∀ e∈L,e.slot<p
 |0,L,t,h,e,he=>by rw[h.1]at he;cases he
 |p+1,L',t',⟨L,t,h1,h2⟩,e,he=>by
  rcases h2.slot he with h|h
  ·have:=h1.slot e h;omega
  ·omega
section
variable {nd nb:Nat}{w w' v:World}{S:Nat→Prop}
theorem ygO(t:TypeId)(e:Value)(hg0:v.cell? ⟨0,0,none⟩=some (.iface t e))(hg:Tryz.prog.globals.size≤v.heap.size)(B c wr:Nat)(T:Nat→ByteArray)(lf:Nat→Lb)(Gf:Nat→Nat→Bool)(hw:wr≤1099511627776)(hb4:4≤nb)(hn1:14≤nd)(hnd:nd≤18)(hnb:nb≤64)(hO:TextsOk nd nb T)(hT:zfU v B nd T)(hS:∀ p,p<nb→SlotK (zdF T wr).c p (lf p) (Gf p)) :
  zaP Tryz.prog 7 #[.slice (some ⟨B,0,none⟩) nd c,.int .i64 (wr:Nat)] S v fun x S' v'=>Kp v (fun _=>False) v'∧∃ X D DB DA M RB RA L turn,x=.tuple #[.pointer (some ⟨X,0,none⟩),.int .i64 0]∧Svs lf Gf nb L turn∧StE X D DB DA M RB RA nd nb turn (zdP (zdF T wr) (takB L) nb) L v'∧∀ b,SOwn X D M RB RA nd b→v.heap.size≤b:=by
 have h0:0<v.heap.size:=by
  cases h:v.heap[0]? with
  |none=>
   unfold World.cell? at hg0;rw[show(⟨0,0,none⟩:Addr).block=0 from rfl,h]at hg0;cases hg0
  |some o=>exact(Array.getElem?_eq_some_iff.1 h).1
 refine zaF Tryz.func7 rfl Tryz.ntmps7 (by simp) fun Stop cc cs ret=>?_
 have g0:argF #[.slice (some ⟨B,0,none⟩) nd c,.int .i64 (wr:Nat)] 0=.slice (some ⟨B,0,none⟩) nd c:=rfl;have g1:argF #[.slice (some ⟨B,0,none⟩) nd c,.int .i64 (wr:Nat)] 1=.int .i64 (wr:Nat):=rfl;generalize argF #[.slice (some ⟨B,0,none⟩) nd c,.int .i64 (wr:Nat)]=f at g0 g1;repeat (first|refine rQ rfl ?_|refine rY zaA ?_|refine rW ?_)
 (refine zaC rfl (by first|rfl|simp[Region.wanted,yielded,zaG, *]) rfl Tryz.func24 (by kernel_rfl) rfl (by simp[Act.eval, *];try rfl) (ylY B nd c nb wr T hw hn1 hnd hb4 hnb hO hT) ?_)
 rintro _ S1 w1 _ ⟨e1,hE1,D,DB,DA,RB,RA,rfl,hD,hDn,hDBn,hDAn,hRn⟩;subst S1;simp only[stO_some];repeat (first|refine rQ rfl ?_|refine rY zaA ?_|refine rW ?_)
 (refine zaB (t:=false) (by simp[Act.eval]) ?_;simp only[if_true,if_false,reduceIte,Bool.false_eq_true]);repeat (first|refine rQ rfl ?_|refine rY zaA ?_|refine rW ?_)
 refine zmQ rfl rfl rfl fun w2 hE2 hm2=>?_
 simp only[stO_some];repeat (first|refine rQ rfl ?_|refine rY zaA ?_|refine rW ?_)
 refine zaJ (Q:=fun y w=>y=.pointer (some ⟨w2.heap.size,0,none⟩)∧Ext w2 w∧w.heap[w2.heap.size]?=some (.cells #[.pointer (some ⟨D,0,none⟩),.map (some w1.heap.size),.int .u64 0] 80)) zaA rfl rfl (by kernel_rfl) (fun u hu=>⟨_,_,.inl (zdI (x:=.tmp 20) (y:=.agg #[.pointer (some ⟨D,0,none⟩),.map (some w1.heap.size),.int .u64 0]) rfl (by simp) u),by rw[hu.heap],(Ext.twin hu).trans _ _ _ (Ext.alloc _ _),by rw[←hu.heap];exact zaX _ _⟩) ?_
 rintro _ w3 ⟨rfl,hE3,hb3⟩;simp only[stO_some];have hX:StE w2.heap.size D DB DA w1.heap.size RB RA nd nb 0 (zdF T wr) [] w3:=⟨hb3,⟨0,hE3.row hm2,fun e he=>(by cases he)⟩,hD.ext (hE2.trans _ _ _ hE3),fun e he=>(by cases he),by simp,by simp,by simp⟩
 have hE13:=hE1.trans _ _ _ (hE2.trans _ _ _ hE3);have hXn:v.heap.size≤w2.heap.size:=Nat.le_trans hE1.size hE2.size;have hMn:v.heap.size≤w1.heap.size:=hE1.size;generalize w2.heap.size=X at hX hXn;generalize w1.heap.size=M at hX hMn;clear hb3 hm2;have hown:∀ b,SOwn X D M RB RA nd b→v.heap.size≤b:=by
  rintro b (rfl|rfl|rfl|⟨d,hd,rfl|rfl⟩)
  ·exact hXn
  ·exact hMn
  ·exact hDn
  ·exact(hRn d hd).1
  ·exact(hRn d hd).2
 have hK3:Kp v (fun _=>False) w3:=zcA hE13;have HS:Svs lf Gf 0 [] 0:=⟨rfl,rfl⟩;repeat (first|refine rQ rfl ?_|refine rY zaA ?_|refine rW ?_)
 (refine zaC rfl (by first|rfl|simp[Region.wanted,yielded,zaG, *]) rfl Tryz.func25 (by kernel_rfl) rfl (by simp[Act.eval, *];try rfl) (zkD (by omega) hX.dk.old) ?_)
 rintro _ S1 w4 _ ⟨rfl,e1,e2⟩;subst S1 w4;simp only[stO_some];repeat (first|refine rQ rfl ?_|refine rY zaA ?_|refine rW ?_)
 refine zaI (fun d f' S' w=>∃ j L turn,d=nb - j∧j≤nb∧Kp v (fun _=>False) w∧Svs lf Gf j L turn∧StE X D DB DA M RB RA nd nb turn (zdF T wr) L w∧f' 8=.pointer (some ⟨X,0,none⟩)∧f' 23=.int .i64 (nb:Nat)∧f' 24=.int .i64 (j:Nat)) nb ⟨0,[],0,by omega,by omega,hK3,HS,hX,by simp,by simp,by simp⟩ ?_;clear g0 g1 f HS hX;rintro d f S' w ⟨j,L,turn,rfl,hj,hK,HS,hX,g8,g23,g24⟩ nxt;repeat (first|refine rQ rfl ?_|refine rY zaA ?_|refine rW ?_)
 by_cases hlt:j<nb
 ·have hjI:(j:Int)<(nb:Int):=by omega
  have hk0:=hK.cell (fun h=>h) hg0;have hk1:Tryz.prog.globals.size≤w.heap.size:=Nat.le_trans hg hK.size;(refine zaB (t:=true) (by simp[Act.eval,g24,g23,hjI,hlt]) ?_;simp only[if_true,if_false,reduceIte,Bool.false_eq_true]);repeat (first|refine rQ rfl ?_|refine rY zaA ?_|refine rW ?_)
  (refine zaC rfl (by first|rfl|simp[Region.wanted,yielded,zaG, *]) rfl Tryz.func26 (by kernel_rfl) rfl (by simp[Act.eval, *];try rfl) (yaT t e j (lf j) (Gf j) hk0 hk1 hlt hn1 hnd hnb (hS j hlt) hX (fun e he h=>by have:=HS.slot e he;omega)) ?_)
  rintro _ S1 w5 _ ⟨rfl,hK5,L',turn',hSv,hX5⟩;simp only[stO_some];repeat (first|refine rQ rfl ?_|refine rY zaA ?_|refine rW ?_)
  refine nxt _ _ _ (nb - (j+1)) (by omega) ⟨j+1,L',turn',rfl,by omega,?_,⟨L,turn,HS,hSv⟩,hX5,by simp[g8],by simp[g23],by simp⟩;refine zkU (Y:=VOwn X M) ((hK.mono fun _ h=>h.elim).trans hK5) ?_
  rintro b (rfl|rfl)
  ·exact hXn
  ·exact hMn
 ·obtain rfl:j=nb:=by omega
  (refine zaB (t:=false) (by simp[Act.eval,g24,g23]) ?_;simp only[if_true,if_false,reduceIte,Bool.false_eq_true]);refine zaK rfl ?_;repeat (first|refine rQ rfl ?_|refine rY zaA ?_|refine rW ?_)
  (refine zaC rfl (by first|rfl|simp[Region.wanted,yielded,zaG, *]) rfl Tryz.func27 (by kernel_rfl) rfl (by simp[Act.eval, *];try rfl) (yfL hb4 hn1 hnd hnb hX) ?_)
  rintro _ S1 w5 _ ⟨rfl,e1,hK5,hX5⟩;simp only[stO_some];repeat (first|refine rQ rfl ?_|refine rY zaA ?_|refine rW ?_)
  refine zaH fun todo=>?_
  refine ret _ _ S1 w5 (.tuple #[.pointer (some ⟨X,0,none⟩),.int .i64 0]) ?_ ⟨zkU (Y:=SOwn X D M RB RA nd) ((hK.mono fun _ h=>h.elim).trans (hK5.mono fun b h=>.inr (.inr h))) hown,X,D,DB,DA,M,RB,RA,L,turn,rfl,HS,hX5,hown⟩
  simp[results,Tryz.results7]
end
def txt(nb:Nat)(x:Nat→Nat→Nat):ByteArray:=strOfNums ((List.range (nb*96)).map fun i=>((flat x i:Nat):Int))
theorem zpV(nb:Nat)(x:Nat→Nat→Nat):(txt nb x).size=nb*96:=by
 have h:(txt nb x).data.toList.length=nb*96:=by
  unfold txt;rw[strOfNums_data];simp
 rw[Array.length_toList]at h;exact h
theorem yjN{nb:Nat}{x:Nat→Nat→Nat}(hx:∀ p i,x p i<256){i:Nat}(hi:i<nb*96):byt (txt nb x) i=flat x i:=by
 unfold byt txt;rw[←Array.getElem?_toList,strOfNums_data];rw[List.map_map,List.getElem?_map,List.getElem?_range hi];have:=hx (i / 96) (i % 96);simp[flat];omega
def byL(n:Nat)(x:Nat→Nat):List Value:=(List.range n).map fun i=>.int .u8 ((x i:Nat):Int)
theorem zjA(n:Nat)(x:Nat→Nat):(byL n x).length=n:=by simp[byL]
theorem zlC{n i:Nat}{x:Nat→Nat}(h:i<n):(byL n x)[i]?=some (.int .u8 (x i:Nat)):=by simp[byL,h]
theorem ykT(p:Nat)(x:Nat→Nat→Nat):byL (p*96) (flat x)++byL 96 (x p)=byL ((p+1)*96) (flat x):=by
 apply List.ext_getElem?;intro i;by_cases h:i<p*96
 ·rw[List.getElem?_append_left (by rw[zjA];exact h),zlC h,zlC (by omega)]
 ·rw[List.getElem?_append_right (by rw[zjA];omega),zjA];by_cases h2:i<(p+1)*96
  ·rw[zlC (by omega),zlC h2];unfold flat;rw[show i / 96=p by omega,show i % 96=i - p*96 by omega]
  ·rw[List.getElem?_eq_none (by rw[zjA];omega),List.getElem?_eq_none (by rw[zjA];omega)]
theorem zsX:∃ i,Tryz.prog.info? 5=some i∧i.zero=some (.int .u8 0)∧i.size=1∧i.bytes=1:=⟨_,rfl,rfl,rfl,rfl⟩
theorem zyM{o:Oper}{a:Act}{l c:Operand}{n:Nat}(hn:n≤10000)(hn0:n≠0)(hop:o.op=.makeSlice 43 l c)(hl:a.eval l=.int .i64 0)(hc:a.eval c=.int .i64 (n:Nat))(u:World):(execOp a.eval o).run Tryz.prog u=.ok (.value (.slice (some ⟨u.heap.size,0,none⟩) 0 n)) (u.alloc (.cells (zcY n) 5)):=by
 obtain⟨inf,hq,h3,h1,h2⟩:=zsX;have w0:IntKind.i64.wrap 0=0:=rfl;have wl:IntKind.i64.wrap (n:Int)=(n:Int):=by rw[IntKind.wrap_i64];omega
 have n1:¬((n:Int)<0):=by omega
 have n2:¬((281474976710656:Int)<(n:Int)):=by omega
 have n3:¬(n > roomBytes):=by simp only[roomBytes];omega
 have hz:(Array.range n).map (fun i=>(#[Value.int .u8 0])[i % 1]!)=zcY n:=by
  unfold zcY;apply Array.map_congr_left;intro i _;rw[Nat.mod_one];rfl
 unfold execOp;simp[hop,hl,hc,Instr.makeSlice,run_underlying Tryz.underlying43,asInt,asIntOf,typeInfo,hq,h1,h2,sizeOf,askRoom,newRow,w0,wl,n1,n2,n3,zeroValue,h3,Value.cells,hn0];have hz':(Array.range n).map (fun x=>[Value.int IntKind.u8 0][x % 1]?.getD default)=zcY n:=by
  rw[←hz];apply Array.map_congr_left;intro i _;rw[Nat.mod_one];rfl
 rw[hz']
section
variable {X D DB DA M:Nat}{RB RA:Nat→Nat}{nd nb turn:Nat}{s:Dsk}{L:List Ent}{w w' v:World}{S:Nat→Prop}
theorem yjO(hb4:4≤nb)(hn1:14≤nd)(hnd:nd≤18)(hnb:nb≤64)(hD:DiskG D DB DA RB RA nd nb s v) :
  zaP Tryz.prog 44 #[.pointer (some ⟨D,0,none⟩)] S v fun x S' v'=>S'=S∧Ext v v'∧∃ g,x=.slice (some ⟨g,0,none⟩) nd nd∧v.heap.size≤g∧zfU v' g nd fun d=>txt nb (s.a d):=by
 obtain⟨ib,zb,ib1,ib2,ib3,ib4,ib5⟩:=yhD;refine zaF Tryz.func44 rfl Tryz.ntmps44 (by simp) fun Stop cc cs ret=>?_
 have g0:argF #[.pointer (some ⟨D,0,none⟩)] 0=.pointer (some ⟨D,0,none⟩):=rfl;generalize argF #[.pointer (some ⟨D,0,none⟩)]=f at g0;have c1:=hD.actc;repeat (first|refine rQ rfl ?_|(refine rO zaA rfl ?_;intro _ hu_ K_ hK_;(have hc:=(Ext.twin hu_).cell c1);go_simp;(try rw[wI _]);(try rw[wU _]);refine hK_ _ ?_;clear hK_ K_ hu_;simp only[sS,sN])|refine rW ?_)
 refine zdO zaA rfl rfl (by kernel_rfl) rfl (m:=nd) (wd:=16) (z:=.string (ByteArray.mk #[])) (by simp) (by simp) (by omega) (by omega) (by omega) Tryz.underlying40 (by kernel_rfl) rfl fun w1 hE1 hr1 hs1=>?_
 simp only[stO_some];have c1':=(hD.ext hE1).actc;generalize hgv:v.heap.size=g at *
 obtain⟨cur,hcs,hr1'⟩:∃ cur:Array Value,cur.size=nd∧w1.heap[g]?=some (.cells cur 9):=⟨_,by simp,hr1⟩;clear hr1;repeat (first|refine rQ rfl ?_|(refine rO zaA rfl ?_;intro _ hu_ K_ hK_;(have hc:=(Ext.twin hu_).cell c1');go_simp;(try rw[wI _]);(try rw[wU _]);refine hK_ _ ?_;clear hK_ K_ hu_;simp only[sS,sN])|refine rW ?_)
 refine zaI (fun d f' S' w=>∃ j cur,d=nd - j∧j≤nd∧S'=S∧Ext v w∧g<w.heap.size∧cur.size=nd∧w.heap[g]?=some (.cells cur 9)∧(∀ i,i<j→cur[i]?=some (.string (txt nb (s.a i))))∧f' 3=.slice (some ⟨g,0,none⟩) nd nd∧f' 18=.slice (some ⟨DA,0,none⟩) nd nd∧f' 19=.int .i64 (nd:Nat)∧f' 20=.int .i64 (j:Nat)) nd ⟨0,cur,by omega,by omega,rfl,hE1,by omega,hcs,hr1',fun i hi=>(by omega),by simp,by simp,by simp,by simp⟩ ?_
 clear g0 f hcs hr1' cur;rintro d f S' w ⟨j,cur,rfl,hj,eS,hEw,hgw,hcs,hrg,hdone,g3,g18,g19,g20⟩ nxt;subst S';repeat (first|refine rQ rfl ?_|refine rY zaA ?_|refine rW ?_)
 by_cases hlt:j<nd
 ·have hjI:(j:Int)<(nd:Int):=by omega
  have hDw:=hD.ext hEw;have cA:=hDw.allA hlt;(refine zaB (t:=true) (by simp[Act.eval,g20,g19,hjI,hlt]) ?_;simp only[if_true,if_false,reduceIte,Bool.false_eq_true]);repeat (first|refine rQ rfl ?_|(refine rO zaA rfl ?_;intro _ hu_ K_ hK_;(have hc:=(Ext.twin hu_).cell cA);go_simp;(try rw[wI _]);(try rw[wU _]);refine hK_ _ ?_;clear hK_ K_ hu_;simp only[sS,sN])|refine rW ?_)
  have hnbI:(nb:Int)*96=((nb*96:Nat):Int):=by omega
  have hN:nb*96≤10000:=by omega
  have hN0:nb*96≠0:=by omega
  generalize hNN:nb*96=N at hnbI hN hN0;refine zaJ (Q:=fun y w2=>y=.slice (some ⟨w.heap.size,0,none⟩) 0 N∧Ext w w2∧w2.heap[w.heap.size]?=some (.cells (zcY N) 5)) zaA rfl rfl (by kernel_rfl) (fun u hu=>⟨_,_,.inl (zyM (l:=.const (.int .i64 0)) (c:=.tmp 27) (n:=N) hN hN0 rfl rfl (by simp[hnbI]) u),by rw[hu.heap],(Ext.twin hu).trans _ _ _ (Ext.alloc _ _),by rw[←hu.heap];exact zaX _ _⟩) ?_
  rintro _ w2 ⟨rfl,hE2,hr2⟩;simp only[stO_some];have how:w2.ownsRow g 5 1 (.slice (some ⟨w.heap.size,0,none⟩) 0 N) (0*96) (byL (0*96) (flat (s.a j))):=⟨rfl,.inr ⟨_,_,_,rfl,by omega,hr2,by omega,by unfold maxLen;omega,by rw[zgP];omega,by simp[byL]⟩⟩;repeat (first|refine rQ rfl ?_|refine rY zaA ?_|refine rW ?_)
  refine zaI (fun d f' S' w'=>∃ p sv,d=nb - p∧p≤nb∧S'=S∧Ext v w'∧g<w'.heap.size∧w'.heap[g]?=some (.cells cur 9)∧w'.ownsRow g 5 1 sv (p*96) (byL (p*96) (flat (s.a j)))∧f' 6=sv∧f' 3=.slice (some ⟨g,0,none⟩) nd nd∧f' 18=.slice (some ⟨DA,0,none⟩) nd nd∧f' 19=.int .i64 (nd:Nat)∧f' 20=.int .i64 (j:Nat)∧f' 4=.int .i64 (j:Nat)∧f' 29=.slice (some ⟨RA j,0,none⟩) nb nb∧f' 30=.int .i64 (nb:Nat)∧f' 31=.int .i64 (p:Nat)) nb ⟨0,_,by omega,by omega,rfl,hEw.trans _ _ _ hE2,Nat.lt_of_lt_of_le hgw hE2.size,hE2.row hrg,how,by simp,by simp[g3],by simp[g18],by simp[g19],by simp[g20],by simp,by simp,by simp,by simp⟩ ?_;clear g3 g18 g19 g20 f how hr2;rintro d f S' w3 ⟨p,sv,rfl,hp,eS,hE3,hg3,hrg3,how,g6,g3,g18,g19,g20,g4,g29,g30,g31⟩ nxt2;subst S';repeat (first|refine rQ rfl ?_|refine rY zaA ?_|refine rW ?_)
  by_cases hlp:p<nb
  ·have hpI:(p:Int)<(nb:Int):=by omega
   have hra:=(hD.ext hE3).ra j hlt;have hz:∀ i,i<96→w3.cell? ⟨RA j,p*96+i,none⟩=some (.int .u8 (s.a j p i:Nat)):=fun i hi=>by
    rw[cell_of_row _ _ _ _ _ _ hra,zaZ _ _ _ (by omega)];unfold flat;rw[show(p*96+i) / 96=p by omega,show(p*96+i) % 96=i by omega]
   (refine zaB (t:=true) (by simp[Act.eval,g31,g30,hpI,hlp]) ?_;simp only[if_true,if_false,reduceIte,Bool.false_eq_true]);repeat (first|refine rQ rfl ?_|refine rY zaA ?_|refine rW ?_)
   refine zaO zaA rfl rfl (by kernel_rfl) (fun u hu=>zcZ (x:=.tmp 33) (b:=RA j) (off:=p*96) (y:=s.a j p) rfl (by simp) fun i hi=>(Ext.twin hu).cell (hz i hi)) ?_
   simp only[stO_some];repeat (first|refine rQ rfl ?_|refine rY zaA ?_|refine rW ?_)
   refine zaN zaA rfl rfl (by kernel_rfl) (.agg Tryz.zeroCells137) rfl (by kernel_rfl) fun w4 hE4 hb4' hs4=>?_
   simp only[stO_some];rw[z92]at hb4';repeat (first|refine rQ rfl ?_|refine rY zaA ?_|refine rW ?_)
   refine zaL zaA rfl rfl (by kernel_rfl) (x:=.tmp 8) (y:=.tmp 34) (g:=w3.heap.size) (c:=zaE 96 (s.a j p)) rfl (by simp) (by simp) hb4' (by kernel_rfl) (by rw[zaV];exact zgP 96) zlB fun w5 hW5=>?_
   simp only[stO_none];have hE5:Ext w3 w5:=zmB hE4 (Nat.le_refl _) hW5;have hb5:=hW5.at_;have gw:Gr w3 w5 none:=⟨hE5.os,hE5.output,hE5.size,fun k hk _=>hE5.block k hk⟩
   have how5:=yiL how gw (by simp);have hrg5:=hE5.row hrg3;have hcell:∀ i y,(byL 96 (s.a j p))[i]?=some y→w5.cell? ((⟨w3.heap.size,0,none⟩:Addr).add i)=some y:=fun i y hy=>by
    have hi:i<96:=by have:=(List.getElem?_eq_some_iff.1 hy).1;rwa [zjA]at this
    rw[zlC hi]at hy;cases hy
    rw[Addr.add_lit,cell_of_row _ _ _ _ _ _ hb5,Nat.zero_add];exact zaZ _ _ _ hi
   repeat (first|refine rQ rfl ?_|refine rY zaA ?_|refine rW ?_)
   refine zaJ zaA rfl rfl (by kernel_rfl) (fun u hu=>zhC (s:=.tmp 35) (x:=.tmp 36) (ad:=⟨w3.heap.size,0,none⟩) (m:=96) (c:=96) (news:=byL 96 (s.a j p)) hu g Tryz.underlying43 ib1 ib2 ib3 ib4 ib5 how5 (zjA _ _) hcell (fun y hy=>by obtain⟨i,_,rfl⟩:=List.mem_map.1 hy;rfl) (by omega) (by omega) (by have:=hE5.size;omega) rfl (by simp[g6]) (by simp)) ?_;rintro y w6 ⟨how6,hG6,_⟩;simp only[stO_some];rw[ykT,show p*96+96=(p+1)*96 by omega]at how6;have hE6:Ext v w6:=Gr.over (hE3.trans _ _ _ hE5) hG6 fun b hb=>by
    have:=zwY how5 hb;omega
   have hrg6:w6.heap[g]?=some (.cells cur 9):=hG6.row hrg5 fun e=>by
    obtain⟨c',hc'⟩:=ygJ how5 e.symm;rw[hrg5]at hc';simp at hc'
   repeat (first|refine rQ rfl ?_|refine rY zaA ?_|refine rW ?_)
   refine nxt2 _ _ _ (nb - (p+1)) (by omega) ⟨p+1,y,rfl,by omega,rfl,hE6,by have:=hE5.size;have:=hG6.size;omega,hrg6,how6,by simp,by simp[g3],by simp[g18],by simp[g19],by simp[g20],by simp[g4],by simp[g29],by simp[g30],by simp⟩
  ·obtain rfl:p=nb:=by omega
   (refine zaB (t:=false) (by simp[Act.eval,g31,g30]) ?_;simp only[if_true,if_false,reduceIte,Bool.false_eq_true]);refine zaK rfl ?_;repeat (first|refine rQ rfl ?_|refine rY zaA ?_|refine rW ?_)
   obtain⟨gB,cap,cu,rfl,q2,q3,q4,q5,q6⟩:=zgW how (.inl (by omega))
   have kc:=fun(u:World) (hu:Vw.Twin w3 u)=>run_convert_bytes_arg (P:=Tryz.prog) u 43 5 Tryz.underlying43 Tryz.underlying5 gB 0 (p*96) cap ((List.range (p*96)).map fun i=>((flat (s.a j) i:Nat):Int)) (by simp) (fun i hi=>(by
    rw[(Ext.twin hu).cell (x:=.int .u8 ((flat (s.a j) i:Nat):Int)) (by rw[cell_of_row _ _ _ _ _ _ q3,Nat.zero_add,q6 i hi,zlC hi])]
    simp[List.getD,hi])) 9 Tryz.underlying9
   refine zaO zaA rfl rfl (by kernel_rfl) (x:=.string (txt p (s.a j))) (fun u hu=>?_) ?_
   ·unfold execOp;simp only[Sem.run_bind];simp[g6,kc u hu,Act.eval];rfl
   simp only[stO_some];repeat (first|refine rQ rfl ?_|refine rY zaA ?_|refine rW ?_)
   refine zaW zaA rfl rfl (by kernel_rfl) (x:=.tmp 43) (y:=.tmp 42) (g:=g) (j:=j) (z:=.string (txt p (s.a j))) rfl (by simp) (by simp) rfl rfl hrg3 (by omega) (by kernel_rfl) fun w4 hW=>?_
   simp only[stO_none];repeat (first|refine rQ rfl ?_|refine rY zaA ?_|refine rW ?_)
   refine nxt _ _ _ (nd - (j+1)) (by omega) ⟨j+1,_,rfl,by omega,rfl,zmB hE3 (by omega) hW,by rw[hW.size];exact hg3,by simp[hcs],hW.at_,fun i hi=>?_,by simp[g3],by simp[g18],by simp[g19],by simp[g20]⟩
   rw[Array.getElem?_setIfInBounds];by_cases e:j=i
   ·subst e;rw[if_pos rfl,if_pos (by omega)]
   ·rw[if_neg e];exact hdone i (by omega)
 ·obtain rfl:j=nd:=by omega
  (refine zaB (t:=false) (by simp[Act.eval,g20,g19]) ?_;simp only[if_true,if_false,reduceIte,Bool.false_eq_true]);refine zaK rfl ?_;repeat (first|refine rQ rfl ?_|refine rY zaA ?_|refine rW ?_)
  refine zaH fun todo=>?_
  refine ret _ _ S w (.slice (some ⟨g,0,none⟩) j j) ?_ ⟨rfl,hEw,g,rfl,by omega,fun i hi=>?_⟩
  ·simp[results,Tryz.results44]
  ·rw[cell_of_row _ _ _ _ _ _ hrg];exact hdone i hi
theorem zxN(hb4:4≤nb)(hn1:14≤nd)(hnd:nd≤18)(hnb:nb≤64)(hX:StE X D DB DA M RB RA nd nb turn s L v) :
  zaP Tryz.prog 16 #[.pointer (some ⟨X,0,none⟩)] S v fun x S' v'=>S'=S∧Ext v v'∧∃ g,x=.slice (some ⟨g,0,none⟩) nd nd∧v.heap.size≤g∧zfU v' g nd fun d=>txt nb (s.a d):=by
 refine zaF Tryz.func16 rfl Tryz.ntmps16 (by simp) fun Stop cc cs ret=>?_
 have g0:argF #[.pointer (some ⟨X,0,none⟩)] 0=.pointer (some ⟨X,0,none⟩):=rfl;generalize argF #[.pointer (some ⟨X,0,none⟩)]=f at g0;have c0:=hX.c0;repeat (first|refine rQ rfl ?_|(refine rO zaA rfl ?_;intro _ hu_ K_ hK_;(have hc:=(Ext.twin hu_).cell c0);go_simp;(try rw[wI _]);(try rw[wU _]);refine hK_ _ ?_;clear hK_ K_ hu_;simp only[sS,sN])|refine rW ?_)
 (refine zaC rfl (by first|rfl|simp[Region.wanted,yielded,zaG, *]) rfl Tryz.func44 (by kernel_rfl) rfl (by simp[Act.eval, *];try rfl) (yjO hb4 hn1 hnd hnb hX.dk) ?_)
 rintro _ S1 w1 _ ⟨e1,hE1,g,rfl,hg,hT⟩;subst S1;simp only[stO_some];repeat (first|refine rQ rfl ?_|refine rY zaA ?_|refine rW ?_)
 refine zaH fun todo=>?_
 refine ret _ _ S w1 (.slice (some ⟨g,0,none⟩) nd nd) ?_ ⟨rfl,hE1,g,rfl,hg,hT⟩;simp[results,Tryz.results16]
end
end Go.Proofs.YtpiefebngnlfoaaGreatDoor
