import Derived.Test.YtpiefebngnlfoaaGreatDoorNh
import Derived.Test.YtpiefebngnlfoaaGreatDoorMj
set_option maxRecDepth 100000
set_option maxHeartbeats 16000000
set_option linter.unusedVariables false
set_option linter.unusedSimpArgs false
namespace Go.Proofs.YtpiefebngnlfoaaGreatDoor
open Go.RowKit Go.Conc Go.Vw
structure Dm where
 disk:Int
 lost:Bool
 frm:Int
 p:Option Addr
 nb:Nat
 cap:Nat
 bt:Nat→Bool
def yfQ(go nd co k Bl off nl cap i:Nat)(t:ByteArray)(a:Dm)(j:Nat)(x:Value)(w:World):Prop:=
 match j with
 |0=>x=.slice (some ⟨go,0,none⟩) nd co
 |1=>x=.int .i64 (k:Nat)
 |2=>x=.slice (some ⟨go,0,none⟩) nd co
 |3=>x=.int .i64 (k:Nat)
 |4=>x=.pointer (some ⟨go,k,none⟩)
 |5=>x=.string t
 |6=>x=.slice (some ⟨Bl,off,none⟩) nl cap
 |7=>x=.int .i64 (i:Nat)
 |8=>x=.pointer (some ⟨Bl,off+i*4,none⟩)
 |9=>x=.pointer (some ⟨Bl,off+i*4+2,none⟩)
 |10=>x=.int .i64 a.frm
 |11=>x=.slice (some ⟨Bl,off,none⟩) nl cap
 |12=>x=.int .i64 (i:Nat)
 |13=>x=.pointer (some ⟨Bl,off+i*4,none⟩)
 |14=>x=.pointer (some ⟨Bl,off+i*4+3,none⟩)
 |15=>x=.slice a.p a.nb a.cap
 |16=>∃ d,x=.string d∧zlQ t d
 |17=>x=.pointer (some ⟨go,k,none⟩)
 |_=>True
theorem ybA(go nd co k Bl off nl cap i:Nat)(t:ByteArray)(a:Dm):∀ j x w w',yfQ go nd co k Bl off nl cap i t a j x w→Ext w w'→yfQ go nd co k Bl off nl cap i t a j x w':=by
 intro j x w w' h hE;unfold yfQ at h ⊢;exact h
section
variable {w w' v:World}{S:Nat→Prop}
theorem yhL{f:Nat→Value}{Stop:Goroutine→(Nat→Prop)→World→Prop}{cs:List Frame}{k0:List Item}(go nd co k Bl off nl cap i:Nat)(t:ByteArray)(a:Dm)(C:Array Value)(hk:k<nd)(hnd:nd≤18)(hi:i<nl)(hkC:k<C.size)(hro:w.heap[go]?=some (.cells C 9))(hCk:C[k]?=some (.string t))
  (h1:-9223372036854775808≤a.frm) (h2:a.frm≤9223372036854775807) (hnb:a.nb<2 ^ 62) (hB:zpT w a.p a.nb a.bt) (ht1:96≤t.size) (ht2:t.size≤10000)
  (c2:w.cell? ⟨Bl,off+i*4+2,none⟩=some (.int .i64 a.frm)) (c3:w.cell? ⟨Bl,off+i*4+3,none⟩=some (.slice a.p a.nb a.cap))
  (g1:f 1=.slice (some ⟨Bl,off,none⟩) nl cap) (g5:f 5=.slice (some ⟨go,0,none⟩) nd co) (g8:f 8=.int .i64 (i:Nat)) (g9:f 9=.int .i64 (k:Nat))
  (next:∀ w1 w' d f',Ext w w1→zlQ t d→Wr w1 go (.cells (C.setIfInBounds k (.string d)) 9) w'→(∀ s,s<10→f' s=f s)→Vw.Reach Tryz.prog Stop (G ((_root_.Go.Conc.base 15).at ⟨TA 70 f',[]⟩ (.inRegion ((zcR 14 (Tryz.f15.body.getD .skip)).getD #[]) [] :: k0)) cs) S w') :
  Vw.Reach Tryz.prog Stop (G ((_root_.Go.Conc.base 15).at ⟨TA 70 f,[]⟩ (.code (.region 14 ((zcR 14 (Tryz.f15.body.getD .skip)).getD #[]) true) :: k0)) cs) S w:=by
 have e0:zcR 14 (Tryz.f15.body.getD .skip)=some _:=rfl;rw[e0]at next ⊢
 simp only[Option.getD_some]at next ⊢
 clear e0;have hkI:(k:Int)<(nd:Int):=by omega
 have hiI:(i:Int)<(nl:Int):=by omega
 refine zhP (by kernel_rfl) (by kernel_rfl) (by kernel_rfl) 18 [0,1,2,3,4,5,6,7,8,9,10,11,12,13,14,15,16,17] (by kernel_rfl) (yfQ go nd co k Bl off nl cap i t a) (fun S' w'=>S'=S∧Ext w w') (fun S' f w'=>S'=S∧∃ w1 d,Ext w w1∧zlQ t d∧Wr w1 go (.cells (C.setIfInBounds k (.string d)) 9) w') (fun S' w w' h hE=>⟨h.1,h.2.trans _ _ _ hE⟩) (fun S' i f x w w' hi hA hm' h hE=>by have hi':i<19:=hi;simp at hA;omega) (ybA _ _ _ _ _ _ _ _ _ _ _) ?_ ⟨rfl,.refl _⟩ ?_ ?_ ?_
 ·intro j hj he x w h;have hj':j<19:=hj;rcases(by omega:j=0∨j=1∨j=2∨j=3∨j=4∨j=5∨j=6∨j=7∨j=8∨j=9∨j=10∨j=11∨j=12∨j=13∨j=14∨j=15∨j=16∨j=17∨j=18) with rfl|rfl|rfl|rfl|rfl|rfl|rfl|rfl|rfl|rfl|rfl|rfl|rfl|rfl|rfl|rfl|rfl|rfl|rfl<;>first|(cases he;done)|exact trivial
 ·intro j f' S1 w5 rest hj hne hB0 hf hd nxt;have hj':j<19:=hj;rcases(by omega:j=0∨j=1∨j=2∨j=3∨j=4∨j=5∨j=6∨j=7∨j=8∨j=9∨j=10∨j=11∨j=12∨j=13∨j=14∨j=15∨j=16∨j=17∨j=18) with rfl|rfl|rfl|rfl|rfl|rfl|rfl|rfl|rfl|rfl|rfl|rfl|rfl|rfl|rfl|rfl|rfl|rfl|rfl
  ·have r0:f' 5=.slice (some ⟨go,0,none⟩) nd co:=(hf 5 (zcG (by kernel_rfl))).trans g5;clear hd hf;refine rY zaA ?_;exact nxt _ w5 (.refl w5) rfl
  ·have r0:f' 9=.int .i64 (k:Nat):=(hf 9 (zcG (by kernel_rfl))).trans g9;clear hd hf;refine rY zaA ?_;exact nxt _ w5 (.refl w5) rfl
  ·have r0:f' 5=.slice (some ⟨go,0,none⟩) nd co:=(hf 5 (zcG (by kernel_rfl))).trans g5;clear hd hf;refine rY zaA ?_;exact nxt _ w5 (.refl w5) rfl
  ·have r0:f' 9=.int .i64 (k:Nat):=(hf 9 (zcG (by kernel_rfl))).trans g9;clear hd hf;refine rY zaA ?_;exact nxt _ w5 (.refl w5) rfl
  ·have d0:f' 53=.slice (some ⟨go,0,none⟩) nd co:=hd 2 (zaD (by kernel_rfl));have d1:f' 54=.int .i64 (k:Nat):=hd 3 (zaD (by kernel_rfl));clear hd hf;refine rY zaA ?_;exact nxt _ w5 (.refl w5) rfl
  ·have d0:f' 55=.pointer (some ⟨go,k,none⟩):=hd 4 (zaD (by kernel_rfl));obtain⟨eS,hE⟩:=hB0 (by simp);subst S1;have cc0:w5.cell? ⟨go,k,none⟩=some (.string t):=by rw[cell_of_row _ _ _ _ _ _ (hE.row hro)];exact hCk
   clear hd hB0 hf;(refine rO zaA rfl ?_;intro _ hu_ K_ hK_;(have hc:=(Ext.twin hu_).cell cc0);go_simp;(try rw[wI _]);(try rw[wU _]);refine hK_ _ ?_;clear hK_ K_ hu_;simp only[sS,sN]);exact nxt _ w5 (.refl w5) rfl
  ·have r0:f' 1=.slice (some ⟨Bl,off,none⟩) nl cap:=(hf 1 (zcG (by kernel_rfl))).trans g1;clear hd hf;refine rY zaA ?_;exact nxt _ w5 (.refl w5) rfl
  ·have r0:f' 8=.int .i64 (i:Nat):=(hf 8 (zcG (by kernel_rfl))).trans g8;clear hd hf;refine rY zaA ?_;exact nxt _ w5 (.refl w5) rfl
  ·have d0:f' 57=.slice (some ⟨Bl,off,none⟩) nl cap:=hd 6 (zaD (by kernel_rfl));have d1:f' 58=.int .i64 (i:Nat):=hd 7 (zaD (by kernel_rfl));clear hd hf;refine rY zaA ?_;exact nxt _ w5 (.refl w5) rfl
  ·have d0:f' 59=.pointer (some ⟨Bl,off+i*4,none⟩):=hd 8 (zaD (by kernel_rfl));clear hd hf;refine rY zaA ?_;exact nxt _ w5 (.refl w5) rfl
  ·have d0:f' 60=.pointer (some ⟨Bl,off+i*4+2,none⟩):=hd 9 (zaD (by kernel_rfl));obtain⟨eS,hE⟩:=hB0 (by simp);subst S1;have cc0:=hE.cell c2;clear hd hB0 hf;(refine rO zaA rfl ?_;intro _ hu_ K_ hK_;(have hc:=(Ext.twin hu_).cell cc0);go_simp;(try rw[wI _]);(try rw[wU _]);refine hK_ _ ?_;clear hK_ K_ hu_;simp only[sS,sN]);exact nxt _ w5 (.refl w5) rfl
  ·have r0:f' 1=.slice (some ⟨Bl,off,none⟩) nl cap:=(hf 1 (zcG (by kernel_rfl))).trans g1;clear hd hf;refine rY zaA ?_;exact nxt _ w5 (.refl w5) rfl
  ·have r0:f' 8=.int .i64 (i:Nat):=(hf 8 (zcG (by kernel_rfl))).trans g8;clear hd hf;refine rY zaA ?_;exact nxt _ w5 (.refl w5) rfl
  ·have d0:f' 62=.slice (some ⟨Bl,off,none⟩) nl cap:=hd 11 (zaD (by kernel_rfl));have d1:f' 63=.int .i64 (i:Nat):=hd 12 (zaD (by kernel_rfl));clear hd hf;refine rY zaA ?_;exact nxt _ w5 (.refl w5) rfl
  ·have d0:f' 64=.pointer (some ⟨Bl,off+i*4,none⟩):=hd 13 (zaD (by kernel_rfl));clear hd hf;refine rY zaA ?_;exact nxt _ w5 (.refl w5) rfl
  ·have d0:f' 65=.pointer (some ⟨Bl,off+i*4+3,none⟩):=hd 14 (zaD (by kernel_rfl));obtain⟨eS,hE⟩:=hB0 (by simp);subst S1;have cc0:=hE.cell c3;clear hd hB0 hf;(refine rO zaA rfl ?_;intro _ hu_ K_ hK_;(have hc:=(Ext.twin hu_).cell cc0);go_simp;(try rw[wI _]);(try rw[wU _]);refine hK_ _ ?_;clear hK_ K_ hu_;simp only[sS,sN]);exact nxt _ w5 (.refl w5) rfl
  ·have d0:f' 56=.string t:=hd 5 (zaD (by kernel_rfl));have d1:f' 61=.int .i64 a.frm:=hd 10 (zaD (by kernel_rfl));have d2:f' 66=.slice a.p a.nb a.cap:=hd 15 (zaD (by kernel_rfl));obtain⟨eS,hE⟩:=hB0 (by simp);subst S1;clear hd hB0 hf;(refine zaC rfl (by first|rfl|simp[Region.wanted,yielded,zaG, *]) rfl Tryz.func43 (by kernel_rfl) rfl (by simp[Act.eval, *];try rfl) (yfG t a.frm h1 h2 a.p a.nb a.cap a.bt hnb (hB.ext hE) ht1 ht2) ?_)
   rintro _ S1 w6 _ ⟨e1,hE6,d,rfl,hT⟩;subst S1;exact nxt _ w6 hE6 ⟨d,rfl,hT⟩
  ·have d0:f' 51=.slice (some ⟨go,0,none⟩) nd co:=hd 0 (zaD (by kernel_rfl));have d1:f' 52=.int .i64 (k:Nat):=hd 1 (zaD (by kernel_rfl));clear hd hf;refine rY zaA ?_;exact nxt _ w5 (.refl w5) rfl
  ·exact absurd rfl hne
 ·rintro f' S1 w5 rest ⟨eS,hE⟩ hf hd nxt;subst S1;obtain⟨d,d0,hT⟩:∃ d,f' 67=.string d∧zlQ t d:=hd 16 (by simp);have d1:f' 68=.pointer (some ⟨go,k,none⟩):=hd 17 (by simp);clear hd hf;refine zaJ zaA rfl rfl (by kernel_rfl) (fun u hu=>zyB (x:=.tmp 68) (y:=.tmp 67) (j:=k) (z:=.string d) hu (hE.row hro) hkC rfl rfl rfl (by simp[d1]) (by simp[d0]) (by kernel_rfl)) ?_;rintro x w6 hW;exact nxt x S w6 ⟨rfl,w5,d,hE,hT,hW⟩ trivial fun j x' hj hnd h=>h
 ·rintro f' S1 w5 ⟨eS,w1,d,hE,hT,hW⟩ hf hd;subst S1;exact next w1 w5 d f' hE hT hW fun s h=>hf s (zgZ (a:=0) (b:=10) (by kernel_rfl) (Nat.zero_le _) h)
end
end Go.Proofs.YtpiefebngnlfoaaGreatDoor
