import Derived.Test.YtpiefebngnlfoaaGreatDoorLe
import Derived.Conc.WgGenN3
import Derived.Conc.MuWords
set_option maxRecDepth 99999
set_option maxHeartbeats 0
set_option linter.unusedVariables false
set_option linter.unusedSimpArgs false
namespace Go.Vw
open Go.Conc Go.ConcN Go.RowKit Go.Conc.Lib Go.ConcR.Gen Go.ConcN.Gen
open Go.ConcR (KK wgBlock WgAt stA smA rd wr mk DC0)
section
variable {L:WgLink}{P:Program}{Wg:Nat}{b₀ : Frame}{a₀ : Act}{ops₀ : Array Oper}{i₀ : Nat}{rest₀ : List Nat}{k₀ : List Item}{cs:List Frame}{qt:Nat}
theorem pN{P:Program} : ∀{n d:Nat}{g:Goroutine},QuitsD P n d g->∀k,QuitsD P (n+k) d g
 |n,d,g,h,0=>h
 |0,d,g,h,k+1=>.inl h
 |n+1,d,g,h,k+1=>by
  rw[show n+1+(k+1)=(n+(k+1))+1 by omega];rcases h with h|⟨h1,g',es,h2,h3,h4⟩
  .exact .inl h
  .exact .inr ⟨h1,g',es,h2,h3,pN h4 (k+1)⟩
theorem Tp(H:WgLib P L)(hT:QuitsD P qt 0 (G (b₀.at (a₀.put ((ops₀[i₀]?).bind (·.dst)) (.tuple #[])) (.inRegion ops₀ rest₀::k₀)) cs))(w:World)(hF:WgLive L.tWg Wg w):Goes P false (RL L.tWg Wg) DC0 (nL P L.tWg Wg) 30
   (G ((base L.add).at ⟨#[.pointer (some ⟨Wg,0,none⟩),.int .i64 (-1)]++Array.replicate 115 undef,[]⟩ [.code (body_add L)]) (b₀.at a₀ (.inRegion ops₀ (i₀::rest₀)::k₀)::cs)) w:=by
 lib_facts;simp only[body_add,addFn,ao,Array.replicate_succ,Array.replicate_zero,List.push_toArray,List.append_toArray,List.nil_append,List.cons_append];repeat w_go (λh r=>r h)
 u_conv H.underlying_tWgP H.room_tWg (WgLive.cell0 hF).choose_spec (λh r=>r h) hF;refine Goes.stop (λw₁ h₁=>?_);replace hF:=h₁ hF;clear h₁;refine⟨rfl,_,stepG_markAt .releaseMerge (by simp) rfl rfl (by k_ne) rfl H.f_relMerge (x_relMerge_n L) (x_relMerge_b L) (x_relMerge_x L) (x_relMerge_f L) (by simp[Act.eval,stA]),10,?_⟩;walk_nrm;repeat w_go (λh r=>r h)
 refine Goes.stop (λw₁ h₁=>?_);replace hF:=h₁ hF;clear h₁;refine⟨rfl,_,stepG_mark0 .disable (by simp) rfl rfl (by k_ne) rfl H.f_disable (x_disable_n L) (x_disable_b L) (x_disable_x L) (x_disable_f L),60,?_⟩;walk_nrm;repeat w_go (λh r=>r h)
 u_defer (λh r=>r h) hF;repeat w_go (λh r=>r h)
 u_bub (λh r=>r h) hF;repeat w_go (λh r=>r h)
 u_call H.f_uAdd (nm_uAdd L) uAddFn (λh r=>r h) hF;repeat w_go (λh r=>r h)
 refine Goes.stop (λw₁ h₁=>?_);clear h₁ hF;refine⟨rfl,λv wt KV hv hw=>?_⟩
 obtain⟨S,hS⟩:∃S:Int,(v:Int)*KK+(wt:Int)=S:=⟨_,rfl⟩;have eS:IntKind.u64.wrap (((v:Int)+1)*KK+(wt:Int)+18446744069414584320)=S:=by rw[IntKind.wrap_u64,<-hS];simp only[KK];omega
 have a1:S/4294967296=(v:Int):=by rw[<-hS];simp only[KK];omega
 have b1:bits .and .u64 S 2147483648=0:=by rw[<-hS];have:=st_flag v wt (by omega) KV;simpa [KK] using this
 have b2:bits .and .u64 S 2147483647=(wt:Int):=by rw[<-hS];have:=st_waiters v wt (by omega) KV;simpa [KK] using this
 have c1:IntKind.i32.wrap (v:Int)=(v:Int):=by rw[IntKind.wrap_i32];omega
 have q3:decide ((v:Int)<0)=false:=decide_eq_false (by omega);rw[hS];refine⟨_,(stepG_add_atomic rfl rfl (by k_ne) rfl H.f_addU64 (x_addU64_n L) (x_addU64_b L) (x_addU64_x L) .u64 (x_addU64_f L) rfl rfl hw.cellSt (hw.thaw 0)).trans (by rw[eS];rfl),λhl=>?last,λdy=>?quit⟩
 case quit=>
  clear hw eS;refine⟨qt+120,?_⟩;rcases Nat.eq_zero_or_pos v with rfl|E2
  .obtain rfl:wt=0:=by omega
   obtain rfl:S=0:=by simpa using hS.symm
   clear hS a1 b1 b2 c1 q3;walk_nrm;repeat (q_go;try q_fix)
   q_leave1 H.f_uAdd;repeat (q_go;try q_fix)
   q_enable;q_leave0 H.f_add;exact pN hT _
  .clear hS;have q4:decide (0<(v:Int))=true:=decide_eq_true (by omega);have q5:((v:Int)==0)=false:=by simp;omega
   have q6:decide ((v:Int)=0)=false:=decide_eq_false (by omega);have u0:IntKind.u32.wrap 0=0:=by decide
   have u1:IntKind.u32.wrap 1=1:=by decide
   obtain rfl|rfl:wt=0∨wt=1:=by omega
   .have b3:bits .and .u64 S 2147483647=0:=by simpa using b2
    clear b2;walk_nrm;q_auto;iterate 2 q_go
    q_leave1 H.f_uAdd;q_auto;iterate 4 q_go
    iterate 4 q_auto
    iterate 2 q_skip
    q_auto;iterate 5 q_go
    iterate 4 q_auto
    iterate 3 q_go
    iterate 4 q_auto
    iterate 4 q_go
    iterate 5 q_auto
    iterate 4 q_skip
    q_auto;iterate 6 q_go
    iterate 2 q_auto
    iterate 6 q_go
    iterate 3 q_auto
    iterate 2 q_skip
    iterate 2 q_auto
    iterate 4 q_skip
    q_auto;iterate 6 q_go
    iterate 3 q_auto
    iterate 2 q_skip
    q_auto;iterate 3 q_go
    q_enable;q_leave0 H.f_add;exact pN hT _
   .have b3:bits .and .u64 S 2147483647=1:=by simpa using b2
    clear b2;walk_nrm;q_auto;iterate 2 q_go
    q_leave1 H.f_uAdd;q_auto;iterate 4 q_go
    iterate 4 q_auto
    iterate 2 q_skip
    q_auto;iterate 5 q_go
    iterate 4 q_auto
    iterate 3 q_go
    iterate 4 q_auto
    iterate 4 q_go
    iterate 5 q_auto
    iterate 4 q_skip
    q_auto;iterate 6 q_go
    iterate 2 q_auto
    iterate 6 q_go
    iterate 7 q_auto
    iterate 4 q_skip
    q_auto;iterate 6 q_go
    iterate 3 q_auto
    iterate 2 q_skip
    q_auto;iterate 3 q_go
    q_enable;q_leave0 H.f_add;exact pN hT _
 case last=>
  obtain⟨rfl,rfl⟩:=hl;obtain rfl:S=1:=by simpa using hS.symm
  have hF:WgLive L.tWg Wg (w₁.setCell (stA Wg) (.int .u64 1)):=⟨_,_,hw.setSt 1⟩;clear hS a1 b1 b2 c1 q3 hw eS;refine⟨140,?_⟩;walk_nrm;repeat w_go (λh r=>r h)
  u_leave1 H.f_uAdd (λh r=>r h) hF;repeat w_go (λh r=>r h)
  u_call H.f_uLoad (nm_uLoad L) uLoadFn (λh r=>r h) hF;repeat w_go (λh r=>r h)
  refine Goes.stop (λw₂ h₂=>?_);clear h₂ hF;refine⟨rfl,λhw=>⟨_,stepG_load_atomic rfl rfl (by k_ne) rfl H.f_loadU64 (x_loadU64_n L) (x_loadU64_b L) (x_loadU64_x L) .u64 (x_loadU64_f L) rfl hw.cellSt,60,?_⟩⟩
  have hF:WgLive L.tWg Wg w₂:=⟨_,_,hw⟩;clear hw;walk_nrm;repeat w_go (λh r=>r h)
  u_leave1 H.f_uLoad (λh r=>r h) hF;repeat w_go (λh r=>r h)
  u_call H.f_uStore (nm_uStore L) uStoreFn (λh r=>r h) hF;repeat w_go (λh r=>r h)
  refine Goes.stop (λw₃ h₃=>?_);clear h₃ hF;refine⟨rfl,λhw=>⟨_,stepG_store_atomic rfl rfl (by k_ne) rfl H.f_storeU64 (x_storeU64_n L) (x_storeU64_b L) (x_storeU64_x L) (x_storeU64_f L) rfl rfl hw.cellSt (hw.thaw 0),60,?_⟩⟩
  have hF:WgLive L.tWg Wg (w₃.setCell (stA Wg) (.int .u64 0)):=⟨_,_,hw.setSt 0⟩;clear hw;walk_nrm;repeat w_go (λh r=>r h)
  u_leave0 H.f_uStore (λh r=>r h) hF;repeat w_go (λh r=>r h)
  refine Goes.stop (λw₄ h₄=>?_);clear h₄ hF;refine⟨rfl,mayWake_entry rfl rfl H.f_semrelease (x_semrelease_b L),λhw=>⟨_,(stepG_semrelease rfl rfl (by k_ne) rfl H.f_semrelease (x_semrelease_n L) (x_semrelease_b L) (x_semrelease_x L) (x_semrelease_f L) (by simp[Act.eval,smA]) hw.cellSm (hw.thaw 1)).trans (by rfl),qt+30,?_⟩⟩
  clear hw;walk_nrm;repeat q_go
  q_enable;q_leave0 H.f_add;exact pN hT _
end
section
variable {L:WgLink}{P:Program}{Wg:Nat}{cs:List Frame}{qt:Nat}
theorem Sc(H:WgLib P L){c:Frame}(b8:c.mode=.returning)(hT:QuitsD P qt 0 (G c cs))(w:World)(hF:WgLive L.tWg Wg w):Goes P false (RL L.tWg Wg) DC0 (nL P L.tWg Wg) 34 (G ((baseD L.done).at ⟨#[.pointer (some ⟨Wg,0,none⟩),undef,undef,undef],[]⟩ [.code (body_done L)]) (c::cs)) w:=by
 lib_facts;simp only[body_done,doneFn,ao];repeat w_go (λh r=>r h)
 u_in (λh r=>r h) hF;refine goes_call rfl rfl (by k_ne) rfl H.f_add (nm_add L) rfl ⟨by u_nil,?_⟩;walk_nrmf addFn;have hA:=@Tp L P Wg;simp only[body_add,addFn,ao,Array.replicate_succ,Array.replicate_zero,List.push_toArray,List.append_toArray,List.nil_append,List.cons_append]at hA;refine Goes.more (hA (qt:=qt+3) H ?_ _ hF);q_c stepG_region_end;q_c stepG_end;exact QuitsD.leaveD rfl rfl H.f_done rfl b8 hT
def pZ(L:WgLink)(Wg:Nat):List Deferred:=[dcall L.done #[.pointer (some ⟨Wg,0,none⟩)]]
theorem Sw(H:WgLib P L){wb:Frame}{fl:List Frame}{qt:Nat}(hT:∀T todo,QuitsD P qt 0 (G {wb.at ⟨T,[]⟩ todo with mode:=.returning} fl))(tmps:Array Value)(todo:List Item)(w:World)(hF:WgLive L.tWg Wg w):Goes P false (RL L.tWg Wg) DC0 (nL P L.tWg Wg) 35 (eM wb (pZ L Wg) fl tmps todo) w:=by refine Goes.step rfl λw₁ h₁=>?_;have hb:(doneFn L).body=some (body_done L):=rfl;unfold eM;rw[stepG_unwind_enter rfl H.f_done (nm_done L) hb];refine⟨⟨rfl,rfl⟩,?_⟩;exact Sc H rfl (hT tmps todo) w₁ (h₁ hF)
end
